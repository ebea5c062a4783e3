/-
  impl.changeOf: an add record.
-/
import Derived.Test.YtmbiccmndcchhagDoorChBase
import Derived.Deep.RegionWith
namespace Go.Proofs.YtmbiccmndcchhagDoor
open Go.RowKit
set_option linter.unusedVariables false
set_option linter.unusedSimpArgs false

set_option maxHeartbeats 20000000 in
set_option maxRecDepth 100000 in
theorem changeOf_add (tm vo ix t cl sq op : Int) (k v o : ByteArray) (hf : (⟨t, cl, sq, op, k, v, o⟩ : Ent).fits) (A : Addr) (w : World) (hG : w.cell? ⟨0, 0, none⟩ = some (sentR A)) :
    Calls Tryd.prog 67 #[.agg #[.int .i64 2, .int .i64 tm, .int .i64 vo, .int .i64 ix, .int .i64 t, .int .i64 cl, .int .i64 sq, .int .i64 op, .string k, .string v, .string o]] w fun x w' => x = .returned (chAns A ⟨2, tm, vo, ix, ⟨t, cl, sq, op, k, v, o⟩⟩) ∧ Below w.heap.size w w' := by
  have hgl := cell_lt hG
  by_cases htm : tm = 0
  · subst htm
    by_cases hvo : vo = 0
    · subst hvo
      cases hF : (inB ix 1 4096 && entB ⟨t, cl, sq, op, k, v, o⟩)
      · have hR : recB (⟨2, 0, 0, ix, ⟨t, cl, sq, op, k, v, o⟩⟩ : Rec) = false := by simp [recB, hF]
        have hC : chAns A (⟨2, 0, 0, ix, ⟨t, cl, sq, op, k, v, o⟩⟩ : Rec) = .tuple #[.nilIface, .iface 111 (.agg #[sentR A, .int .i64 0])] := by unfold chAns; rw [hR]; rfl
        rw [hC]
        clear hC hR
        have hB0 : Hid (Below w.heap.size w (w.alloc (.cells #[.int .i64 2, .int .i64 0, .int .i64 0, .int .i64 ix, .int .i64 t, .int .i64 cl, .int .i64 sq, .int .i64 op, .string k, .string v, .string o] 93))) := (Below.refl _ _).alloc (Nat.le_refl _) _
        have m1 := fun x w => meth_add_record x w
        have m2 := fun x w => meth_add_fits x w
        go_enter Tryd.func67, Tryd.ntmps67
        go_wp2
        go_region_held3 (fun w' => w'.cell? ⟨w.heap.size, 0, none⟩ = some (.int .i64 2) ∧ w'.cell? ⟨w.heap.size, 1, none⟩ = some (.int .i64 0) ∧ w'.cell? ⟨w.heap.size, 2, none⟩ = some (.int .i64 0) ∧ w'.cell? ⟨w.heap.size, 3, none⟩ = some (.int .i64 ix) ∧ w'.cell? ⟨w.heap.size, 4, none⟩ = some (.int .i64 t) ∧ w'.cell? ⟨w.heap.size, 5, none⟩ = some (.int .i64 cl) ∧ w'.cell? ⟨w.heap.size, 6, none⟩ = some (.int .i64 sq) ∧ w'.cell? ⟨w.heap.size, 7, none⟩ = some (.int .i64 op) ∧ w'.cell? ⟨w.heap.size, 8, none⟩ = some (.string k) ∧ w'.cell? ⟨w.heap.size, 9, none⟩ = some (.string v) ∧ w'.cell? ⟨w.heap.size, 10, none⟩ = some (.string o)) (simp [*, go_sem])
          (first
            | (go_at_call 148; refine (addRecord_any ix ⟨t, cl, sq, op, k, v, o⟩ _).mono ?_; rintro x w1 ⟨rfl, hb1⟩; have hz1 : w.heap.size < w1.heap.size := (by have := hb1.size; simp at this; omega); have q1 := fun (o : Nat) => (bcell hb1).1 w.heap.size o (by simp); have hG1 : w1.cell? ⟨0, 0, none⟩ = some (sentR A) := ((bcell hb1).1 _ 0 (by simp <;> omega)).trans (((bcell ((Below.refl w.heap.size w).alloc (Nat.le_refl _) (.cells #[.int .i64 2, .int .i64 0, .int .i64 0, .int .i64 ix, .int .i64 t, .int .i64 cl, .int .i64 sq, .int .i64 op, .string k, .string v, .string o] 93))).1 _ 0 hgl).trans hG))
            | (go_at_call 147; refine (addFits_any ix ⟨t, cl, sq, op, k, v, o⟩ hf _).mono ?_; rintro x w2 ⟨rfl, hb2⟩; have hz2 : w.heap.size < w2.heap.size := (by have := hb2.size; omega); have q2 := fun (o : Nat) => (bcell hb2).1 w.heap.size o hz1; have hG2 : w2.cell? ⟨0, 0, none⟩ = some (sentR A) := ((bcell hb2).1 _ 0 (by omega)).trans hG1; rw [hF]))
        all_goals go_wp2
        all_goals go_quiet (fail)
        all_goals go_wp2
        all_goals go_ret2
        all_goals exact ⟨rfl, ch_below (ch_trans (ch_trans hB0.out hb1 (by simp)) hb2 (by omega))⟩
      · have hR : recB (⟨2, 0, 0, ix, ⟨t, cl, sq, op, k, v, o⟩⟩ : Rec) = true := by simp [recB, hF]
        have hC : chAns A (⟨2, 0, 0, ix, ⟨t, cl, sq, op, k, v, o⟩⟩ : Rec) = .tuple #[.iface 137 (.agg #[.int .i64 ix, .int .i64 t, .int .i64 cl, .int .i64 sq, .int .i64 op, .string k, .string v, .string o]), .nilIface] := by unfold chAns; rw [hR]; rfl
        rw [hC]
        clear hC hR
        have hB0 : Hid (Below w.heap.size w (w.alloc (.cells #[.int .i64 2, .int .i64 0, .int .i64 0, .int .i64 ix, .int .i64 t, .int .i64 cl, .int .i64 sq, .int .i64 op, .string k, .string v, .string o] 93))) := (Below.refl _ _).alloc (Nat.le_refl _) _
        have m1 := fun x w => meth_add_record x w
        have m2 := fun x w => meth_add_fits x w
        go_enter Tryd.func67, Tryd.ntmps67
        go_wp2
        go_region_held3 (fun w' => w'.cell? ⟨w.heap.size, 0, none⟩ = some (.int .i64 2) ∧ w'.cell? ⟨w.heap.size, 1, none⟩ = some (.int .i64 0) ∧ w'.cell? ⟨w.heap.size, 2, none⟩ = some (.int .i64 0) ∧ w'.cell? ⟨w.heap.size, 3, none⟩ = some (.int .i64 ix) ∧ w'.cell? ⟨w.heap.size, 4, none⟩ = some (.int .i64 t) ∧ w'.cell? ⟨w.heap.size, 5, none⟩ = some (.int .i64 cl) ∧ w'.cell? ⟨w.heap.size, 6, none⟩ = some (.int .i64 sq) ∧ w'.cell? ⟨w.heap.size, 7, none⟩ = some (.int .i64 op) ∧ w'.cell? ⟨w.heap.size, 8, none⟩ = some (.string k) ∧ w'.cell? ⟨w.heap.size, 9, none⟩ = some (.string v) ∧ w'.cell? ⟨w.heap.size, 10, none⟩ = some (.string o)) (simp [*, go_sem])
          (first
            | (go_at_call 148; refine (addRecord_any ix ⟨t, cl, sq, op, k, v, o⟩ _).mono ?_; rintro x w1 ⟨rfl, hb1⟩; have hz1 : w.heap.size < w1.heap.size := (by have := hb1.size; simp at this; omega); have q1 := fun (o : Nat) => (bcell hb1).1 w.heap.size o (by simp); have hG1 : w1.cell? ⟨0, 0, none⟩ = some (sentR A) := ((bcell hb1).1 _ 0 (by simp <;> omega)).trans (((bcell ((Below.refl w.heap.size w).alloc (Nat.le_refl _) (.cells #[.int .i64 2, .int .i64 0, .int .i64 0, .int .i64 ix, .int .i64 t, .int .i64 cl, .int .i64 sq, .int .i64 op, .string k, .string v, .string o] 93))).1 _ 0 hgl).trans hG))
            | (go_at_call 147; refine (addFits_any ix ⟨t, cl, sq, op, k, v, o⟩ hf _).mono ?_; rintro x w2 ⟨rfl, hb2⟩; have hz2 : w.heap.size < w2.heap.size := (by have := hb2.size; omega); have q2 := fun (o : Nat) => (bcell hb2).1 w.heap.size o hz1; have hG2 : w2.cell? ⟨0, 0, none⟩ = some (sentR A) := ((bcell hb2).1 _ 0 (by omega)).trans hG1; rw [hF]))
        all_goals go_wp2
        all_goals go_ret2
        all_goals exact ⟨rfl, ch_below (ch_trans (ch_trans hB0.out hb1 (by simp)) hb2 (by omega))⟩
    · have b_vo : (vo == 0) = false := by simpa using hvo
      have d_vo : ((0 : Int) == vo) = false := by simpa using (fun e : (0 : Int) = vo => hvo e.symm)
      have hR : recB (⟨2, 0, vo, ix, ⟨t, cl, sq, op, k, v, o⟩⟩ : Rec) = false := by simp [recB, hvo]
      have hC : chAns A (⟨2, 0, vo, ix, ⟨t, cl, sq, op, k, v, o⟩⟩ : Rec) = .tuple #[.nilIface, .iface 111 (.agg #[sentR A, .int .i64 0])] := by unfold chAns; rw [hR]; rfl
      rw [hC]
      clear hC hR
      have hB0 : Hid (Below w.heap.size w (w.alloc (.cells #[.int .i64 2, .int .i64 0, .int .i64 vo, .int .i64 ix, .int .i64 t, .int .i64 cl, .int .i64 sq, .int .i64 op, .string k, .string v, .string o] 93))) := (Below.refl _ _).alloc (Nat.le_refl _) _
      have m1 := fun x w => meth_add_record x w
      have m2 := fun x w => meth_add_fits x w
      go_enter Tryd.func67, Tryd.ntmps67
      go_wp2
      first | (go_region_with (go_at_call 148; refine (addRecord_any ix ⟨t, cl, sq, op, k, v, o⟩ _).mono ?_; rintro x w1 ⟨rfl, hb1⟩; have hz1 : w.heap.size < w1.heap.size := (by have := hb1.size; simp at this; omega); have k0 : w1.cell? ⟨w.heap.size, 0, none⟩ = some (.int .i64 2) := ((bcell hb1).1 w.heap.size 0 (by simp)).trans (by simp [go_sem]); have k1 : w1.cell? ⟨w.heap.size, 1, none⟩ = some (.int .i64 0) := ((bcell hb1).1 w.heap.size 1 (by simp)).trans (by simp [go_sem]); have k2 : w1.cell? ⟨w.heap.size, 2, none⟩ = some (.int .i64 vo) := ((bcell hb1).1 w.heap.size 2 (by simp)).trans (by simp [go_sem]); have k3 : w1.cell? ⟨w.heap.size, 3, none⟩ = some (.int .i64 ix) := ((bcell hb1).1 w.heap.size 3 (by simp)).trans (by simp [go_sem]); have k4 : w1.cell? ⟨w.heap.size, 4, none⟩ = some (.int .i64 t) := ((bcell hb1).1 w.heap.size 4 (by simp)).trans (by simp [go_sem]); have k5 : w1.cell? ⟨w.heap.size, 5, none⟩ = some (.int .i64 cl) := ((bcell hb1).1 w.heap.size 5 (by simp)).trans (by simp [go_sem]); have k6 : w1.cell? ⟨w.heap.size, 6, none⟩ = some (.int .i64 sq) := ((bcell hb1).1 w.heap.size 6 (by simp)).trans (by simp [go_sem]); have k7 : w1.cell? ⟨w.heap.size, 7, none⟩ = some (.int .i64 op) := ((bcell hb1).1 w.heap.size 7 (by simp)).trans (by simp [go_sem]); have k8 : w1.cell? ⟨w.heap.size, 8, none⟩ = some (.string k) := ((bcell hb1).1 w.heap.size 8 (by simp)).trans (by simp [go_sem]); have k9 : w1.cell? ⟨w.heap.size, 9, none⟩ = some (.string v) := ((bcell hb1).1 w.heap.size 9 (by simp)).trans (by simp [go_sem]); have k10 : w1.cell? ⟨w.heap.size, 10, none⟩ = some (.string o) := ((bcell hb1).1 w.heap.size 10 (by simp)).trans (by simp [go_sem]); have hG1 : w1.cell? ⟨0, 0, none⟩ = some (sentR A) := ((bcell hb1).1 _ 0 (by simp <;> omega)).trans (((bcell ((Below.refl w.heap.size w).alloc (Nat.le_refl _) (.cells #[.int .i64 2, .int .i64 0, .int .i64 vo, .int .i64 ix, .int .i64 t, .int .i64 cl, .int .i64 sq, .int .i64 op, .string k, .string v, .string o] 93))).1 _ 0 hgl).trans hG))) | fail
      all_goals go_wp2
      all_goals go_quiet (fail)
      all_goals go_wp2
      all_goals go_ret2
      all_goals exact ⟨rfl, ch_below (ch_trans hB0.out hb1 (by simp))⟩
  · have b_tm : (tm == 0) = false := by simpa using htm
    have d_tm : ((0 : Int) == tm) = false := by simpa using (fun e : (0 : Int) = tm => htm e.symm)
    have hR : recB (⟨2, tm, vo, ix, ⟨t, cl, sq, op, k, v, o⟩⟩ : Rec) = false := by simp [recB, htm]
    have hC : chAns A (⟨2, tm, vo, ix, ⟨t, cl, sq, op, k, v, o⟩⟩ : Rec) = .tuple #[.nilIface, .iface 111 (.agg #[sentR A, .int .i64 0])] := by unfold chAns; rw [hR]; rfl
    rw [hC]
    clear hC hR
    have hB0 : Hid (Below w.heap.size w (w.alloc (.cells #[.int .i64 2, .int .i64 tm, .int .i64 vo, .int .i64 ix, .int .i64 t, .int .i64 cl, .int .i64 sq, .int .i64 op, .string k, .string v, .string o] 93))) := (Below.refl _ _).alloc (Nat.le_refl _) _
    have m1 := fun x w => meth_add_record x w
    have m2 := fun x w => meth_add_fits x w
    go_enter Tryd.func67, Tryd.ntmps67
    go_wp2
    first | (go_region_with (go_at_call 148; refine (addRecord_any ix ⟨t, cl, sq, op, k, v, o⟩ _).mono ?_; rintro x w1 ⟨rfl, hb1⟩; have hz1 : w.heap.size < w1.heap.size := (by have := hb1.size; simp at this; omega); have k0 : w1.cell? ⟨w.heap.size, 0, none⟩ = some (.int .i64 2) := ((bcell hb1).1 w.heap.size 0 (by simp)).trans (by simp [go_sem]); have k1 : w1.cell? ⟨w.heap.size, 1, none⟩ = some (.int .i64 tm) := ((bcell hb1).1 w.heap.size 1 (by simp)).trans (by simp [go_sem]); have k2 : w1.cell? ⟨w.heap.size, 2, none⟩ = some (.int .i64 vo) := ((bcell hb1).1 w.heap.size 2 (by simp)).trans (by simp [go_sem]); have k3 : w1.cell? ⟨w.heap.size, 3, none⟩ = some (.int .i64 ix) := ((bcell hb1).1 w.heap.size 3 (by simp)).trans (by simp [go_sem]); have k4 : w1.cell? ⟨w.heap.size, 4, none⟩ = some (.int .i64 t) := ((bcell hb1).1 w.heap.size 4 (by simp)).trans (by simp [go_sem]); have k5 : w1.cell? ⟨w.heap.size, 5, none⟩ = some (.int .i64 cl) := ((bcell hb1).1 w.heap.size 5 (by simp)).trans (by simp [go_sem]); have k6 : w1.cell? ⟨w.heap.size, 6, none⟩ = some (.int .i64 sq) := ((bcell hb1).1 w.heap.size 6 (by simp)).trans (by simp [go_sem]); have k7 : w1.cell? ⟨w.heap.size, 7, none⟩ = some (.int .i64 op) := ((bcell hb1).1 w.heap.size 7 (by simp)).trans (by simp [go_sem]); have k8 : w1.cell? ⟨w.heap.size, 8, none⟩ = some (.string k) := ((bcell hb1).1 w.heap.size 8 (by simp)).trans (by simp [go_sem]); have k9 : w1.cell? ⟨w.heap.size, 9, none⟩ = some (.string v) := ((bcell hb1).1 w.heap.size 9 (by simp)).trans (by simp [go_sem]); have k10 : w1.cell? ⟨w.heap.size, 10, none⟩ = some (.string o) := ((bcell hb1).1 w.heap.size 10 (by simp)).trans (by simp [go_sem]); have hG1 : w1.cell? ⟨0, 0, none⟩ = some (sentR A) := ((bcell hb1).1 _ 0 (by simp <;> omega)).trans (((bcell ((Below.refl w.heap.size w).alloc (Nat.le_refl _) (.cells #[.int .i64 2, .int .i64 tm, .int .i64 vo, .int .i64 ix, .int .i64 t, .int .i64 cl, .int .i64 sq, .int .i64 op, .string k, .string v, .string o] 93))).1 _ 0 hgl).trans hG))) | fail
    all_goals go_wp2
    all_goals go_quiet (fail)
    all_goals go_wp2
    all_goals go_ret2
    all_goals exact ⟨rfl, ch_below (ch_trans hB0.out hb1 (by simp))⟩
end Go.Proofs.YtmbiccmndcchhagDoor
