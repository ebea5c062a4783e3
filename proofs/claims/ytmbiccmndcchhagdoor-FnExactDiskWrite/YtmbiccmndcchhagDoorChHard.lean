/-
  impl.changeOf: a hard record.
-/
import Derived.Test.YtmbiccmndcchhagDoorChBase
import Derived.Deep.RegionWith
namespace Go.Proofs.YtmbiccmndcchhagDoor
open Go.RowKit
set_option linter.unusedVariables false
set_option linter.unusedSimpArgs false

set_option maxHeartbeats 20000000 in
set_option maxRecDepth 100000 in
theorem changeOf_hard (tm vo ix t cl sq op : Int) (k v o : ByteArray) (hf : (⟨t, cl, sq, op, k, v, o⟩ : Ent).fits) (A : Addr) (w : World) (hG : w.cell? ⟨0, 0, none⟩ = some (sentR A)) :
    Calls Tryd.prog 67 #[.agg #[.int .i64 1, .int .i64 tm, .int .i64 vo, .int .i64 ix, .int .i64 t, .int .i64 cl, .int .i64 sq, .int .i64 op, .string k, .string v, .string o]] w fun x w' => x = .returned (chAns A ⟨1, tm, vo, ix, ⟨t, cl, sq, op, k, v, o⟩⟩) ∧ Below w.heap.size w w' := by
  have hgl := cell_lt hG
  by_cases hix : ix = 0
  · subst hix
    by_cases ht : t = 0
    · subst ht
      by_cases hcl : cl = 0
      · subst hcl
        by_cases hsq : sq = 0
        · subst hsq
          by_cases hop : op = 0
          · subst hop
            by_cases hk : k = .empty
            · subst hk
              by_cases hv : v = .empty
              · subst hv
                by_cases ho : o = .empty
                · subst ho
                  cases hF : (inB tm 0 1073741824 && (inB vo 0 7 && (decide (0 < tm) || vo == 0)))
                  · have hN : noEntB (⟨0, 0, 0, 0, .empty, .empty, .empty⟩ : Ent) = true := by rw [noEnt_iff]; rfl
                    have hR : recB (⟨1, tm, vo, 0, ⟨0, 0, 0, 0, .empty, .empty, .empty⟩⟩ : Rec) = false := by show (if (1 : Int) = 1 then ((0 : Int) == 0) && (noEntB _ && (inB tm 0 1073741824 && (inB vo 0 7 && (decide (0 < tm) || vo == 0)))) else _) = _; rw [if_pos rfl, hN, hF]; rfl
                    have hC : chAns A (⟨1, tm, vo, 0, ⟨0, 0, 0, 0, .empty, .empty, .empty⟩⟩ : Rec) = .tuple #[.nilIface, .iface 111 (.agg #[sentR A, .int .i64 0])] := by unfold chAns; rw [hR]; rfl
                    rw [hC]
                    clear hC hR
                    have hB0 : Hid (Below w.heap.size w (w.alloc (.cells #[.int .i64 1, .int .i64 tm, .int .i64 vo, .int .i64 0, .int .i64 0, .int .i64 0, .int .i64 0, .int .i64 0, .string .empty, .string .empty, .string .empty] 93))) := (Below.refl _ _).alloc (Nat.le_refl _) _
                    have m1 := fun x w => meth_hard_record x w
                    have m2 := fun x w => meth_hard_fits x w
                    go_enter Tryd.func67, Tryd.ntmps67
                    go_wp2
                    go_region_held3 (fun w' => w'.cell? ⟨w.heap.size, 0, none⟩ = some (.int .i64 1) ∧ w'.cell? ⟨w.heap.size, 1, none⟩ = some (.int .i64 tm) ∧ w'.cell? ⟨w.heap.size, 2, none⟩ = some (.int .i64 vo) ∧ w'.cell? ⟨w.heap.size, 3, none⟩ = some (.int .i64 0) ∧ w'.cell? ⟨w.heap.size, 4, none⟩ = some (.int .i64 0) ∧ w'.cell? ⟨w.heap.size, 5, none⟩ = some (.int .i64 0) ∧ w'.cell? ⟨w.heap.size, 6, none⟩ = some (.int .i64 0) ∧ w'.cell? ⟨w.heap.size, 7, none⟩ = some (.int .i64 0) ∧ w'.cell? ⟨w.heap.size, 8, none⟩ = some (.string .empty) ∧ w'.cell? ⟨w.heap.size, 9, none⟩ = some (.string .empty) ∧ w'.cell? ⟨w.heap.size, 10, none⟩ = some (.string .empty)) (simp [*, go_sem])
                      (first
                        | (go_at_call 141; refine (hardRecord_any tm vo _).mono ?_; rintro x w1 ⟨rfl, hb1⟩; have hz1 : w.heap.size < w1.heap.size := (by have := hb1.size; simp at this; omega); have q1 := fun (o : Nat) => (bcell hb1).1 w.heap.size o (by simp); have hG1 : w1.cell? ⟨0, 0, none⟩ = some (sentR A) := ((bcell hb1).1 _ 0 (by simp <;> omega)).trans (((bcell ((Below.refl w.heap.size w).alloc (Nat.le_refl _) (.cells #[.int .i64 1, .int .i64 tm, .int .i64 vo, .int .i64 0, .int .i64 0, .int .i64 0, .int .i64 0, .int .i64 0, .string .empty, .string .empty, .string .empty] 93))).1 _ 0 hgl).trans hG))
                        | (go_at_call 140; refine (hardFits_any tm vo _).mono ?_; rintro x w2 ⟨rfl, hb2⟩; have hz2 : w.heap.size < w2.heap.size := (by have := hb2.size; omega); have q2 := fun (o : Nat) => (bcell hb2).1 w.heap.size o hz1; have hG2 : w2.cell? ⟨0, 0, none⟩ = some (sentR A) := ((bcell hb2).1 _ 0 (by omega)).trans hG1; rw [hF]))
                    all_goals go_wp2
                    all_goals go_quiet (fail)
                    all_goals go_wp2
                    all_goals go_ret2
                    all_goals exact ⟨rfl, ch_below (ch_trans (ch_trans hB0.out hb1 (by simp)) hb2 (by omega))⟩
                  · have hN : noEntB (⟨0, 0, 0, 0, .empty, .empty, .empty⟩ : Ent) = true := by rw [noEnt_iff]; rfl
                    have hR : recB (⟨1, tm, vo, 0, ⟨0, 0, 0, 0, .empty, .empty, .empty⟩⟩ : Rec) = true := by show (if (1 : Int) = 1 then ((0 : Int) == 0) && (noEntB _ && (inB tm 0 1073741824 && (inB vo 0 7 && (decide (0 < tm) || vo == 0)))) else _) = _; rw [if_pos rfl, hN, hF]; rfl
                    have hC : chAns A (⟨1, tm, vo, 0, ⟨0, 0, 0, 0, .empty, .empty, .empty⟩⟩ : Rec) = .tuple #[.iface 135 (.agg #[.int .i64 tm, .int .i64 vo]), .nilIface] := by unfold chAns; rw [hR]; rfl
                    rw [hC]
                    clear hC hR
                    have hB0 : Hid (Below w.heap.size w (w.alloc (.cells #[.int .i64 1, .int .i64 tm, .int .i64 vo, .int .i64 0, .int .i64 0, .int .i64 0, .int .i64 0, .int .i64 0, .string .empty, .string .empty, .string .empty] 93))) := (Below.refl _ _).alloc (Nat.le_refl _) _
                    have m1 := fun x w => meth_hard_record x w
                    have m2 := fun x w => meth_hard_fits x w
                    go_enter Tryd.func67, Tryd.ntmps67
                    go_wp2
                    go_region_held3 (fun w' => w'.cell? ⟨w.heap.size, 0, none⟩ = some (.int .i64 1) ∧ w'.cell? ⟨w.heap.size, 1, none⟩ = some (.int .i64 tm) ∧ w'.cell? ⟨w.heap.size, 2, none⟩ = some (.int .i64 vo) ∧ w'.cell? ⟨w.heap.size, 3, none⟩ = some (.int .i64 0) ∧ w'.cell? ⟨w.heap.size, 4, none⟩ = some (.int .i64 0) ∧ w'.cell? ⟨w.heap.size, 5, none⟩ = some (.int .i64 0) ∧ w'.cell? ⟨w.heap.size, 6, none⟩ = some (.int .i64 0) ∧ w'.cell? ⟨w.heap.size, 7, none⟩ = some (.int .i64 0) ∧ w'.cell? ⟨w.heap.size, 8, none⟩ = some (.string .empty) ∧ w'.cell? ⟨w.heap.size, 9, none⟩ = some (.string .empty) ∧ w'.cell? ⟨w.heap.size, 10, none⟩ = some (.string .empty)) (simp [*, go_sem])
                      (first
                        | (go_at_call 141; refine (hardRecord_any tm vo _).mono ?_; rintro x w1 ⟨rfl, hb1⟩; have hz1 : w.heap.size < w1.heap.size := (by have := hb1.size; simp at this; omega); have q1 := fun (o : Nat) => (bcell hb1).1 w.heap.size o (by simp); have hG1 : w1.cell? ⟨0, 0, none⟩ = some (sentR A) := ((bcell hb1).1 _ 0 (by simp <;> omega)).trans (((bcell ((Below.refl w.heap.size w).alloc (Nat.le_refl _) (.cells #[.int .i64 1, .int .i64 tm, .int .i64 vo, .int .i64 0, .int .i64 0, .int .i64 0, .int .i64 0, .int .i64 0, .string .empty, .string .empty, .string .empty] 93))).1 _ 0 hgl).trans hG))
                        | (go_at_call 140; refine (hardFits_any tm vo _).mono ?_; rintro x w2 ⟨rfl, hb2⟩; have hz2 : w.heap.size < w2.heap.size := (by have := hb2.size; omega); have q2 := fun (o : Nat) => (bcell hb2).1 w.heap.size o hz1; have hG2 : w2.cell? ⟨0, 0, none⟩ = some (sentR A) := ((bcell hb2).1 _ 0 (by omega)).trans hG1; rw [hF]))
                    all_goals go_wp2
                    all_goals go_ret2
                    all_goals exact ⟨rfl, ch_below (ch_trans (ch_trans hB0.out hb1 (by simp)) hb2 (by omega))⟩
                · have hN : noEntB (⟨0, 0, 0, 0, .empty, .empty, o⟩ : Ent) = false := by
                    cases hB : noEntB (⟨0, 0, 0, 0, .empty, .empty, o⟩ : Ent)
                    · rfl
                    · rw [noEnt_iff] at hB; injection hB with e0 e1 e2 e3 e4 e5 e6; exact absurd e6 ho
                  have b_o := text_ne ho
                  have c_o := text_ne' ho
                  have d_o : ¬ ([] : List UInt8) = o.toList := fun e => b_o e.symm
                  have e_o : (([] : List UInt8) == o.toList) = false := by simpa using d_o
                  have hR : recB (⟨1, tm, vo, 0, ⟨0, 0, 0, 0, .empty, .empty, o⟩⟩ : Rec) = false := by simp [recB, hN]
                  have hC : chAns A (⟨1, tm, vo, 0, ⟨0, 0, 0, 0, .empty, .empty, o⟩⟩ : Rec) = .tuple #[.nilIface, .iface 111 (.agg #[sentR A, .int .i64 0])] := by unfold chAns; rw [hR]; rfl
                  rw [hC]
                  clear hC hR
                  have hB0 : Hid (Below w.heap.size w (w.alloc (.cells #[.int .i64 1, .int .i64 tm, .int .i64 vo, .int .i64 0, .int .i64 0, .int .i64 0, .int .i64 0, .int .i64 0, .string .empty, .string .empty, .string o] 93))) := (Below.refl _ _).alloc (Nat.le_refl _) _
                  have m1 := fun x w => meth_hard_record x w
                  have m2 := fun x w => meth_hard_fits x w
                  go_enter Tryd.func67, Tryd.ntmps67
                  go_wp2
                  first | (go_region_with (go_at_call 141; refine (hardRecord_any tm vo _).mono ?_; rintro x w1 ⟨rfl, hb1⟩; have hz1 : w.heap.size < w1.heap.size := (by have := hb1.size; simp at this; omega); have k0 : w1.cell? ⟨w.heap.size, 0, none⟩ = some (.int .i64 1) := ((bcell hb1).1 w.heap.size 0 (by simp)).trans (by simp [go_sem]); have k1 : w1.cell? ⟨w.heap.size, 1, none⟩ = some (.int .i64 tm) := ((bcell hb1).1 w.heap.size 1 (by simp)).trans (by simp [go_sem]); have k2 : w1.cell? ⟨w.heap.size, 2, none⟩ = some (.int .i64 vo) := ((bcell hb1).1 w.heap.size 2 (by simp)).trans (by simp [go_sem]); have k3 : w1.cell? ⟨w.heap.size, 3, none⟩ = some (.int .i64 0) := ((bcell hb1).1 w.heap.size 3 (by simp)).trans (by simp [go_sem]); have k4 : w1.cell? ⟨w.heap.size, 4, none⟩ = some (.int .i64 0) := ((bcell hb1).1 w.heap.size 4 (by simp)).trans (by simp [go_sem]); have k5 : w1.cell? ⟨w.heap.size, 5, none⟩ = some (.int .i64 0) := ((bcell hb1).1 w.heap.size 5 (by simp)).trans (by simp [go_sem]); have k6 : w1.cell? ⟨w.heap.size, 6, none⟩ = some (.int .i64 0) := ((bcell hb1).1 w.heap.size 6 (by simp)).trans (by simp [go_sem]); have k7 : w1.cell? ⟨w.heap.size, 7, none⟩ = some (.int .i64 0) := ((bcell hb1).1 w.heap.size 7 (by simp)).trans (by simp [go_sem]); have k8 : w1.cell? ⟨w.heap.size, 8, none⟩ = some (.string .empty) := ((bcell hb1).1 w.heap.size 8 (by simp)).trans (by simp [go_sem]); have k9 : w1.cell? ⟨w.heap.size, 9, none⟩ = some (.string .empty) := ((bcell hb1).1 w.heap.size 9 (by simp)).trans (by simp [go_sem]); have k10 : w1.cell? ⟨w.heap.size, 10, none⟩ = some (.string o) := ((bcell hb1).1 w.heap.size 10 (by simp)).trans (by simp [go_sem]); have hG1 : w1.cell? ⟨0, 0, none⟩ = some (sentR A) := ((bcell hb1).1 _ 0 (by simp <;> omega)).trans (((bcell ((Below.refl w.heap.size w).alloc (Nat.le_refl _) (.cells #[.int .i64 1, .int .i64 tm, .int .i64 vo, .int .i64 0, .int .i64 0, .int .i64 0, .int .i64 0, .int .i64 0, .string .empty, .string .empty, .string o] 93))).1 _ 0 hgl).trans hG))) | fail
                  all_goals go_wp2
                  all_goals go_quiet (fail)
                  all_goals go_wp2
                  all_goals go_ret2
                  all_goals exact ⟨rfl, ch_below (ch_trans hB0.out hb1 (by simp))⟩
              · have hN : noEntB (⟨0, 0, 0, 0, .empty, v, o⟩ : Ent) = false := by
                  cases hB : noEntB (⟨0, 0, 0, 0, .empty, v, o⟩ : Ent)
                  · rfl
                  · rw [noEnt_iff] at hB; injection hB with e0 e1 e2 e3 e4 e5 e6; exact absurd e5 hv
                have b_v := text_ne hv
                have c_v := text_ne' hv
                have d_v : ¬ ([] : List UInt8) = v.toList := fun e => b_v e.symm
                have e_v : (([] : List UInt8) == v.toList) = false := by simpa using d_v
                have hR : recB (⟨1, tm, vo, 0, ⟨0, 0, 0, 0, .empty, v, o⟩⟩ : Rec) = false := by simp [recB, hN]
                have hC : chAns A (⟨1, tm, vo, 0, ⟨0, 0, 0, 0, .empty, v, o⟩⟩ : Rec) = .tuple #[.nilIface, .iface 111 (.agg #[sentR A, .int .i64 0])] := by unfold chAns; rw [hR]; rfl
                rw [hC]
                clear hC hR
                have hB0 : Hid (Below w.heap.size w (w.alloc (.cells #[.int .i64 1, .int .i64 tm, .int .i64 vo, .int .i64 0, .int .i64 0, .int .i64 0, .int .i64 0, .int .i64 0, .string .empty, .string v, .string o] 93))) := (Below.refl _ _).alloc (Nat.le_refl _) _
                have m1 := fun x w => meth_hard_record x w
                have m2 := fun x w => meth_hard_fits x w
                go_enter Tryd.func67, Tryd.ntmps67
                go_wp2
                first | (go_region_with (go_at_call 141; refine (hardRecord_any tm vo _).mono ?_; rintro x w1 ⟨rfl, hb1⟩; have hz1 : w.heap.size < w1.heap.size := (by have := hb1.size; simp at this; omega); have k0 : w1.cell? ⟨w.heap.size, 0, none⟩ = some (.int .i64 1) := ((bcell hb1).1 w.heap.size 0 (by simp)).trans (by simp [go_sem]); have k1 : w1.cell? ⟨w.heap.size, 1, none⟩ = some (.int .i64 tm) := ((bcell hb1).1 w.heap.size 1 (by simp)).trans (by simp [go_sem]); have k2 : w1.cell? ⟨w.heap.size, 2, none⟩ = some (.int .i64 vo) := ((bcell hb1).1 w.heap.size 2 (by simp)).trans (by simp [go_sem]); have k3 : w1.cell? ⟨w.heap.size, 3, none⟩ = some (.int .i64 0) := ((bcell hb1).1 w.heap.size 3 (by simp)).trans (by simp [go_sem]); have k4 : w1.cell? ⟨w.heap.size, 4, none⟩ = some (.int .i64 0) := ((bcell hb1).1 w.heap.size 4 (by simp)).trans (by simp [go_sem]); have k5 : w1.cell? ⟨w.heap.size, 5, none⟩ = some (.int .i64 0) := ((bcell hb1).1 w.heap.size 5 (by simp)).trans (by simp [go_sem]); have k6 : w1.cell? ⟨w.heap.size, 6, none⟩ = some (.int .i64 0) := ((bcell hb1).1 w.heap.size 6 (by simp)).trans (by simp [go_sem]); have k7 : w1.cell? ⟨w.heap.size, 7, none⟩ = some (.int .i64 0) := ((bcell hb1).1 w.heap.size 7 (by simp)).trans (by simp [go_sem]); have k8 : w1.cell? ⟨w.heap.size, 8, none⟩ = some (.string .empty) := ((bcell hb1).1 w.heap.size 8 (by simp)).trans (by simp [go_sem]); have k9 : w1.cell? ⟨w.heap.size, 9, none⟩ = some (.string v) := ((bcell hb1).1 w.heap.size 9 (by simp)).trans (by simp [go_sem]); have k10 : w1.cell? ⟨w.heap.size, 10, none⟩ = some (.string o) := ((bcell hb1).1 w.heap.size 10 (by simp)).trans (by simp [go_sem]); have hG1 : w1.cell? ⟨0, 0, none⟩ = some (sentR A) := ((bcell hb1).1 _ 0 (by simp <;> omega)).trans (((bcell ((Below.refl w.heap.size w).alloc (Nat.le_refl _) (.cells #[.int .i64 1, .int .i64 tm, .int .i64 vo, .int .i64 0, .int .i64 0, .int .i64 0, .int .i64 0, .int .i64 0, .string .empty, .string v, .string o] 93))).1 _ 0 hgl).trans hG))) | fail
                all_goals go_wp2
                all_goals go_quiet (fail)
                all_goals go_wp2
                all_goals go_ret2
                all_goals exact ⟨rfl, ch_below (ch_trans hB0.out hb1 (by simp))⟩
            · have hN : noEntB (⟨0, 0, 0, 0, k, v, o⟩ : Ent) = false := by
                cases hB : noEntB (⟨0, 0, 0, 0, k, v, o⟩ : Ent)
                · rfl
                · rw [noEnt_iff] at hB; injection hB with e0 e1 e2 e3 e4 e5 e6; exact absurd e4 hk
              have b_k := text_ne hk
              have c_k := text_ne' hk
              have d_k : ¬ ([] : List UInt8) = k.toList := fun e => b_k e.symm
              have e_k : (([] : List UInt8) == k.toList) = false := by simpa using d_k
              have hR : recB (⟨1, tm, vo, 0, ⟨0, 0, 0, 0, k, v, o⟩⟩ : Rec) = false := by simp [recB, hN]
              have hC : chAns A (⟨1, tm, vo, 0, ⟨0, 0, 0, 0, k, v, o⟩⟩ : Rec) = .tuple #[.nilIface, .iface 111 (.agg #[sentR A, .int .i64 0])] := by unfold chAns; rw [hR]; rfl
              rw [hC]
              clear hC hR
              have hB0 : Hid (Below w.heap.size w (w.alloc (.cells #[.int .i64 1, .int .i64 tm, .int .i64 vo, .int .i64 0, .int .i64 0, .int .i64 0, .int .i64 0, .int .i64 0, .string k, .string v, .string o] 93))) := (Below.refl _ _).alloc (Nat.le_refl _) _
              have m1 := fun x w => meth_hard_record x w
              have m2 := fun x w => meth_hard_fits x w
              go_enter Tryd.func67, Tryd.ntmps67
              go_wp2
              first | (go_region_with (go_at_call 141; refine (hardRecord_any tm vo _).mono ?_; rintro x w1 ⟨rfl, hb1⟩; have hz1 : w.heap.size < w1.heap.size := (by have := hb1.size; simp at this; omega); have k0 : w1.cell? ⟨w.heap.size, 0, none⟩ = some (.int .i64 1) := ((bcell hb1).1 w.heap.size 0 (by simp)).trans (by simp [go_sem]); have k1 : w1.cell? ⟨w.heap.size, 1, none⟩ = some (.int .i64 tm) := ((bcell hb1).1 w.heap.size 1 (by simp)).trans (by simp [go_sem]); have k2 : w1.cell? ⟨w.heap.size, 2, none⟩ = some (.int .i64 vo) := ((bcell hb1).1 w.heap.size 2 (by simp)).trans (by simp [go_sem]); have k3 : w1.cell? ⟨w.heap.size, 3, none⟩ = some (.int .i64 0) := ((bcell hb1).1 w.heap.size 3 (by simp)).trans (by simp [go_sem]); have k4 : w1.cell? ⟨w.heap.size, 4, none⟩ = some (.int .i64 0) := ((bcell hb1).1 w.heap.size 4 (by simp)).trans (by simp [go_sem]); have k5 : w1.cell? ⟨w.heap.size, 5, none⟩ = some (.int .i64 0) := ((bcell hb1).1 w.heap.size 5 (by simp)).trans (by simp [go_sem]); have k6 : w1.cell? ⟨w.heap.size, 6, none⟩ = some (.int .i64 0) := ((bcell hb1).1 w.heap.size 6 (by simp)).trans (by simp [go_sem]); have k7 : w1.cell? ⟨w.heap.size, 7, none⟩ = some (.int .i64 0) := ((bcell hb1).1 w.heap.size 7 (by simp)).trans (by simp [go_sem]); have k8 : w1.cell? ⟨w.heap.size, 8, none⟩ = some (.string k) := ((bcell hb1).1 w.heap.size 8 (by simp)).trans (by simp [go_sem]); have k9 : w1.cell? ⟨w.heap.size, 9, none⟩ = some (.string v) := ((bcell hb1).1 w.heap.size 9 (by simp)).trans (by simp [go_sem]); have k10 : w1.cell? ⟨w.heap.size, 10, none⟩ = some (.string o) := ((bcell hb1).1 w.heap.size 10 (by simp)).trans (by simp [go_sem]); have hG1 : w1.cell? ⟨0, 0, none⟩ = some (sentR A) := ((bcell hb1).1 _ 0 (by simp <;> omega)).trans (((bcell ((Below.refl w.heap.size w).alloc (Nat.le_refl _) (.cells #[.int .i64 1, .int .i64 tm, .int .i64 vo, .int .i64 0, .int .i64 0, .int .i64 0, .int .i64 0, .int .i64 0, .string k, .string v, .string o] 93))).1 _ 0 hgl).trans hG))) | fail
              all_goals go_wp2
              all_goals go_quiet (fail)
              all_goals go_wp2
              all_goals go_ret2
              all_goals exact ⟨rfl, ch_below (ch_trans hB0.out hb1 (by simp))⟩
          · have hN : noEntB (⟨0, 0, 0, op, k, v, o⟩ : Ent) = false := by
              cases hB : noEntB (⟨0, 0, 0, op, k, v, o⟩ : Ent)
              · rfl
              · rw [noEnt_iff] at hB; injection hB with e0 e1 e2 e3 e4 e5 e6; exact absurd e3 hop
            have b_op : (op == 0) = false := by simpa using hop
            have d_op : ((0 : Int) == op) = false := by simpa using (fun e : (0 : Int) = op => hop e.symm)
            have hR : recB (⟨1, tm, vo, 0, ⟨0, 0, 0, op, k, v, o⟩⟩ : Rec) = false := by simp [recB, hN]
            have hC : chAns A (⟨1, tm, vo, 0, ⟨0, 0, 0, op, k, v, o⟩⟩ : Rec) = .tuple #[.nilIface, .iface 111 (.agg #[sentR A, .int .i64 0])] := by unfold chAns; rw [hR]; rfl
            rw [hC]
            clear hC hR
            have hB0 : Hid (Below w.heap.size w (w.alloc (.cells #[.int .i64 1, .int .i64 tm, .int .i64 vo, .int .i64 0, .int .i64 0, .int .i64 0, .int .i64 0, .int .i64 op, .string k, .string v, .string o] 93))) := (Below.refl _ _).alloc (Nat.le_refl _) _
            have m1 := fun x w => meth_hard_record x w
            have m2 := fun x w => meth_hard_fits x w
            go_enter Tryd.func67, Tryd.ntmps67
            go_wp2
            first | (go_region_with (go_at_call 141; refine (hardRecord_any tm vo _).mono ?_; rintro x w1 ⟨rfl, hb1⟩; have hz1 : w.heap.size < w1.heap.size := (by have := hb1.size; simp at this; omega); have k0 : w1.cell? ⟨w.heap.size, 0, none⟩ = some (.int .i64 1) := ((bcell hb1).1 w.heap.size 0 (by simp)).trans (by simp [go_sem]); have k1 : w1.cell? ⟨w.heap.size, 1, none⟩ = some (.int .i64 tm) := ((bcell hb1).1 w.heap.size 1 (by simp)).trans (by simp [go_sem]); have k2 : w1.cell? ⟨w.heap.size, 2, none⟩ = some (.int .i64 vo) := ((bcell hb1).1 w.heap.size 2 (by simp)).trans (by simp [go_sem]); have k3 : w1.cell? ⟨w.heap.size, 3, none⟩ = some (.int .i64 0) := ((bcell hb1).1 w.heap.size 3 (by simp)).trans (by simp [go_sem]); have k4 : w1.cell? ⟨w.heap.size, 4, none⟩ = some (.int .i64 0) := ((bcell hb1).1 w.heap.size 4 (by simp)).trans (by simp [go_sem]); have k5 : w1.cell? ⟨w.heap.size, 5, none⟩ = some (.int .i64 0) := ((bcell hb1).1 w.heap.size 5 (by simp)).trans (by simp [go_sem]); have k6 : w1.cell? ⟨w.heap.size, 6, none⟩ = some (.int .i64 0) := ((bcell hb1).1 w.heap.size 6 (by simp)).trans (by simp [go_sem]); have k7 : w1.cell? ⟨w.heap.size, 7, none⟩ = some (.int .i64 op) := ((bcell hb1).1 w.heap.size 7 (by simp)).trans (by simp [go_sem]); have k8 : w1.cell? ⟨w.heap.size, 8, none⟩ = some (.string k) := ((bcell hb1).1 w.heap.size 8 (by simp)).trans (by simp [go_sem]); have k9 : w1.cell? ⟨w.heap.size, 9, none⟩ = some (.string v) := ((bcell hb1).1 w.heap.size 9 (by simp)).trans (by simp [go_sem]); have k10 : w1.cell? ⟨w.heap.size, 10, none⟩ = some (.string o) := ((bcell hb1).1 w.heap.size 10 (by simp)).trans (by simp [go_sem]); have hG1 : w1.cell? ⟨0, 0, none⟩ = some (sentR A) := ((bcell hb1).1 _ 0 (by simp <;> omega)).trans (((bcell ((Below.refl w.heap.size w).alloc (Nat.le_refl _) (.cells #[.int .i64 1, .int .i64 tm, .int .i64 vo, .int .i64 0, .int .i64 0, .int .i64 0, .int .i64 0, .int .i64 op, .string k, .string v, .string o] 93))).1 _ 0 hgl).trans hG))) | fail
            all_goals go_wp2
            all_goals go_quiet (fail)
            all_goals go_wp2
            all_goals go_ret2
            all_goals exact ⟨rfl, ch_below (ch_trans hB0.out hb1 (by simp))⟩
        · have hN : noEntB (⟨0, 0, sq, op, k, v, o⟩ : Ent) = false := by
            cases hB : noEntB (⟨0, 0, sq, op, k, v, o⟩ : Ent)
            · rfl
            · rw [noEnt_iff] at hB; injection hB with e0 e1 e2 e3 e4 e5 e6; exact absurd e2 hsq
          have b_sq : (sq == 0) = false := by simpa using hsq
          have d_sq : ((0 : Int) == sq) = false := by simpa using (fun e : (0 : Int) = sq => hsq e.symm)
          have hR : recB (⟨1, tm, vo, 0, ⟨0, 0, sq, op, k, v, o⟩⟩ : Rec) = false := by simp [recB, hN]
          have hC : chAns A (⟨1, tm, vo, 0, ⟨0, 0, sq, op, k, v, o⟩⟩ : Rec) = .tuple #[.nilIface, .iface 111 (.agg #[sentR A, .int .i64 0])] := by unfold chAns; rw [hR]; rfl
          rw [hC]
          clear hC hR
          have hB0 : Hid (Below w.heap.size w (w.alloc (.cells #[.int .i64 1, .int .i64 tm, .int .i64 vo, .int .i64 0, .int .i64 0, .int .i64 0, .int .i64 sq, .int .i64 op, .string k, .string v, .string o] 93))) := (Below.refl _ _).alloc (Nat.le_refl _) _
          have m1 := fun x w => meth_hard_record x w
          have m2 := fun x w => meth_hard_fits x w
          go_enter Tryd.func67, Tryd.ntmps67
          go_wp2
          first | (go_region_with (go_at_call 141; refine (hardRecord_any tm vo _).mono ?_; rintro x w1 ⟨rfl, hb1⟩; have hz1 : w.heap.size < w1.heap.size := (by have := hb1.size; simp at this; omega); have k0 : w1.cell? ⟨w.heap.size, 0, none⟩ = some (.int .i64 1) := ((bcell hb1).1 w.heap.size 0 (by simp)).trans (by simp [go_sem]); have k1 : w1.cell? ⟨w.heap.size, 1, none⟩ = some (.int .i64 tm) := ((bcell hb1).1 w.heap.size 1 (by simp)).trans (by simp [go_sem]); have k2 : w1.cell? ⟨w.heap.size, 2, none⟩ = some (.int .i64 vo) := ((bcell hb1).1 w.heap.size 2 (by simp)).trans (by simp [go_sem]); have k3 : w1.cell? ⟨w.heap.size, 3, none⟩ = some (.int .i64 0) := ((bcell hb1).1 w.heap.size 3 (by simp)).trans (by simp [go_sem]); have k4 : w1.cell? ⟨w.heap.size, 4, none⟩ = some (.int .i64 0) := ((bcell hb1).1 w.heap.size 4 (by simp)).trans (by simp [go_sem]); have k5 : w1.cell? ⟨w.heap.size, 5, none⟩ = some (.int .i64 0) := ((bcell hb1).1 w.heap.size 5 (by simp)).trans (by simp [go_sem]); have k6 : w1.cell? ⟨w.heap.size, 6, none⟩ = some (.int .i64 sq) := ((bcell hb1).1 w.heap.size 6 (by simp)).trans (by simp [go_sem]); have k7 : w1.cell? ⟨w.heap.size, 7, none⟩ = some (.int .i64 op) := ((bcell hb1).1 w.heap.size 7 (by simp)).trans (by simp [go_sem]); have k8 : w1.cell? ⟨w.heap.size, 8, none⟩ = some (.string k) := ((bcell hb1).1 w.heap.size 8 (by simp)).trans (by simp [go_sem]); have k9 : w1.cell? ⟨w.heap.size, 9, none⟩ = some (.string v) := ((bcell hb1).1 w.heap.size 9 (by simp)).trans (by simp [go_sem]); have k10 : w1.cell? ⟨w.heap.size, 10, none⟩ = some (.string o) := ((bcell hb1).1 w.heap.size 10 (by simp)).trans (by simp [go_sem]); have hG1 : w1.cell? ⟨0, 0, none⟩ = some (sentR A) := ((bcell hb1).1 _ 0 (by simp <;> omega)).trans (((bcell ((Below.refl w.heap.size w).alloc (Nat.le_refl _) (.cells #[.int .i64 1, .int .i64 tm, .int .i64 vo, .int .i64 0, .int .i64 0, .int .i64 0, .int .i64 sq, .int .i64 op, .string k, .string v, .string o] 93))).1 _ 0 hgl).trans hG))) | fail
          all_goals go_wp2
          all_goals go_quiet (fail)
          all_goals go_wp2
          all_goals go_ret2
          all_goals exact ⟨rfl, ch_below (ch_trans hB0.out hb1 (by simp))⟩
      · have hN : noEntB (⟨0, cl, sq, op, k, v, o⟩ : Ent) = false := by
          cases hB : noEntB (⟨0, cl, sq, op, k, v, o⟩ : Ent)
          · rfl
          · rw [noEnt_iff] at hB; injection hB with e0 e1 e2 e3 e4 e5 e6; exact absurd e1 hcl
        have b_cl : (cl == 0) = false := by simpa using hcl
        have d_cl : ((0 : Int) == cl) = false := by simpa using (fun e : (0 : Int) = cl => hcl e.symm)
        have hR : recB (⟨1, tm, vo, 0, ⟨0, cl, sq, op, k, v, o⟩⟩ : Rec) = false := by simp [recB, hN]
        have hC : chAns A (⟨1, tm, vo, 0, ⟨0, cl, sq, op, k, v, o⟩⟩ : Rec) = .tuple #[.nilIface, .iface 111 (.agg #[sentR A, .int .i64 0])] := by unfold chAns; rw [hR]; rfl
        rw [hC]
        clear hC hR
        have hB0 : Hid (Below w.heap.size w (w.alloc (.cells #[.int .i64 1, .int .i64 tm, .int .i64 vo, .int .i64 0, .int .i64 0, .int .i64 cl, .int .i64 sq, .int .i64 op, .string k, .string v, .string o] 93))) := (Below.refl _ _).alloc (Nat.le_refl _) _
        have m1 := fun x w => meth_hard_record x w
        have m2 := fun x w => meth_hard_fits x w
        go_enter Tryd.func67, Tryd.ntmps67
        go_wp2
        first | (go_region_with (go_at_call 141; refine (hardRecord_any tm vo _).mono ?_; rintro x w1 ⟨rfl, hb1⟩; have hz1 : w.heap.size < w1.heap.size := (by have := hb1.size; simp at this; omega); have k0 : w1.cell? ⟨w.heap.size, 0, none⟩ = some (.int .i64 1) := ((bcell hb1).1 w.heap.size 0 (by simp)).trans (by simp [go_sem]); have k1 : w1.cell? ⟨w.heap.size, 1, none⟩ = some (.int .i64 tm) := ((bcell hb1).1 w.heap.size 1 (by simp)).trans (by simp [go_sem]); have k2 : w1.cell? ⟨w.heap.size, 2, none⟩ = some (.int .i64 vo) := ((bcell hb1).1 w.heap.size 2 (by simp)).trans (by simp [go_sem]); have k3 : w1.cell? ⟨w.heap.size, 3, none⟩ = some (.int .i64 0) := ((bcell hb1).1 w.heap.size 3 (by simp)).trans (by simp [go_sem]); have k4 : w1.cell? ⟨w.heap.size, 4, none⟩ = some (.int .i64 0) := ((bcell hb1).1 w.heap.size 4 (by simp)).trans (by simp [go_sem]); have k5 : w1.cell? ⟨w.heap.size, 5, none⟩ = some (.int .i64 cl) := ((bcell hb1).1 w.heap.size 5 (by simp)).trans (by simp [go_sem]); have k6 : w1.cell? ⟨w.heap.size, 6, none⟩ = some (.int .i64 sq) := ((bcell hb1).1 w.heap.size 6 (by simp)).trans (by simp [go_sem]); have k7 : w1.cell? ⟨w.heap.size, 7, none⟩ = some (.int .i64 op) := ((bcell hb1).1 w.heap.size 7 (by simp)).trans (by simp [go_sem]); have k8 : w1.cell? ⟨w.heap.size, 8, none⟩ = some (.string k) := ((bcell hb1).1 w.heap.size 8 (by simp)).trans (by simp [go_sem]); have k9 : w1.cell? ⟨w.heap.size, 9, none⟩ = some (.string v) := ((bcell hb1).1 w.heap.size 9 (by simp)).trans (by simp [go_sem]); have k10 : w1.cell? ⟨w.heap.size, 10, none⟩ = some (.string o) := ((bcell hb1).1 w.heap.size 10 (by simp)).trans (by simp [go_sem]); have hG1 : w1.cell? ⟨0, 0, none⟩ = some (sentR A) := ((bcell hb1).1 _ 0 (by simp <;> omega)).trans (((bcell ((Below.refl w.heap.size w).alloc (Nat.le_refl _) (.cells #[.int .i64 1, .int .i64 tm, .int .i64 vo, .int .i64 0, .int .i64 0, .int .i64 cl, .int .i64 sq, .int .i64 op, .string k, .string v, .string o] 93))).1 _ 0 hgl).trans hG))) | fail
        all_goals go_wp2
        all_goals go_quiet (fail)
        all_goals go_wp2
        all_goals go_ret2
        all_goals exact ⟨rfl, ch_below (ch_trans hB0.out hb1 (by simp))⟩
    · have hN : noEntB (⟨t, cl, sq, op, k, v, o⟩ : Ent) = false := by
        cases hB : noEntB (⟨t, cl, sq, op, k, v, o⟩ : Ent)
        · rfl
        · rw [noEnt_iff] at hB; injection hB with e0 e1 e2 e3 e4 e5 e6; exact absurd e0 ht
      have b_t : (t == 0) = false := by simpa using ht
      have d_t : ((0 : Int) == t) = false := by simpa using (fun e : (0 : Int) = t => ht e.symm)
      have hR : recB (⟨1, tm, vo, 0, ⟨t, cl, sq, op, k, v, o⟩⟩ : Rec) = false := by simp [recB, hN]
      have hC : chAns A (⟨1, tm, vo, 0, ⟨t, cl, sq, op, k, v, o⟩⟩ : Rec) = .tuple #[.nilIface, .iface 111 (.agg #[sentR A, .int .i64 0])] := by unfold chAns; rw [hR]; rfl
      rw [hC]
      clear hC hR
      have hB0 : Hid (Below w.heap.size w (w.alloc (.cells #[.int .i64 1, .int .i64 tm, .int .i64 vo, .int .i64 0, .int .i64 t, .int .i64 cl, .int .i64 sq, .int .i64 op, .string k, .string v, .string o] 93))) := (Below.refl _ _).alloc (Nat.le_refl _) _
      have m1 := fun x w => meth_hard_record x w
      have m2 := fun x w => meth_hard_fits x w
      go_enter Tryd.func67, Tryd.ntmps67
      go_wp2
      first | (go_region_with (go_at_call 141; refine (hardRecord_any tm vo _).mono ?_; rintro x w1 ⟨rfl, hb1⟩; have hz1 : w.heap.size < w1.heap.size := (by have := hb1.size; simp at this; omega); have k0 : w1.cell? ⟨w.heap.size, 0, none⟩ = some (.int .i64 1) := ((bcell hb1).1 w.heap.size 0 (by simp)).trans (by simp [go_sem]); have k1 : w1.cell? ⟨w.heap.size, 1, none⟩ = some (.int .i64 tm) := ((bcell hb1).1 w.heap.size 1 (by simp)).trans (by simp [go_sem]); have k2 : w1.cell? ⟨w.heap.size, 2, none⟩ = some (.int .i64 vo) := ((bcell hb1).1 w.heap.size 2 (by simp)).trans (by simp [go_sem]); have k3 : w1.cell? ⟨w.heap.size, 3, none⟩ = some (.int .i64 0) := ((bcell hb1).1 w.heap.size 3 (by simp)).trans (by simp [go_sem]); have k4 : w1.cell? ⟨w.heap.size, 4, none⟩ = some (.int .i64 t) := ((bcell hb1).1 w.heap.size 4 (by simp)).trans (by simp [go_sem]); have k5 : w1.cell? ⟨w.heap.size, 5, none⟩ = some (.int .i64 cl) := ((bcell hb1).1 w.heap.size 5 (by simp)).trans (by simp [go_sem]); have k6 : w1.cell? ⟨w.heap.size, 6, none⟩ = some (.int .i64 sq) := ((bcell hb1).1 w.heap.size 6 (by simp)).trans (by simp [go_sem]); have k7 : w1.cell? ⟨w.heap.size, 7, none⟩ = some (.int .i64 op) := ((bcell hb1).1 w.heap.size 7 (by simp)).trans (by simp [go_sem]); have k8 : w1.cell? ⟨w.heap.size, 8, none⟩ = some (.string k) := ((bcell hb1).1 w.heap.size 8 (by simp)).trans (by simp [go_sem]); have k9 : w1.cell? ⟨w.heap.size, 9, none⟩ = some (.string v) := ((bcell hb1).1 w.heap.size 9 (by simp)).trans (by simp [go_sem]); have k10 : w1.cell? ⟨w.heap.size, 10, none⟩ = some (.string o) := ((bcell hb1).1 w.heap.size 10 (by simp)).trans (by simp [go_sem]); have hG1 : w1.cell? ⟨0, 0, none⟩ = some (sentR A) := ((bcell hb1).1 _ 0 (by simp <;> omega)).trans (((bcell ((Below.refl w.heap.size w).alloc (Nat.le_refl _) (.cells #[.int .i64 1, .int .i64 tm, .int .i64 vo, .int .i64 0, .int .i64 t, .int .i64 cl, .int .i64 sq, .int .i64 op, .string k, .string v, .string o] 93))).1 _ 0 hgl).trans hG))) | fail
      all_goals go_wp2
      all_goals go_quiet (fail)
      all_goals go_wp2
      all_goals go_ret2
      all_goals exact ⟨rfl, ch_below (ch_trans hB0.out hb1 (by simp))⟩
  · have b_ix : (ix == 0) = false := by simpa using hix
    have d_ix : ((0 : Int) == ix) = false := by simpa using (fun e : (0 : Int) = ix => hix e.symm)
    have hR : recB (⟨1, tm, vo, ix, ⟨t, cl, sq, op, k, v, o⟩⟩ : Rec) = false := by simp [recB, hix]
    have hC : chAns A (⟨1, tm, vo, ix, ⟨t, cl, sq, op, k, v, o⟩⟩ : Rec) = .tuple #[.nilIface, .iface 111 (.agg #[sentR A, .int .i64 0])] := by unfold chAns; rw [hR]; rfl
    rw [hC]
    clear hC hR
    have hB0 : Hid (Below w.heap.size w (w.alloc (.cells #[.int .i64 1, .int .i64 tm, .int .i64 vo, .int .i64 ix, .int .i64 t, .int .i64 cl, .int .i64 sq, .int .i64 op, .string k, .string v, .string o] 93))) := (Below.refl _ _).alloc (Nat.le_refl _) _
    have m1 := fun x w => meth_hard_record x w
    have m2 := fun x w => meth_hard_fits x w
    go_enter Tryd.func67, Tryd.ntmps67
    go_wp2
    first | (go_region_with (go_at_call 141; refine (hardRecord_any tm vo _).mono ?_; rintro x w1 ⟨rfl, hb1⟩; have hz1 : w.heap.size < w1.heap.size := (by have := hb1.size; simp at this; omega); have k0 : w1.cell? ⟨w.heap.size, 0, none⟩ = some (.int .i64 1) := ((bcell hb1).1 w.heap.size 0 (by simp)).trans (by simp [go_sem]); have k1 : w1.cell? ⟨w.heap.size, 1, none⟩ = some (.int .i64 tm) := ((bcell hb1).1 w.heap.size 1 (by simp)).trans (by simp [go_sem]); have k2 : w1.cell? ⟨w.heap.size, 2, none⟩ = some (.int .i64 vo) := ((bcell hb1).1 w.heap.size 2 (by simp)).trans (by simp [go_sem]); have k3 : w1.cell? ⟨w.heap.size, 3, none⟩ = some (.int .i64 ix) := ((bcell hb1).1 w.heap.size 3 (by simp)).trans (by simp [go_sem]); have k4 : w1.cell? ⟨w.heap.size, 4, none⟩ = some (.int .i64 t) := ((bcell hb1).1 w.heap.size 4 (by simp)).trans (by simp [go_sem]); have k5 : w1.cell? ⟨w.heap.size, 5, none⟩ = some (.int .i64 cl) := ((bcell hb1).1 w.heap.size 5 (by simp)).trans (by simp [go_sem]); have k6 : w1.cell? ⟨w.heap.size, 6, none⟩ = some (.int .i64 sq) := ((bcell hb1).1 w.heap.size 6 (by simp)).trans (by simp [go_sem]); have k7 : w1.cell? ⟨w.heap.size, 7, none⟩ = some (.int .i64 op) := ((bcell hb1).1 w.heap.size 7 (by simp)).trans (by simp [go_sem]); have k8 : w1.cell? ⟨w.heap.size, 8, none⟩ = some (.string k) := ((bcell hb1).1 w.heap.size 8 (by simp)).trans (by simp [go_sem]); have k9 : w1.cell? ⟨w.heap.size, 9, none⟩ = some (.string v) := ((bcell hb1).1 w.heap.size 9 (by simp)).trans (by simp [go_sem]); have k10 : w1.cell? ⟨w.heap.size, 10, none⟩ = some (.string o) := ((bcell hb1).1 w.heap.size 10 (by simp)).trans (by simp [go_sem]); have hG1 : w1.cell? ⟨0, 0, none⟩ = some (sentR A) := ((bcell hb1).1 _ 0 (by simp <;> omega)).trans (((bcell ((Below.refl w.heap.size w).alloc (Nat.le_refl _) (.cells #[.int .i64 1, .int .i64 tm, .int .i64 vo, .int .i64 ix, .int .i64 t, .int .i64 cl, .int .i64 sq, .int .i64 op, .string k, .string v, .string o] 93))).1 _ 0 hgl).trans hG))) | fail
    all_goals go_wp2
    all_goals go_quiet (fail)
    all_goals go_wp2
    all_goals go_ret2
    all_goals exact ⟨rfl, ch_below (ch_trans hB0.out hb1 (by simp))⟩
end Go.Proofs.YtmbiccmndcchhagDoor
