import Derived.Test.YtjoflnnomebkpaaDoorGround
import Derived.Deep.RegionWith
import Derived.Deep.QuietTactic
import Derived.BigQuiet
import Derived.LaidEql
import Derived.Stop.Asserts
import Derived.RowKitTokens
/-
  impl.changeOf: a cut record.
-/
namespace Go.Proofs.YtjoflnnomebkpaaDoor
open Go.RowKit
set_option linter.unusedVariables false
set_option linter.unusedSimpArgs false

set_option maxHeartbeats 20000000 in
set_option maxRecDepth 100000 in
theorem changeOf_cut (tm vo ix t cl sq op : Int) (k v o : ByteArray) (hf : (⟨t, cl, sq, op, k, v, o⟩ : Ent).fits) (A : Addr) (w : World) (hG : w.cell? ⟨0, 0, none⟩ = some (sentR A)) :
    Calls Tryd.prog 82 #[.agg #[.int .i64 3, .int .i64 tm, .int .i64 vo, .int .i64 ix, .int .i64 t, .int .i64 cl, .int .i64 sq, .int .i64 op, .string k, .string v, .string o]] w fun x w' => x = .returned (chAns A ⟨3, tm, vo, ix, ⟨t, cl, sq, op, k, v, o⟩⟩) ∧ Below w.heap.size w w' := by
  have hgl := cell_lt hG
  by_cases htm : tm = 0
  · subst htm
    by_cases hvo : vo = 0
    · subst hvo
      by_cases ht : t = 0
      · subst ht
        by_cases hcl : cl = 0
        · subst hcl
          by_cases hsq : sq = 0
          · subst hsq
            by_cases hop : op = 0
            · subst hop
              by_cases hk : k = .empty
              · subst hk
                by_cases hv : v = .empty
                · subst hv
                  by_cases ho : o = .empty
                  · subst ho
                    cases hF : inB ix 0 4096
                    · have hN : noEntB (⟨0, 0, 0, 0, .empty, .empty, .empty⟩ : Ent) = true := by rw [noEnt_iff]; rfl
                      have hR : recB (⟨3, 0, 0, ix, ⟨0, 0, 0, 0, .empty, .empty, .empty⟩⟩ : Rec) = false := by simp [recB, hN, hF]
                      have hC : chAns A (⟨3, 0, 0, ix, ⟨0, 0, 0, 0, .empty, .empty, .empty⟩⟩ : Rec) = .tuple #[.nilIface, .iface 124 (.agg #[sentR A, .int .i64 0])] := by unfold chAns; rw [hR]; rfl
                      rw [hC]
                      clear hC hR
                      have hB0 : Hid (Below w.heap.size w (w.alloc (.cells #[.int .i64 3, .int .i64 0, .int .i64 0, .int .i64 ix, .int .i64 0, .int .i64 0, .int .i64 0, .int .i64 0, .string .empty, .string .empty, .string .empty] 94))) := (Below.refl _ _).alloc (Nat.le_refl _) _
                      have m1 := fun x w => meth_cut_record x w
                      have m2 := fun x w => meth_cut_fits x w
                      go_enter Tryd.func82, Tryd.ntmps82
                      go_wp2
                      go_region_held3 (fun w' => w'.cell? ⟨w.heap.size, 0, none⟩ = some (.int .i64 3) ∧ w'.cell? ⟨w.heap.size, 1, none⟩ = some (.int .i64 0) ∧ w'.cell? ⟨w.heap.size, 2, none⟩ = some (.int .i64 0) ∧ w'.cell? ⟨w.heap.size, 3, none⟩ = some (.int .i64 ix) ∧ w'.cell? ⟨w.heap.size, 4, none⟩ = some (.int .i64 0) ∧ w'.cell? ⟨w.heap.size, 5, none⟩ = some (.int .i64 0) ∧ w'.cell? ⟨w.heap.size, 6, none⟩ = some (.int .i64 0) ∧ w'.cell? ⟨w.heap.size, 7, none⟩ = some (.int .i64 0) ∧ w'.cell? ⟨w.heap.size, 8, none⟩ = some (.string .empty) ∧ w'.cell? ⟨w.heap.size, 9, none⟩ = some (.string .empty) ∧ w'.cell? ⟨w.heap.size, 10, none⟩ = some (.string .empty)) (simp [*, go_sem])
                        (first
                          | (go_at_call 93; refine (cutRecord_any ix _).mono ?_; rintro x w1 ⟨rfl, hb1⟩; have hz1 : w.heap.size < w1.heap.size := (by have := hb1.size; simp at this; omega); have q1 := fun (o : Nat) => (bcell hb1).1 w.heap.size o (by simp); have hG1 : w1.cell? ⟨0, 0, none⟩ = some (sentR A) := ((bcell hb1).1 _ 0 (by simp <;> omega)).trans (((bcell ((Below.refl w.heap.size w).alloc (Nat.le_refl _) (.cells #[.int .i64 3, .int .i64 0, .int .i64 0, .int .i64 ix, .int .i64 0, .int .i64 0, .int .i64 0, .int .i64 0, .string .empty, .string .empty, .string .empty] 94))).1 _ 0 hgl).trans hG))
                          | (go_at_call 165; refine (cutFits_any ix _).mono ?_; rintro x w2 ⟨rfl, hb2⟩; have hz2 : w.heap.size < w2.heap.size := (by have := hb2.size; omega); have q2 := fun (o : Nat) => (bcell hb2).1 w.heap.size o hz1; have hG2 : w2.cell? ⟨0, 0, none⟩ = some (sentR A) := ((bcell hb2).1 _ 0 (by omega)).trans hG1; rw [hF]))
                      all_goals go_wp2
                      all_goals go_quiet (fail)
                      all_goals go_wp2
                      all_goals go_ret2
                      all_goals exact ⟨rfl, ch_below (ch_trans (ch_trans hB0.out hb1 (by simp)) hb2 (by omega))⟩
                    · have hN : noEntB (⟨0, 0, 0, 0, .empty, .empty, .empty⟩ : Ent) = true := by rw [noEnt_iff]; rfl
                      have hR : recB (⟨3, 0, 0, ix, ⟨0, 0, 0, 0, .empty, .empty, .empty⟩⟩ : Rec) = true := by simp [recB, hN, hF]
                      have hC : chAns A (⟨3, 0, 0, ix, ⟨0, 0, 0, 0, .empty, .empty, .empty⟩⟩ : Rec) = .tuple #[.iface 136 (.agg #[.int .i64 ix]), .nilIface] := by unfold chAns; rw [hR]; rfl
                      rw [hC]
                      clear hC hR
                      have hB0 : Hid (Below w.heap.size w (w.alloc (.cells #[.int .i64 3, .int .i64 0, .int .i64 0, .int .i64 ix, .int .i64 0, .int .i64 0, .int .i64 0, .int .i64 0, .string .empty, .string .empty, .string .empty] 94))) := (Below.refl _ _).alloc (Nat.le_refl _) _
                      have m1 := fun x w => meth_cut_record x w
                      have m2 := fun x w => meth_cut_fits x w
                      go_enter Tryd.func82, Tryd.ntmps82
                      go_wp2
                      go_region_held3 (fun w' => w'.cell? ⟨w.heap.size, 0, none⟩ = some (.int .i64 3) ∧ w'.cell? ⟨w.heap.size, 1, none⟩ = some (.int .i64 0) ∧ w'.cell? ⟨w.heap.size, 2, none⟩ = some (.int .i64 0) ∧ w'.cell? ⟨w.heap.size, 3, none⟩ = some (.int .i64 ix) ∧ w'.cell? ⟨w.heap.size, 4, none⟩ = some (.int .i64 0) ∧ w'.cell? ⟨w.heap.size, 5, none⟩ = some (.int .i64 0) ∧ w'.cell? ⟨w.heap.size, 6, none⟩ = some (.int .i64 0) ∧ w'.cell? ⟨w.heap.size, 7, none⟩ = some (.int .i64 0) ∧ w'.cell? ⟨w.heap.size, 8, none⟩ = some (.string .empty) ∧ w'.cell? ⟨w.heap.size, 9, none⟩ = some (.string .empty) ∧ w'.cell? ⟨w.heap.size, 10, none⟩ = some (.string .empty)) (simp [*, go_sem])
                        (first
                          | (go_at_call 93; refine (cutRecord_any ix _).mono ?_; rintro x w1 ⟨rfl, hb1⟩; have hz1 : w.heap.size < w1.heap.size := (by have := hb1.size; simp at this; omega); have q1 := fun (o : Nat) => (bcell hb1).1 w.heap.size o (by simp); have hG1 : w1.cell? ⟨0, 0, none⟩ = some (sentR A) := ((bcell hb1).1 _ 0 (by simp <;> omega)).trans (((bcell ((Below.refl w.heap.size w).alloc (Nat.le_refl _) (.cells #[.int .i64 3, .int .i64 0, .int .i64 0, .int .i64 ix, .int .i64 0, .int .i64 0, .int .i64 0, .int .i64 0, .string .empty, .string .empty, .string .empty] 94))).1 _ 0 hgl).trans hG))
                          | (go_at_call 165; refine (cutFits_any ix _).mono ?_; rintro x w2 ⟨rfl, hb2⟩; have hz2 : w.heap.size < w2.heap.size := (by have := hb2.size; omega); have q2 := fun (o : Nat) => (bcell hb2).1 w.heap.size o hz1; have hG2 : w2.cell? ⟨0, 0, none⟩ = some (sentR A) := ((bcell hb2).1 _ 0 (by omega)).trans hG1; rw [hF]))
                      all_goals go_wp2
                      all_goals go_ret2
                      all_goals exact ⟨rfl, ch_below (ch_trans (ch_trans hB0.out hb1 (by simp)) hb2 (by omega))⟩
                  · have hN : noEntB (⟨0, 0, 0, 0, .empty, .empty, o⟩ : Ent) = false := by
                      cases hB : noEntB (⟨0, 0, 0, 0, .empty, .empty, o⟩ : Ent)
                      · rfl
                      · rw [noEnt_iff] at hB; injection hB with e0 e1 e2 e3 e4 e5 e6; exact absurd e6 ho
                    have b_o := text_ne ho
                    have c_o := text_ne' ho
                    have d_o : ¬ ([] : List UInt8) = o.toList := fun e => b_o e.symm
                    have e_o : (([] : List UInt8) == o.toList) = false := by simpa using d_o
                    have hR : recB (⟨3, 0, 0, ix, ⟨0, 0, 0, 0, .empty, .empty, o⟩⟩ : Rec) = false := by simp [recB, hN]
                    have hC : chAns A (⟨3, 0, 0, ix, ⟨0, 0, 0, 0, .empty, .empty, o⟩⟩ : Rec) = .tuple #[.nilIface, .iface 124 (.agg #[sentR A, .int .i64 0])] := by unfold chAns; rw [hR]; rfl
                    rw [hC]
                    clear hC hR
                    have hB0 : Hid (Below w.heap.size w (w.alloc (.cells #[.int .i64 3, .int .i64 0, .int .i64 0, .int .i64 ix, .int .i64 0, .int .i64 0, .int .i64 0, .int .i64 0, .string .empty, .string .empty, .string o] 94))) := (Below.refl _ _).alloc (Nat.le_refl _) _
                    have m1 := fun x w => meth_cut_record x w
                    have m2 := fun x w => meth_cut_fits x w
                    go_enter Tryd.func82, Tryd.ntmps82
                    go_wp2
                    first | (go_region_with (go_at_call 93; refine (cutRecord_any ix _).mono ?_; rintro x w1 ⟨rfl, hb1⟩; have hz1 : w.heap.size < w1.heap.size := (by have := hb1.size; simp at this; omega); have k0 : w1.cell? ⟨w.heap.size, 0, none⟩ = some (.int .i64 3) := ((bcell hb1).1 w.heap.size 0 (by simp)).trans (by simp [go_sem]); have k1 : w1.cell? ⟨w.heap.size, 1, none⟩ = some (.int .i64 0) := ((bcell hb1).1 w.heap.size 1 (by simp)).trans (by simp [go_sem]); have k2 : w1.cell? ⟨w.heap.size, 2, none⟩ = some (.int .i64 0) := ((bcell hb1).1 w.heap.size 2 (by simp)).trans (by simp [go_sem]); have k3 : w1.cell? ⟨w.heap.size, 3, none⟩ = some (.int .i64 ix) := ((bcell hb1).1 w.heap.size 3 (by simp)).trans (by simp [go_sem]); have k4 : w1.cell? ⟨w.heap.size, 4, none⟩ = some (.int .i64 0) := ((bcell hb1).1 w.heap.size 4 (by simp)).trans (by simp [go_sem]); have k5 : w1.cell? ⟨w.heap.size, 5, none⟩ = some (.int .i64 0) := ((bcell hb1).1 w.heap.size 5 (by simp)).trans (by simp [go_sem]); have k6 : w1.cell? ⟨w.heap.size, 6, none⟩ = some (.int .i64 0) := ((bcell hb1).1 w.heap.size 6 (by simp)).trans (by simp [go_sem]); have k7 : w1.cell? ⟨w.heap.size, 7, none⟩ = some (.int .i64 0) := ((bcell hb1).1 w.heap.size 7 (by simp)).trans (by simp [go_sem]); have k8 : w1.cell? ⟨w.heap.size, 8, none⟩ = some (.string .empty) := ((bcell hb1).1 w.heap.size 8 (by simp)).trans (by simp [go_sem]); have k9 : w1.cell? ⟨w.heap.size, 9, none⟩ = some (.string .empty) := ((bcell hb1).1 w.heap.size 9 (by simp)).trans (by simp [go_sem]); have k10 : w1.cell? ⟨w.heap.size, 10, none⟩ = some (.string o) := ((bcell hb1).1 w.heap.size 10 (by simp)).trans (by simp [go_sem]); have hG1 : w1.cell? ⟨0, 0, none⟩ = some (sentR A) := ((bcell hb1).1 _ 0 (by simp <;> omega)).trans (((bcell ((Below.refl w.heap.size w).alloc (Nat.le_refl _) (.cells #[.int .i64 3, .int .i64 0, .int .i64 0, .int .i64 ix, .int .i64 0, .int .i64 0, .int .i64 0, .int .i64 0, .string .empty, .string .empty, .string o] 94))).1 _ 0 hgl).trans hG))) | fail
                    all_goals go_wp2
                    all_goals go_quiet (fail)
                    all_goals go_wp2
                    all_goals go_ret2
                    all_goals exact ⟨rfl, ch_below (ch_trans hB0.out hb1 (by simp))⟩
                · have hN : noEntB (⟨0, 0, 0, 0, .empty, v, o⟩ : Ent) = false := by
                    cases hB : noEntB (⟨0, 0, 0, 0, .empty, v, o⟩ : Ent)
                    · rfl
                    · rw [noEnt_iff] at hB; injection hB with e0 e1 e2 e3 e4 e5 e6; exact absurd e5 hv
                  have b_v := text_ne hv
                  have c_v := text_ne' hv
                  have d_v : ¬ ([] : List UInt8) = v.toList := fun e => b_v e.symm
                  have e_v : (([] : List UInt8) == v.toList) = false := by simpa using d_v
                  have hR : recB (⟨3, 0, 0, ix, ⟨0, 0, 0, 0, .empty, v, o⟩⟩ : Rec) = false := by simp [recB, hN]
                  have hC : chAns A (⟨3, 0, 0, ix, ⟨0, 0, 0, 0, .empty, v, o⟩⟩ : Rec) = .tuple #[.nilIface, .iface 124 (.agg #[sentR A, .int .i64 0])] := by unfold chAns; rw [hR]; rfl
                  rw [hC]
                  clear hC hR
                  have hB0 : Hid (Below w.heap.size w (w.alloc (.cells #[.int .i64 3, .int .i64 0, .int .i64 0, .int .i64 ix, .int .i64 0, .int .i64 0, .int .i64 0, .int .i64 0, .string .empty, .string v, .string o] 94))) := (Below.refl _ _).alloc (Nat.le_refl _) _
                  have m1 := fun x w => meth_cut_record x w
                  have m2 := fun x w => meth_cut_fits x w
                  go_enter Tryd.func82, Tryd.ntmps82
                  go_wp2
                  first | (go_region_with (go_at_call 93; refine (cutRecord_any ix _).mono ?_; rintro x w1 ⟨rfl, hb1⟩; have hz1 : w.heap.size < w1.heap.size := (by have := hb1.size; simp at this; omega); have k0 : w1.cell? ⟨w.heap.size, 0, none⟩ = some (.int .i64 3) := ((bcell hb1).1 w.heap.size 0 (by simp)).trans (by simp [go_sem]); have k1 : w1.cell? ⟨w.heap.size, 1, none⟩ = some (.int .i64 0) := ((bcell hb1).1 w.heap.size 1 (by simp)).trans (by simp [go_sem]); have k2 : w1.cell? ⟨w.heap.size, 2, none⟩ = some (.int .i64 0) := ((bcell hb1).1 w.heap.size 2 (by simp)).trans (by simp [go_sem]); have k3 : w1.cell? ⟨w.heap.size, 3, none⟩ = some (.int .i64 ix) := ((bcell hb1).1 w.heap.size 3 (by simp)).trans (by simp [go_sem]); have k4 : w1.cell? ⟨w.heap.size, 4, none⟩ = some (.int .i64 0) := ((bcell hb1).1 w.heap.size 4 (by simp)).trans (by simp [go_sem]); have k5 : w1.cell? ⟨w.heap.size, 5, none⟩ = some (.int .i64 0) := ((bcell hb1).1 w.heap.size 5 (by simp)).trans (by simp [go_sem]); have k6 : w1.cell? ⟨w.heap.size, 6, none⟩ = some (.int .i64 0) := ((bcell hb1).1 w.heap.size 6 (by simp)).trans (by simp [go_sem]); have k7 : w1.cell? ⟨w.heap.size, 7, none⟩ = some (.int .i64 0) := ((bcell hb1).1 w.heap.size 7 (by simp)).trans (by simp [go_sem]); have k8 : w1.cell? ⟨w.heap.size, 8, none⟩ = some (.string .empty) := ((bcell hb1).1 w.heap.size 8 (by simp)).trans (by simp [go_sem]); have k9 : w1.cell? ⟨w.heap.size, 9, none⟩ = some (.string v) := ((bcell hb1).1 w.heap.size 9 (by simp)).trans (by simp [go_sem]); have k10 : w1.cell? ⟨w.heap.size, 10, none⟩ = some (.string o) := ((bcell hb1).1 w.heap.size 10 (by simp)).trans (by simp [go_sem]); have hG1 : w1.cell? ⟨0, 0, none⟩ = some (sentR A) := ((bcell hb1).1 _ 0 (by simp <;> omega)).trans (((bcell ((Below.refl w.heap.size w).alloc (Nat.le_refl _) (.cells #[.int .i64 3, .int .i64 0, .int .i64 0, .int .i64 ix, .int .i64 0, .int .i64 0, .int .i64 0, .int .i64 0, .string .empty, .string v, .string o] 94))).1 _ 0 hgl).trans hG))) | fail
                  all_goals go_wp2
                  all_goals go_quiet (fail)
                  all_goals go_wp2
                  all_goals go_ret2
                  all_goals exact ⟨rfl, ch_below (ch_trans hB0.out hb1 (by simp))⟩
              · have hN : noEntB (⟨0, 0, 0, 0, k, v, o⟩ : Ent) = false := by
                  cases hB : noEntB (⟨0, 0, 0, 0, k, v, o⟩ : Ent)
                  · rfl
                  · rw [noEnt_iff] at hB; injection hB with e0 e1 e2 e3 e4 e5 e6; exact absurd e4 hk
                have b_k := text_ne hk
                have c_k := text_ne' hk
                have d_k : ¬ ([] : List UInt8) = k.toList := fun e => b_k e.symm
                have e_k : (([] : List UInt8) == k.toList) = false := by simpa using d_k
                have hR : recB (⟨3, 0, 0, ix, ⟨0, 0, 0, 0, k, v, o⟩⟩ : Rec) = false := by simp [recB, hN]
                have hC : chAns A (⟨3, 0, 0, ix, ⟨0, 0, 0, 0, k, v, o⟩⟩ : Rec) = .tuple #[.nilIface, .iface 124 (.agg #[sentR A, .int .i64 0])] := by unfold chAns; rw [hR]; rfl
                rw [hC]
                clear hC hR
                have hB0 : Hid (Below w.heap.size w (w.alloc (.cells #[.int .i64 3, .int .i64 0, .int .i64 0, .int .i64 ix, .int .i64 0, .int .i64 0, .int .i64 0, .int .i64 0, .string k, .string v, .string o] 94))) := (Below.refl _ _).alloc (Nat.le_refl _) _
                have m1 := fun x w => meth_cut_record x w
                have m2 := fun x w => meth_cut_fits x w
                go_enter Tryd.func82, Tryd.ntmps82
                go_wp2
                first | (go_region_with (go_at_call 93; refine (cutRecord_any ix _).mono ?_; rintro x w1 ⟨rfl, hb1⟩; have hz1 : w.heap.size < w1.heap.size := (by have := hb1.size; simp at this; omega); have k0 : w1.cell? ⟨w.heap.size, 0, none⟩ = some (.int .i64 3) := ((bcell hb1).1 w.heap.size 0 (by simp)).trans (by simp [go_sem]); have k1 : w1.cell? ⟨w.heap.size, 1, none⟩ = some (.int .i64 0) := ((bcell hb1).1 w.heap.size 1 (by simp)).trans (by simp [go_sem]); have k2 : w1.cell? ⟨w.heap.size, 2, none⟩ = some (.int .i64 0) := ((bcell hb1).1 w.heap.size 2 (by simp)).trans (by simp [go_sem]); have k3 : w1.cell? ⟨w.heap.size, 3, none⟩ = some (.int .i64 ix) := ((bcell hb1).1 w.heap.size 3 (by simp)).trans (by simp [go_sem]); have k4 : w1.cell? ⟨w.heap.size, 4, none⟩ = some (.int .i64 0) := ((bcell hb1).1 w.heap.size 4 (by simp)).trans (by simp [go_sem]); have k5 : w1.cell? ⟨w.heap.size, 5, none⟩ = some (.int .i64 0) := ((bcell hb1).1 w.heap.size 5 (by simp)).trans (by simp [go_sem]); have k6 : w1.cell? ⟨w.heap.size, 6, none⟩ = some (.int .i64 0) := ((bcell hb1).1 w.heap.size 6 (by simp)).trans (by simp [go_sem]); have k7 : w1.cell? ⟨w.heap.size, 7, none⟩ = some (.int .i64 0) := ((bcell hb1).1 w.heap.size 7 (by simp)).trans (by simp [go_sem]); have k8 : w1.cell? ⟨w.heap.size, 8, none⟩ = some (.string k) := ((bcell hb1).1 w.heap.size 8 (by simp)).trans (by simp [go_sem]); have k9 : w1.cell? ⟨w.heap.size, 9, none⟩ = some (.string v) := ((bcell hb1).1 w.heap.size 9 (by simp)).trans (by simp [go_sem]); have k10 : w1.cell? ⟨w.heap.size, 10, none⟩ = some (.string o) := ((bcell hb1).1 w.heap.size 10 (by simp)).trans (by simp [go_sem]); have hG1 : w1.cell? ⟨0, 0, none⟩ = some (sentR A) := ((bcell hb1).1 _ 0 (by simp <;> omega)).trans (((bcell ((Below.refl w.heap.size w).alloc (Nat.le_refl _) (.cells #[.int .i64 3, .int .i64 0, .int .i64 0, .int .i64 ix, .int .i64 0, .int .i64 0, .int .i64 0, .int .i64 0, .string k, .string v, .string o] 94))).1 _ 0 hgl).trans hG))) | fail
                all_goals go_wp2
                all_goals go_quiet (fail)
                all_goals go_wp2
                all_goals go_ret2
                all_goals exact ⟨rfl, ch_below (ch_trans hB0.out hb1 (by simp))⟩
            · have hN : noEntB (⟨0, 0, 0, op, k, v, o⟩ : Ent) = false := by
                cases hB : noEntB (⟨0, 0, 0, op, k, v, o⟩ : Ent)
                · rfl
                · rw [noEnt_iff] at hB; injection hB with e0 e1 e2 e3 e4 e5 e6; exact absurd e3 hop
              have b_op : (op == 0) = false := by simpa using hop
              have d_op : ((0 : Int) == op) = false := by simpa using (fun e : (0 : Int) = op => hop e.symm)
              have hR : recB (⟨3, 0, 0, ix, ⟨0, 0, 0, op, k, v, o⟩⟩ : Rec) = false := by simp [recB, hN]
              have hC : chAns A (⟨3, 0, 0, ix, ⟨0, 0, 0, op, k, v, o⟩⟩ : Rec) = .tuple #[.nilIface, .iface 124 (.agg #[sentR A, .int .i64 0])] := by unfold chAns; rw [hR]; rfl
              rw [hC]
              clear hC hR
              have hB0 : Hid (Below w.heap.size w (w.alloc (.cells #[.int .i64 3, .int .i64 0, .int .i64 0, .int .i64 ix, .int .i64 0, .int .i64 0, .int .i64 0, .int .i64 op, .string k, .string v, .string o] 94))) := (Below.refl _ _).alloc (Nat.le_refl _) _
              have m1 := fun x w => meth_cut_record x w
              have m2 := fun x w => meth_cut_fits x w
              go_enter Tryd.func82, Tryd.ntmps82
              go_wp2
              first | (go_region_with (go_at_call 93; refine (cutRecord_any ix _).mono ?_; rintro x w1 ⟨rfl, hb1⟩; have hz1 : w.heap.size < w1.heap.size := (by have := hb1.size; simp at this; omega); have k0 : w1.cell? ⟨w.heap.size, 0, none⟩ = some (.int .i64 3) := ((bcell hb1).1 w.heap.size 0 (by simp)).trans (by simp [go_sem]); have k1 : w1.cell? ⟨w.heap.size, 1, none⟩ = some (.int .i64 0) := ((bcell hb1).1 w.heap.size 1 (by simp)).trans (by simp [go_sem]); have k2 : w1.cell? ⟨w.heap.size, 2, none⟩ = some (.int .i64 0) := ((bcell hb1).1 w.heap.size 2 (by simp)).trans (by simp [go_sem]); have k3 : w1.cell? ⟨w.heap.size, 3, none⟩ = some (.int .i64 ix) := ((bcell hb1).1 w.heap.size 3 (by simp)).trans (by simp [go_sem]); have k4 : w1.cell? ⟨w.heap.size, 4, none⟩ = some (.int .i64 0) := ((bcell hb1).1 w.heap.size 4 (by simp)).trans (by simp [go_sem]); have k5 : w1.cell? ⟨w.heap.size, 5, none⟩ = some (.int .i64 0) := ((bcell hb1).1 w.heap.size 5 (by simp)).trans (by simp [go_sem]); have k6 : w1.cell? ⟨w.heap.size, 6, none⟩ = some (.int .i64 0) := ((bcell hb1).1 w.heap.size 6 (by simp)).trans (by simp [go_sem]); have k7 : w1.cell? ⟨w.heap.size, 7, none⟩ = some (.int .i64 op) := ((bcell hb1).1 w.heap.size 7 (by simp)).trans (by simp [go_sem]); have k8 : w1.cell? ⟨w.heap.size, 8, none⟩ = some (.string k) := ((bcell hb1).1 w.heap.size 8 (by simp)).trans (by simp [go_sem]); have k9 : w1.cell? ⟨w.heap.size, 9, none⟩ = some (.string v) := ((bcell hb1).1 w.heap.size 9 (by simp)).trans (by simp [go_sem]); have k10 : w1.cell? ⟨w.heap.size, 10, none⟩ = some (.string o) := ((bcell hb1).1 w.heap.size 10 (by simp)).trans (by simp [go_sem]); have hG1 : w1.cell? ⟨0, 0, none⟩ = some (sentR A) := ((bcell hb1).1 _ 0 (by simp <;> omega)).trans (((bcell ((Below.refl w.heap.size w).alloc (Nat.le_refl _) (.cells #[.int .i64 3, .int .i64 0, .int .i64 0, .int .i64 ix, .int .i64 0, .int .i64 0, .int .i64 0, .int .i64 op, .string k, .string v, .string o] 94))).1 _ 0 hgl).trans hG))) | fail
              all_goals go_wp2
              all_goals go_quiet (fail)
              all_goals go_wp2
              all_goals go_ret2
              all_goals exact ⟨rfl, ch_below (ch_trans hB0.out hb1 (by simp))⟩
          · have hN : noEntB (⟨0, 0, sq, op, k, v, o⟩ : Ent) = false := by
              cases hB : noEntB (⟨0, 0, sq, op, k, v, o⟩ : Ent)
              · rfl
              · rw [noEnt_iff] at hB; injection hB with e0 e1 e2 e3 e4 e5 e6; exact absurd e2 hsq
            have b_sq : (sq == 0) = false := by simpa using hsq
            have d_sq : ((0 : Int) == sq) = false := by simpa using (fun e : (0 : Int) = sq => hsq e.symm)
            have hR : recB (⟨3, 0, 0, ix, ⟨0, 0, sq, op, k, v, o⟩⟩ : Rec) = false := by simp [recB, hN]
            have hC : chAns A (⟨3, 0, 0, ix, ⟨0, 0, sq, op, k, v, o⟩⟩ : Rec) = .tuple #[.nilIface, .iface 124 (.agg #[sentR A, .int .i64 0])] := by unfold chAns; rw [hR]; rfl
            rw [hC]
            clear hC hR
            have hB0 : Hid (Below w.heap.size w (w.alloc (.cells #[.int .i64 3, .int .i64 0, .int .i64 0, .int .i64 ix, .int .i64 0, .int .i64 0, .int .i64 sq, .int .i64 op, .string k, .string v, .string o] 94))) := (Below.refl _ _).alloc (Nat.le_refl _) _
            have m1 := fun x w => meth_cut_record x w
            have m2 := fun x w => meth_cut_fits x w
            go_enter Tryd.func82, Tryd.ntmps82
            go_wp2
            first | (go_region_with (go_at_call 93; refine (cutRecord_any ix _).mono ?_; rintro x w1 ⟨rfl, hb1⟩; have hz1 : w.heap.size < w1.heap.size := (by have := hb1.size; simp at this; omega); have k0 : w1.cell? ⟨w.heap.size, 0, none⟩ = some (.int .i64 3) := ((bcell hb1).1 w.heap.size 0 (by simp)).trans (by simp [go_sem]); have k1 : w1.cell? ⟨w.heap.size, 1, none⟩ = some (.int .i64 0) := ((bcell hb1).1 w.heap.size 1 (by simp)).trans (by simp [go_sem]); have k2 : w1.cell? ⟨w.heap.size, 2, none⟩ = some (.int .i64 0) := ((bcell hb1).1 w.heap.size 2 (by simp)).trans (by simp [go_sem]); have k3 : w1.cell? ⟨w.heap.size, 3, none⟩ = some (.int .i64 ix) := ((bcell hb1).1 w.heap.size 3 (by simp)).trans (by simp [go_sem]); have k4 : w1.cell? ⟨w.heap.size, 4, none⟩ = some (.int .i64 0) := ((bcell hb1).1 w.heap.size 4 (by simp)).trans (by simp [go_sem]); have k5 : w1.cell? ⟨w.heap.size, 5, none⟩ = some (.int .i64 0) := ((bcell hb1).1 w.heap.size 5 (by simp)).trans (by simp [go_sem]); have k6 : w1.cell? ⟨w.heap.size, 6, none⟩ = some (.int .i64 sq) := ((bcell hb1).1 w.heap.size 6 (by simp)).trans (by simp [go_sem]); have k7 : w1.cell? ⟨w.heap.size, 7, none⟩ = some (.int .i64 op) := ((bcell hb1).1 w.heap.size 7 (by simp)).trans (by simp [go_sem]); have k8 : w1.cell? ⟨w.heap.size, 8, none⟩ = some (.string k) := ((bcell hb1).1 w.heap.size 8 (by simp)).trans (by simp [go_sem]); have k9 : w1.cell? ⟨w.heap.size, 9, none⟩ = some (.string v) := ((bcell hb1).1 w.heap.size 9 (by simp)).trans (by simp [go_sem]); have k10 : w1.cell? ⟨w.heap.size, 10, none⟩ = some (.string o) := ((bcell hb1).1 w.heap.size 10 (by simp)).trans (by simp [go_sem]); have hG1 : w1.cell? ⟨0, 0, none⟩ = some (sentR A) := ((bcell hb1).1 _ 0 (by simp <;> omega)).trans (((bcell ((Below.refl w.heap.size w).alloc (Nat.le_refl _) (.cells #[.int .i64 3, .int .i64 0, .int .i64 0, .int .i64 ix, .int .i64 0, .int .i64 0, .int .i64 sq, .int .i64 op, .string k, .string v, .string o] 94))).1 _ 0 hgl).trans hG))) | fail
            all_goals go_wp2
            all_goals go_quiet (fail)
            all_goals go_wp2
            all_goals go_ret2
            all_goals exact ⟨rfl, ch_below (ch_trans hB0.out hb1 (by simp))⟩
        · have hN : noEntB (⟨0, cl, sq, op, k, v, o⟩ : Ent) = false := by
            cases hB : noEntB (⟨0, cl, sq, op, k, v, o⟩ : Ent)
            · rfl
            · rw [noEnt_iff] at hB; injection hB with e0 e1 e2 e3 e4 e5 e6; exact absurd e1 hcl
          have b_cl : (cl == 0) = false := by simpa using hcl
          have d_cl : ((0 : Int) == cl) = false := by simpa using (fun e : (0 : Int) = cl => hcl e.symm)
          have hR : recB (⟨3, 0, 0, ix, ⟨0, cl, sq, op, k, v, o⟩⟩ : Rec) = false := by simp [recB, hN]
          have hC : chAns A (⟨3, 0, 0, ix, ⟨0, cl, sq, op, k, v, o⟩⟩ : Rec) = .tuple #[.nilIface, .iface 124 (.agg #[sentR A, .int .i64 0])] := by unfold chAns; rw [hR]; rfl
          rw [hC]
          clear hC hR
          have hB0 : Hid (Below w.heap.size w (w.alloc (.cells #[.int .i64 3, .int .i64 0, .int .i64 0, .int .i64 ix, .int .i64 0, .int .i64 cl, .int .i64 sq, .int .i64 op, .string k, .string v, .string o] 94))) := (Below.refl _ _).alloc (Nat.le_refl _) _
          have m1 := fun x w => meth_cut_record x w
          have m2 := fun x w => meth_cut_fits x w
          go_enter Tryd.func82, Tryd.ntmps82
          go_wp2
          first | (go_region_with (go_at_call 93; refine (cutRecord_any ix _).mono ?_; rintro x w1 ⟨rfl, hb1⟩; have hz1 : w.heap.size < w1.heap.size := (by have := hb1.size; simp at this; omega); have k0 : w1.cell? ⟨w.heap.size, 0, none⟩ = some (.int .i64 3) := ((bcell hb1).1 w.heap.size 0 (by simp)).trans (by simp [go_sem]); have k1 : w1.cell? ⟨w.heap.size, 1, none⟩ = some (.int .i64 0) := ((bcell hb1).1 w.heap.size 1 (by simp)).trans (by simp [go_sem]); have k2 : w1.cell? ⟨w.heap.size, 2, none⟩ = some (.int .i64 0) := ((bcell hb1).1 w.heap.size 2 (by simp)).trans (by simp [go_sem]); have k3 : w1.cell? ⟨w.heap.size, 3, none⟩ = some (.int .i64 ix) := ((bcell hb1).1 w.heap.size 3 (by simp)).trans (by simp [go_sem]); have k4 : w1.cell? ⟨w.heap.size, 4, none⟩ = some (.int .i64 0) := ((bcell hb1).1 w.heap.size 4 (by simp)).trans (by simp [go_sem]); have k5 : w1.cell? ⟨w.heap.size, 5, none⟩ = some (.int .i64 cl) := ((bcell hb1).1 w.heap.size 5 (by simp)).trans (by simp [go_sem]); have k6 : w1.cell? ⟨w.heap.size, 6, none⟩ = some (.int .i64 sq) := ((bcell hb1).1 w.heap.size 6 (by simp)).trans (by simp [go_sem]); have k7 : w1.cell? ⟨w.heap.size, 7, none⟩ = some (.int .i64 op) := ((bcell hb1).1 w.heap.size 7 (by simp)).trans (by simp [go_sem]); have k8 : w1.cell? ⟨w.heap.size, 8, none⟩ = some (.string k) := ((bcell hb1).1 w.heap.size 8 (by simp)).trans (by simp [go_sem]); have k9 : w1.cell? ⟨w.heap.size, 9, none⟩ = some (.string v) := ((bcell hb1).1 w.heap.size 9 (by simp)).trans (by simp [go_sem]); have k10 : w1.cell? ⟨w.heap.size, 10, none⟩ = some (.string o) := ((bcell hb1).1 w.heap.size 10 (by simp)).trans (by simp [go_sem]); have hG1 : w1.cell? ⟨0, 0, none⟩ = some (sentR A) := ((bcell hb1).1 _ 0 (by simp <;> omega)).trans (((bcell ((Below.refl w.heap.size w).alloc (Nat.le_refl _) (.cells #[.int .i64 3, .int .i64 0, .int .i64 0, .int .i64 ix, .int .i64 0, .int .i64 cl, .int .i64 sq, .int .i64 op, .string k, .string v, .string o] 94))).1 _ 0 hgl).trans hG))) | fail
          all_goals go_wp2
          all_goals go_quiet (fail)
          all_goals go_wp2
          all_goals go_ret2
          all_goals exact ⟨rfl, ch_below (ch_trans hB0.out hb1 (by simp))⟩
      · have hN : noEntB (⟨t, cl, sq, op, k, v, o⟩ : Ent) = false := by
          cases hB : noEntB (⟨t, cl, sq, op, k, v, o⟩ : Ent)
          · rfl
          · rw [noEnt_iff] at hB; injection hB with e0 e1 e2 e3 e4 e5 e6; exact absurd e0 ht
        have b_t : (t == 0) = false := by simpa using ht
        have d_t : ((0 : Int) == t) = false := by simpa using (fun e : (0 : Int) = t => ht e.symm)
        have hR : recB (⟨3, 0, 0, ix, ⟨t, cl, sq, op, k, v, o⟩⟩ : Rec) = false := by simp [recB, hN]
        have hC : chAns A (⟨3, 0, 0, ix, ⟨t, cl, sq, op, k, v, o⟩⟩ : Rec) = .tuple #[.nilIface, .iface 124 (.agg #[sentR A, .int .i64 0])] := by unfold chAns; rw [hR]; rfl
        rw [hC]
        clear hC hR
        have hB0 : Hid (Below w.heap.size w (w.alloc (.cells #[.int .i64 3, .int .i64 0, .int .i64 0, .int .i64 ix, .int .i64 t, .int .i64 cl, .int .i64 sq, .int .i64 op, .string k, .string v, .string o] 94))) := (Below.refl _ _).alloc (Nat.le_refl _) _
        have m1 := fun x w => meth_cut_record x w
        have m2 := fun x w => meth_cut_fits x w
        go_enter Tryd.func82, Tryd.ntmps82
        go_wp2
        first | (go_region_with (go_at_call 93; refine (cutRecord_any ix _).mono ?_; rintro x w1 ⟨rfl, hb1⟩; have hz1 : w.heap.size < w1.heap.size := (by have := hb1.size; simp at this; omega); have k0 : w1.cell? ⟨w.heap.size, 0, none⟩ = some (.int .i64 3) := ((bcell hb1).1 w.heap.size 0 (by simp)).trans (by simp [go_sem]); have k1 : w1.cell? ⟨w.heap.size, 1, none⟩ = some (.int .i64 0) := ((bcell hb1).1 w.heap.size 1 (by simp)).trans (by simp [go_sem]); have k2 : w1.cell? ⟨w.heap.size, 2, none⟩ = some (.int .i64 0) := ((bcell hb1).1 w.heap.size 2 (by simp)).trans (by simp [go_sem]); have k3 : w1.cell? ⟨w.heap.size, 3, none⟩ = some (.int .i64 ix) := ((bcell hb1).1 w.heap.size 3 (by simp)).trans (by simp [go_sem]); have k4 : w1.cell? ⟨w.heap.size, 4, none⟩ = some (.int .i64 t) := ((bcell hb1).1 w.heap.size 4 (by simp)).trans (by simp [go_sem]); have k5 : w1.cell? ⟨w.heap.size, 5, none⟩ = some (.int .i64 cl) := ((bcell hb1).1 w.heap.size 5 (by simp)).trans (by simp [go_sem]); have k6 : w1.cell? ⟨w.heap.size, 6, none⟩ = some (.int .i64 sq) := ((bcell hb1).1 w.heap.size 6 (by simp)).trans (by simp [go_sem]); have k7 : w1.cell? ⟨w.heap.size, 7, none⟩ = some (.int .i64 op) := ((bcell hb1).1 w.heap.size 7 (by simp)).trans (by simp [go_sem]); have k8 : w1.cell? ⟨w.heap.size, 8, none⟩ = some (.string k) := ((bcell hb1).1 w.heap.size 8 (by simp)).trans (by simp [go_sem]); have k9 : w1.cell? ⟨w.heap.size, 9, none⟩ = some (.string v) := ((bcell hb1).1 w.heap.size 9 (by simp)).trans (by simp [go_sem]); have k10 : w1.cell? ⟨w.heap.size, 10, none⟩ = some (.string o) := ((bcell hb1).1 w.heap.size 10 (by simp)).trans (by simp [go_sem]); have hG1 : w1.cell? ⟨0, 0, none⟩ = some (sentR A) := ((bcell hb1).1 _ 0 (by simp <;> omega)).trans (((bcell ((Below.refl w.heap.size w).alloc (Nat.le_refl _) (.cells #[.int .i64 3, .int .i64 0, .int .i64 0, .int .i64 ix, .int .i64 t, .int .i64 cl, .int .i64 sq, .int .i64 op, .string k, .string v, .string o] 94))).1 _ 0 hgl).trans hG))) | fail
        all_goals go_wp2
        all_goals go_quiet (fail)
        all_goals go_wp2
        all_goals go_ret2
        all_goals exact ⟨rfl, ch_below (ch_trans hB0.out hb1 (by simp))⟩
    · have b_vo : (vo == 0) = false := by simpa using hvo
      have d_vo : ((0 : Int) == vo) = false := by simpa using (fun e : (0 : Int) = vo => hvo e.symm)
      have hR : recB (⟨3, 0, vo, ix, ⟨t, cl, sq, op, k, v, o⟩⟩ : Rec) = false := by simp [recB, hvo]
      have hC : chAns A (⟨3, 0, vo, ix, ⟨t, cl, sq, op, k, v, o⟩⟩ : Rec) = .tuple #[.nilIface, .iface 124 (.agg #[sentR A, .int .i64 0])] := by unfold chAns; rw [hR]; rfl
      rw [hC]
      clear hC hR
      have hB0 : Hid (Below w.heap.size w (w.alloc (.cells #[.int .i64 3, .int .i64 0, .int .i64 vo, .int .i64 ix, .int .i64 t, .int .i64 cl, .int .i64 sq, .int .i64 op, .string k, .string v, .string o] 94))) := (Below.refl _ _).alloc (Nat.le_refl _) _
      have m1 := fun x w => meth_cut_record x w
      have m2 := fun x w => meth_cut_fits x w
      go_enter Tryd.func82, Tryd.ntmps82
      go_wp2
      first | (go_region_with (go_at_call 93; refine (cutRecord_any ix _).mono ?_; rintro x w1 ⟨rfl, hb1⟩; have hz1 : w.heap.size < w1.heap.size := (by have := hb1.size; simp at this; omega); have k0 : w1.cell? ⟨w.heap.size, 0, none⟩ = some (.int .i64 3) := ((bcell hb1).1 w.heap.size 0 (by simp)).trans (by simp [go_sem]); have k1 : w1.cell? ⟨w.heap.size, 1, none⟩ = some (.int .i64 0) := ((bcell hb1).1 w.heap.size 1 (by simp)).trans (by simp [go_sem]); have k2 : w1.cell? ⟨w.heap.size, 2, none⟩ = some (.int .i64 vo) := ((bcell hb1).1 w.heap.size 2 (by simp)).trans (by simp [go_sem]); have k3 : w1.cell? ⟨w.heap.size, 3, none⟩ = some (.int .i64 ix) := ((bcell hb1).1 w.heap.size 3 (by simp)).trans (by simp [go_sem]); have k4 : w1.cell? ⟨w.heap.size, 4, none⟩ = some (.int .i64 t) := ((bcell hb1).1 w.heap.size 4 (by simp)).trans (by simp [go_sem]); have k5 : w1.cell? ⟨w.heap.size, 5, none⟩ = some (.int .i64 cl) := ((bcell hb1).1 w.heap.size 5 (by simp)).trans (by simp [go_sem]); have k6 : w1.cell? ⟨w.heap.size, 6, none⟩ = some (.int .i64 sq) := ((bcell hb1).1 w.heap.size 6 (by simp)).trans (by simp [go_sem]); have k7 : w1.cell? ⟨w.heap.size, 7, none⟩ = some (.int .i64 op) := ((bcell hb1).1 w.heap.size 7 (by simp)).trans (by simp [go_sem]); have k8 : w1.cell? ⟨w.heap.size, 8, none⟩ = some (.string k) := ((bcell hb1).1 w.heap.size 8 (by simp)).trans (by simp [go_sem]); have k9 : w1.cell? ⟨w.heap.size, 9, none⟩ = some (.string v) := ((bcell hb1).1 w.heap.size 9 (by simp)).trans (by simp [go_sem]); have k10 : w1.cell? ⟨w.heap.size, 10, none⟩ = some (.string o) := ((bcell hb1).1 w.heap.size 10 (by simp)).trans (by simp [go_sem]); have hG1 : w1.cell? ⟨0, 0, none⟩ = some (sentR A) := ((bcell hb1).1 _ 0 (by simp <;> omega)).trans (((bcell ((Below.refl w.heap.size w).alloc (Nat.le_refl _) (.cells #[.int .i64 3, .int .i64 0, .int .i64 vo, .int .i64 ix, .int .i64 t, .int .i64 cl, .int .i64 sq, .int .i64 op, .string k, .string v, .string o] 94))).1 _ 0 hgl).trans hG))) | fail
      all_goals go_wp2
      all_goals go_quiet (fail)
      all_goals go_wp2
      all_goals go_ret2
      all_goals exact ⟨rfl, ch_below (ch_trans hB0.out hb1 (by simp))⟩
  · have b_tm : (tm == 0) = false := by simpa using htm
    have d_tm : ((0 : Int) == tm) = false := by simpa using (fun e : (0 : Int) = tm => htm e.symm)
    have hR : recB (⟨3, tm, vo, ix, ⟨t, cl, sq, op, k, v, o⟩⟩ : Rec) = false := by simp [recB, htm]
    have hC : chAns A (⟨3, tm, vo, ix, ⟨t, cl, sq, op, k, v, o⟩⟩ : Rec) = .tuple #[.nilIface, .iface 124 (.agg #[sentR A, .int .i64 0])] := by unfold chAns; rw [hR]; rfl
    rw [hC]
    clear hC hR
    have hB0 : Hid (Below w.heap.size w (w.alloc (.cells #[.int .i64 3, .int .i64 tm, .int .i64 vo, .int .i64 ix, .int .i64 t, .int .i64 cl, .int .i64 sq, .int .i64 op, .string k, .string v, .string o] 94))) := (Below.refl _ _).alloc (Nat.le_refl _) _
    have m1 := fun x w => meth_cut_record x w
    have m2 := fun x w => meth_cut_fits x w
    go_enter Tryd.func82, Tryd.ntmps82
    go_wp2
    first | (go_region_with (go_at_call 93; refine (cutRecord_any ix _).mono ?_; rintro x w1 ⟨rfl, hb1⟩; have hz1 : w.heap.size < w1.heap.size := (by have := hb1.size; simp at this; omega); have k0 : w1.cell? ⟨w.heap.size, 0, none⟩ = some (.int .i64 3) := ((bcell hb1).1 w.heap.size 0 (by simp)).trans (by simp [go_sem]); have k1 : w1.cell? ⟨w.heap.size, 1, none⟩ = some (.int .i64 tm) := ((bcell hb1).1 w.heap.size 1 (by simp)).trans (by simp [go_sem]); have k2 : w1.cell? ⟨w.heap.size, 2, none⟩ = some (.int .i64 vo) := ((bcell hb1).1 w.heap.size 2 (by simp)).trans (by simp [go_sem]); have k3 : w1.cell? ⟨w.heap.size, 3, none⟩ = some (.int .i64 ix) := ((bcell hb1).1 w.heap.size 3 (by simp)).trans (by simp [go_sem]); have k4 : w1.cell? ⟨w.heap.size, 4, none⟩ = some (.int .i64 t) := ((bcell hb1).1 w.heap.size 4 (by simp)).trans (by simp [go_sem]); have k5 : w1.cell? ⟨w.heap.size, 5, none⟩ = some (.int .i64 cl) := ((bcell hb1).1 w.heap.size 5 (by simp)).trans (by simp [go_sem]); have k6 : w1.cell? ⟨w.heap.size, 6, none⟩ = some (.int .i64 sq) := ((bcell hb1).1 w.heap.size 6 (by simp)).trans (by simp [go_sem]); have k7 : w1.cell? ⟨w.heap.size, 7, none⟩ = some (.int .i64 op) := ((bcell hb1).1 w.heap.size 7 (by simp)).trans (by simp [go_sem]); have k8 : w1.cell? ⟨w.heap.size, 8, none⟩ = some (.string k) := ((bcell hb1).1 w.heap.size 8 (by simp)).trans (by simp [go_sem]); have k9 : w1.cell? ⟨w.heap.size, 9, none⟩ = some (.string v) := ((bcell hb1).1 w.heap.size 9 (by simp)).trans (by simp [go_sem]); have k10 : w1.cell? ⟨w.heap.size, 10, none⟩ = some (.string o) := ((bcell hb1).1 w.heap.size 10 (by simp)).trans (by simp [go_sem]); have hG1 : w1.cell? ⟨0, 0, none⟩ = some (sentR A) := ((bcell hb1).1 _ 0 (by simp <;> omega)).trans (((bcell ((Below.refl w.heap.size w).alloc (Nat.le_refl _) (.cells #[.int .i64 3, .int .i64 tm, .int .i64 vo, .int .i64 ix, .int .i64 t, .int .i64 cl, .int .i64 sq, .int .i64 op, .string k, .string v, .string o] 94))).1 _ 0 hgl).trans hG))) | fail
    all_goals go_wp2
    all_goals go_quiet (fail)
    all_goals go_wp2
    all_goals go_ret2
    all_goals exact ⟨rfl, ch_below (ch_trans hB0.out hb1 (by simp))⟩
end Go.Proofs.YtjoflnnomebkpaaDoor

/-
  impl.framesOf.
-/
namespace Go.Proofs.YtjoflnnomebkpaaDoor
open Go.RowKit
set_option linter.unusedVariables false

theorem wpl_store_new' {w : World} {ops : Array Oper} {rest : List Oper} {o : Oper} {a : Act} {Q : Exit → Act → World → Prop} (hgd : o.guard = none) (ty : TypeId) (x y : Operand) (ho : o.op = .store ty x y)
    (c c' : Array Value) (hx : a.eval x = .pointer (some ⟨w.heap.size, 0, none⟩)) (hy : a.eval y = .agg c') (hi : (Tryd.prog.info? ty).map (·.size) = some c'.size) (hc : c.size = c'.size) (h1 : c'.all (·.oneCell') = true)
    (h : wpList Tryd.prog ops Q rest (a.put o.dst undef) (w.alloc (.cells c' ty))) : wpList Tryd.prog ops Q (o :: rest) a (w.alloc (.cells c ty)) :=
  wpList_plain hgd fun K hK => by
    unfold Oper.wp execOp
    simp only [ho, hx, hy, Sem.run_bind, Sem.run_pure, Result.andThen_ok, run_storeAt_new w ty c c' hi hc h1]
    exact hK _ _ h

theorem changeOf_other (ki tm vo ix t cl sq op : Int) (k v o : ByteArray) (h1 : ki ≠ 1) (h2 : ki ≠ 2) (h3 : ki ≠ 3) (A : Addr) (w : World) (hG : w.cell? ⟨0, 0, none⟩ = some (sentR A)) :
    Calls Tryd.prog 82 #[.agg #[.int .i64 ki, .int .i64 tm, .int .i64 vo, .int .i64 ix, .int .i64 t, .int .i64 cl, .int .i64 sq, .int .i64 op, .string k, .string v, .string o]] w fun x w' => x = .returned (chAns A ⟨ki, tm, vo, ix, ⟨t, cl, sq, op, k, v, o⟩⟩) ∧ Below w.heap.size w w' := by
  have hgl := cell_lt hG
  have hR : recB ⟨ki, tm, vo, ix, ⟨t, cl, sq, op, k, v, o⟩⟩ = false := by
    have b3 : (ki == 3) = false := by simpa using h3
    unfold recB
    simp only [h1, h2, if_false, b3, Bool.false_and]
    split <;> rfl
  have hC : chAns A ⟨ki, tm, vo, ix, ⟨t, cl, sq, op, k, v, o⟩⟩ = .tuple #[.nilIface, .iface 124 (.agg #[sentR A, .int .i64 0])] := by unfold chAns; rw [hR]; rfl
  rw [hC]
  have b1 : (ki == 1) = false := by simpa using h1
  have b2 : (ki == 2) = false := by simpa using h2
  have b3 : (ki == 3) = false := by simpa using h3
  clear hC hR
  have hG1 := ((bcell ((Below.refl w.heap.size w).alloc (Nat.le_refl _) (.cells #[.int .i64 ki, .int .i64 tm, .int .i64 vo, .int .i64 ix, .int .i64 t, .int .i64 cl, .int .i64 sq, .int .i64 op, .string k, .string v, .string o] 94))).1 _ 0 hgl).trans hG
  go_enter Tryd.func82, Tryd.ntmps82
  go_wp2
  go_quiet (fail)
  go_wp2
  go_ret2
  exact ⟨rfl, ch_below ((Below.refl _ _).alloc (Nat.le_refl _) _)⟩

theorem changeOf_any (r : Rec) (hf : r.e.fits) (A : Addr) (w : World) (hG : w.cell? ⟨0, 0, none⟩ = some (sentR A)) :
    Calls Tryd.prog 82 #[.agg r.cells.toArray] w fun x w' => x = .returned (chAns A r) ∧ Below w.heap.size w w' := by
  obtain ⟨ki, tm, vo, ix, ⟨t, cl, sq, op, k, v, o⟩⟩ := r
  by_cases h1 : ki = 1
  · subst h1; exact changeOf_hard tm vo ix t cl sq op k v o hf A w hG
  · by_cases h2 : ki = 2
    · subst h2; exact changeOf_add tm vo ix t cl sq op k v o hf A w hG
    · by_cases h3 : ki = 3
      · subst h3; exact changeOf_cut tm vo ix t cl sq op k v o hf A w hG
      · exact changeOf_other ki tm vo ix t cl sq op k v o h1 h2 h3 A w hG

/-- the encoder of a change that was made of a well-formed record -/
theorem encode_of (r : Rec) (h : recB r = true) : (∃ x, chV r = .iface 97 x ∧ ∀ w, Calls Tryd.prog 158 #[x, .slice none 0 0] w fun e w' => ∃ v', e = .returned v' ∧ Own w' w.heap.size v' (recL r) ∧ Below w.heap.size w w') ∨
    (∃ x, chV r = .iface 138 x ∧ ∀ w, Calls Tryd.prog 167 #[x, .slice none 0 0] w fun e w' => ∃ v', e = .returned v' ∧ Own w' w.heap.size v' (recL r) ∧ Below w.heap.size w w') ∨
    (∃ x, chV r = .iface 136 x ∧ ∀ w, Calls Tryd.prog 164 #[x, .slice none 0 0] w fun e w' => ∃ v', e = .returned v' ∧ Own w' w.heap.size v' (recL r) ∧ Below w.heap.size w w') := by
  rcases recB_kinds h with ⟨k1, h1, h2, h3, h4, h5, h6, h7⟩ | ⟨k2, h1, h2, h3, h4, h5⟩ | ⟨k3, h1, h2, h3, h4, h5⟩
  · obtain ⟨ki, tm, vo, ix, e⟩ := r
    simp only at k1 h1 h2 h3 h4 h5 h6
    subst k1 h1 h2
    obtain ⟨tm, rfl⟩ := Int.eq_ofNat_of_zero_le h3
    obtain ⟨vo, rfl⟩ := Int.eq_ofNat_of_zero_le h5
    exact .inl ⟨_, rfl, fun w => hardEncode_any tm vo (by omega) (by omega) w⟩
  · obtain ⟨ki, tm, vo, ix, e⟩ := r
    simp only at k2 h1 h2 h3 h4 h5
    subst k2 h1 h2
    obtain ⟨ix, rfl⟩ := Int.eq_ofNat_of_zero_le (show 0 ≤ ix by omega)
    obtain ⟨t, cl, sq, op, k, vl, o, rfl, a1, a2, a3, a4, a5, a6, a7, _⟩ := entB_nat h5
    exact .inr (.inl ⟨_, rfl, fun w => addEncode_any ix t cl sq op k vl o (by omega) a1 a2 a3 a4 a5 a6 a7 w⟩)
  · obtain ⟨ki, tm, vo, ix, e⟩ := r
    simp only at k3 h1 h2 h3 h4 h5
    subst k3 h1 h2 h3
    obtain ⟨ix, rfl⟩ := Int.eq_ofNat_of_zero_le h4
    exact .inr (.inr ⟨_, rfl, fun w => cutEncode_any ix (by omega) w⟩)


theorem recsB_no {l : List Rec} {k : Nat} (h : k < l.length) (hk : recB l[k] = false) : recsB l = false := by
  rw [recsB, all_take_false h hk, Bool.and_false]

set_option maxHeartbeats 8000000 in
set_option maxRecDepth 100000 in
theorem framesOf_any (v : Value) (l : List Rec) (w : World) (hv : Sl Rec.cells 11 w v l) (hf : ∀ r ∈ l, r.e.fits) (A : Addr) (hG : w.cell? ⟨0, 0, none⟩ = some (sentR A)) :
    Calls Tryd.prog 48 #[v] w fun x w' =>
      ((recsB l = true ∧ ∃ v', x = .returned (.tuple #[v', .nilIface]) ∧ Own w' w.heap.size v' (framesL l)) ∨ (recsB l = false ∧ x = .returned (.tuple #[.slice none 0 0, .iface 124 (.agg #[sentR A, .int .i64 0])]))) ∧ Below w.heap.size w w' := by
  have hgl := cell_lt hG
  obtain ⟨hl, a, cap, rfl, hc⟩ := hv
  unfold maxLen at hl
  by_cases h8 : (8192 : Int) < l.length
  · have e : recsB l = false := by simp [recsB]; omega
    have HE : Hid (recsB l = false) := e
    clear hc e
    go_enter Tryd.func48, Tryd.ntmps48
    go_wp2
    go_quiet (fail)
    go_wp2
    go_ret2
    exact ⟨.inr ⟨HE.out, rfl⟩, ch_below (Below.refl _ _)⟩
  · have h8' : l.length ≤ 8192 := by omega
    go_enter Tryd.func48, Tryd.ntmps48
    go_wp2
    go_loopw [4, 17] (fun o i wr => ∃ k : Nat, k ≤ l.length ∧ i = .int .i64 k ∧ (∀ r ∈ l.take k, recB r = true) ∧ Own wr w.heap.size o (framesL (l.take k)) ∧ Below w.heap.size w wr) (fun _ i _ => l.length - (intOf i).toNat)
    case atStart => exact ⟨0, Nat.zero_le _, rfl, by simp, Own.nil _ _, Below.refl _ _⟩
    case round =>
      obtain ⟨k, hk, rfl, hal, ho, hB⟩ := hrel
      have HA : Hid (∀ r ∈ l.take k, recB r = true) := hal
      clear hal
      have hz := hB.size
      by_cases hlt : k < l.length
      · obtain ⟨b, off, rfl, hj⟩ := hc k hlt
        have hra := range_below (hj k hlt) hB
        have hfk := hf l[k] (List.getElem_mem hlt)
        have hnew := range_new' wr l[k].cells 94
        have hGr : (wr.alloc (.cells l[k].cells.toArray 94)).cell? ⟨0, 0, none⟩ = some (sentR A) := ((bcell ((Below.refl wr.heap.size wr).alloc (Nat.le_refl _) (.cells l[k].cells.toArray 94))).1 _ 0 (by omega)).trans ((hB.cell (p := ⟨0, 0, none⟩) hgl).trans hG)
        clear hc hj
        cases hrk : recB l[k]
        · have HN : Hid (recsB l = false) := recsB_no hlt hrk
          have hca : chAns A l[k] = .tuple #[.nilIface, .iface 124 (.agg #[sentR A, .int .i64 0])] := by unfold chAns; rw [hrk]; rfl
          go_wp2_with (first
          | (refine gate_load' 94 (.tmp 19) rfl ?_; refine wpList_load_mid rfl 94 (.tmp 19) rfl b (off + k * 11) rfl l[k].cells _ hra Tryd.underlying94 rfl sizeRec ?_)
          | (refine gate_store' 94 (.tmp 6) (.tmp 20) rfl ?_; refine wpl_store_new' rfl 94 (.tmp 6) (.tmp 20) rfl #[.int .i64 0, .int .i64 0, .int .i64 0, .int .i64 0, .int .i64 0, .int .i64 0, .int .i64 0, .int .i64 0, .string ⟨#[]⟩, .string ⟨#[]⟩, .string ⟨#[]⟩] l[k].cells.toArray rfl rfl sizeRec rfl (by simp [Rec.cells, Value.oneCell']) ?_)
          | (refine gate_load' 94 (.tmp 6) rfl ?_; refine wpList_load_mid rfl 94 (.tmp 6) rfl wr.heap.size 0 rfl l[k].cells _ hnew Tryd.underlying94 rfl sizeRec ?_)
          | (go_at_call 82; refine (changeOf_any l[k] hfk A _ hGr).mono ?_; rintro x w1 ⟨rfl, hb1⟩; rw [hca]; have hz1 : wr.heap.size < w1.heap.size := (by have := hb1.size; simp at this; omega); have hB1 : Below w.heap.size w w1 := (hB.alloc hz _).trans (hb1.mono (by simp; omega))))
          go_ret2
          exact ⟨.inr ⟨HN.out, rfl⟩, hB1⟩
        · obtain ⟨p1, p2, p3⟩ := recL_len hrk
          have q1 : 0 < (frameL (recL l[k])).length := by simp [frameL, wordL]
          have hfl : (framesL (l.take k)).length ≤ 408 * 8192 := by
            have h := framesL_len (l := l.take k) (by rw [List.all_eq_true]; exact HA.out)
            have h2 : (l.take k).length ≤ 8192 := by rw [List.length_take]; omega
            omega
          have HT : Hid (framesL (l.take (k + 1)) = framesL (l.take k) ++ frameL (recL l[k])) := framesL_take l k hlt
          have HA' : Hid (∀ r ∈ l.take (k + 1), recB r = true) := by
            intro r hr
            rw [List.take_succ_eq_append_getElem hlt, List.mem_append] at hr
            rcases hr with hr | hr
            · exact HA.out r hr
            · rw [List.mem_singleton] at hr; rw [hr]; exact hrk
          rcases encode_of l[k] hrk with ⟨x, hch, hcc⟩ | ⟨x, hch, hcc⟩ | ⟨x, hch, hcc⟩
          · have HCC : Hid (∀ w, Calls Tryd.prog 158 #[x, .slice none 0 0] w fun e w' => ∃ v', e = .returned v' ∧ Own w' w.heap.size v' (recL l[k]) ∧ Below w.heap.size w w') := hcc
            have hm := fun w => meth_hard_encode x w
            have hca : chAns A l[k] = .tuple #[.iface 97 x, .nilIface] := by unfold chAns; rw [hrk, if_pos rfl, hch]
            clear hcc hch
            go_wp2_with (first
            | (refine gate_load' 94 (.tmp 19) rfl ?_; refine wpList_load_mid rfl 94 (.tmp 19) rfl b (off + k * 11) rfl l[k].cells _ hra Tryd.underlying94 rfl sizeRec ?_)
            | (refine gate_store' 94 (.tmp 6) (.tmp 20) rfl ?_; refine wpl_store_new' rfl 94 (.tmp 6) (.tmp 20) rfl #[.int .i64 0, .int .i64 0, .int .i64 0, .int .i64 0, .int .i64 0, .int .i64 0, .int .i64 0, .int .i64 0, .string ⟨#[]⟩, .string ⟨#[]⟩, .string ⟨#[]⟩] l[k].cells.toArray rfl rfl sizeRec rfl (by simp [Rec.cells, Value.oneCell']) ?_)
            | (refine gate_load' 94 (.tmp 6) rfl ?_; refine wpList_load_mid rfl 94 (.tmp 6) rfl wr.heap.size 0 rfl l[k].cells _ hnew Tryd.underlying94 rfl sizeRec ?_)
            | (go_at_call 82; refine (changeOf_any l[k] hfk A _ hGr).mono ?_; rintro x w1 ⟨rfl, hb1⟩; rw [hca]; have hz1 : wr.heap.size < w1.heap.size := (by have := hb1.size; simp at this; omega); have hB1 : Below w.heap.size w w1 := (hB.alloc hz _).trans (hb1.mono (by simp; omega)))
            | (go_at_call 158; refine Calls.mono (HCC.out _) ?_; rintro e w2 ⟨v2, rfl, ho2, hb2⟩; have hz2 := hb2.size; replace hB1 := hB1.trans (hb2.mono (by omega)))
            | (go_at_call 83; refine (sealFrame_any _ _ _ (ho2.bs (by unfold maxLen; omega)) p1 (by omega)).mono ?_; rintro e w3 ⟨v3, rfl, ho3, hb3⟩; have hz3 := hb3.size; have hoo := ((ho.below ((Below.refl _ _).alloc (Nat.le_refl _) (.cells l[k].cells.toArray 94))).below hb1).below (hb2.trans (hb3.mono hb2.size)); replace hB1 := hB1.trans (hb3.mono (by omega)))
            | (at_builtin; refine wpl_append rfl (.tmp 29) (.tmp 32) rfl hoo rfl (ho3.bs (by unfold maxLen; omega)) rfl q1 (by omega) (by omega) ?_; intro v4 w4 ho4 hg4; replace hB1 := hB1.trans (hg4.below hoo (by omega))))
            go_roundw
            case rel => exact ⟨k + 1, by omega, by go_num, HA'.out, by rw [HT.out]; exact ho4, hB1⟩
            case measure => simp [intOf]; omega
          · have HCC : Hid (∀ w, Calls Tryd.prog 167 #[x, .slice none 0 0] w fun e w' => ∃ v', e = .returned v' ∧ Own w' w.heap.size v' (recL l[k]) ∧ Below w.heap.size w w') := hcc
            have hm := fun w => meth_add_encode x w
            have hca : chAns A l[k] = .tuple #[.iface 138 x, .nilIface] := by unfold chAns; rw [hrk, if_pos rfl, hch]
            clear hcc hch
            go_wp2_with (first
            | (refine gate_load' 94 (.tmp 19) rfl ?_; refine wpList_load_mid rfl 94 (.tmp 19) rfl b (off + k * 11) rfl l[k].cells _ hra Tryd.underlying94 rfl sizeRec ?_)
            | (refine gate_store' 94 (.tmp 6) (.tmp 20) rfl ?_; refine wpl_store_new' rfl 94 (.tmp 6) (.tmp 20) rfl #[.int .i64 0, .int .i64 0, .int .i64 0, .int .i64 0, .int .i64 0, .int .i64 0, .int .i64 0, .int .i64 0, .string ⟨#[]⟩, .string ⟨#[]⟩, .string ⟨#[]⟩] l[k].cells.toArray rfl rfl sizeRec rfl (by simp [Rec.cells, Value.oneCell']) ?_)
            | (refine gate_load' 94 (.tmp 6) rfl ?_; refine wpList_load_mid rfl 94 (.tmp 6) rfl wr.heap.size 0 rfl l[k].cells _ hnew Tryd.underlying94 rfl sizeRec ?_)
            | (go_at_call 82; refine (changeOf_any l[k] hfk A _ hGr).mono ?_; rintro x w1 ⟨rfl, hb1⟩; rw [hca]; have hz1 : wr.heap.size < w1.heap.size := (by have := hb1.size; simp at this; omega); have hB1 : Below w.heap.size w w1 := (hB.alloc hz _).trans (hb1.mono (by simp; omega)))
            | (go_at_call 167; refine Calls.mono (HCC.out _) ?_; rintro e w2 ⟨v2, rfl, ho2, hb2⟩; have hz2 := hb2.size; replace hB1 := hB1.trans (hb2.mono (by omega)))
            | (go_at_call 83; refine (sealFrame_any _ _ _ (ho2.bs (by unfold maxLen; omega)) p1 (by omega)).mono ?_; rintro e w3 ⟨v3, rfl, ho3, hb3⟩; have hz3 := hb3.size; have hoo := ((ho.below ((Below.refl _ _).alloc (Nat.le_refl _) (.cells l[k].cells.toArray 94))).below hb1).below (hb2.trans (hb3.mono hb2.size)); replace hB1 := hB1.trans (hb3.mono (by omega)))
            | (at_builtin; refine wpl_append rfl (.tmp 29) (.tmp 32) rfl hoo rfl (ho3.bs (by unfold maxLen; omega)) rfl q1 (by omega) (by omega) ?_; intro v4 w4 ho4 hg4; replace hB1 := hB1.trans (hg4.below hoo (by omega))))
            go_roundw
            case rel => exact ⟨k + 1, by omega, by go_num, HA'.out, by rw [HT.out]; exact ho4, hB1⟩
            case measure => simp [intOf]; omega
          · have HCC : Hid (∀ w, Calls Tryd.prog 164 #[x, .slice none 0 0] w fun e w' => ∃ v', e = .returned v' ∧ Own w' w.heap.size v' (recL l[k]) ∧ Below w.heap.size w w') := hcc
            have hm := fun w => meth_cut_encode x w
            have hca : chAns A l[k] = .tuple #[.iface 136 x, .nilIface] := by unfold chAns; rw [hrk, if_pos rfl, hch]
            clear hcc hch
            go_wp2_with (first
            | (refine gate_load' 94 (.tmp 19) rfl ?_; refine wpList_load_mid rfl 94 (.tmp 19) rfl b (off + k * 11) rfl l[k].cells _ hra Tryd.underlying94 rfl sizeRec ?_)
            | (refine gate_store' 94 (.tmp 6) (.tmp 20) rfl ?_; refine wpl_store_new' rfl 94 (.tmp 6) (.tmp 20) rfl #[.int .i64 0, .int .i64 0, .int .i64 0, .int .i64 0, .int .i64 0, .int .i64 0, .int .i64 0, .int .i64 0, .string ⟨#[]⟩, .string ⟨#[]⟩, .string ⟨#[]⟩] l[k].cells.toArray rfl rfl sizeRec rfl (by simp [Rec.cells, Value.oneCell']) ?_)
            | (refine gate_load' 94 (.tmp 6) rfl ?_; refine wpList_load_mid rfl 94 (.tmp 6) rfl wr.heap.size 0 rfl l[k].cells _ hnew Tryd.underlying94 rfl sizeRec ?_)
            | (go_at_call 82; refine (changeOf_any l[k] hfk A _ hGr).mono ?_; rintro x w1 ⟨rfl, hb1⟩; rw [hca]; have hz1 : wr.heap.size < w1.heap.size := (by have := hb1.size; simp at this; omega); have hB1 : Below w.heap.size w w1 := (hB.alloc hz _).trans (hb1.mono (by simp; omega)))
            | (go_at_call 164; refine Calls.mono (HCC.out _) ?_; rintro e w2 ⟨v2, rfl, ho2, hb2⟩; have hz2 := hb2.size; replace hB1 := hB1.trans (hb2.mono (by omega)))
            | (go_at_call 83; refine (sealFrame_any _ _ _ (ho2.bs (by unfold maxLen; omega)) p1 (by omega)).mono ?_; rintro e w3 ⟨v3, rfl, ho3, hb3⟩; have hz3 := hb3.size; have hoo := ((ho.below ((Below.refl _ _).alloc (Nat.le_refl _) (.cells l[k].cells.toArray 94))).below hb1).below (hb2.trans (hb3.mono hb2.size)); replace hB1 := hB1.trans (hb3.mono (by omega)))
            | (at_builtin; refine wpl_append rfl (.tmp 29) (.tmp 32) rfl hoo rfl (ho3.bs (by unfold maxLen; omega)) rfl q1 (by omega) (by omega) ?_; intro v4 w4 ho4 hg4; replace hB1 := hB1.trans (hg4.below hoo (by omega))))
            go_roundw
            case rel => exact ⟨k + 1, by omega, by go_num, HA'.out, by rw [HT.out]; exact ho4, hB1⟩
            case measure => simp [intOf]; omega
      · have e : l.take k = l := List.take_of_length_le (by omega)
        rw [e] at ho HA
        have HR : Hid (recsB l = true) := by
          show _ = _
          simp only [recsB, Bool.and_eq_true, decide_eq_true_eq, List.all_eq_true]
          exact ⟨h8', HA.out⟩
        go_wp2
        go_ret2
        exact ⟨.inl ⟨HR.out, _, rfl, ho⟩, hB⟩

end Go.Proofs.YtjoflnnomebkpaaDoor

/-
  impl.writeDisk.
-/
namespace Go.Proofs.YtjoflnnomebkpaaDoor
open Go.RowKit
set_option linter.unusedVariables false
set_option linter.unusedSimpArgs false

theorem framesOf_no (v : Value) (l : List Rec) (w : World) (hv : Sl Rec.cells 11 w v l) (hf : ∀ r ∈ l, r.e.fits) (A : Addr) (hG : w.cell? ⟨0, 0, none⟩ = some (sentR A)) (hR : recsB l = false) :
    Calls Tryd.prog 48 #[v] w fun x w' => x = .returned (.tuple #[.slice none 0 0, .iface 124 (.agg #[sentR A, .int .i64 0])]) ∧ Below w.heap.size w w' :=
  (framesOf_any v l w hv hf A hG).mono fun x w' h => by
    rcases h with ⟨⟨h1, _⟩ | ⟨_, h2⟩, h3⟩
    · rw [hR] at h1; cases h1
    · exact ⟨h2, h3⟩
theorem framesOf_yes (v : Value) (l : List Rec) (w : World) (hv : Sl Rec.cells 11 w v l) (hf : ∀ r ∈ l, r.e.fits) (A : Addr) (hG : w.cell? ⟨0, 0, none⟩ = some (sentR A)) (hR : recsB l = true) :
    Calls Tryd.prog 48 #[v] w fun x w' => (∃ a' cap', x = .returned (.tuple #[.slice a' (framesL l).length cap', .nilIface]) ∧ Own w' w.heap.size (.slice a' (framesL l).length cap') (framesL l)) ∧ Below w.heap.size w w' :=
  (framesOf_any v l w hv hf A hG).mono fun x w' h => by
    rcases h with ⟨⟨_, v1, h1, ho⟩ | ⟨h2, _⟩, h3⟩
    · obtain ⟨a', cap', rfl⟩ := ho.shape
      exact ⟨⟨_, _, h1, ho⟩, h3⟩
    · rw [hR] at h2; cases h2

theorem writeDisk_bad (p : Nat) (v : Value) (rs : List Rec) (w : World) (hv : Sl Rec.cells 11 w v rs) (hf : ∀ r ∈ rs, r.e.fits) (A : Addr) (hG : w.cell? ⟨0, 0, none⟩ = some (sentR A)) (hR : recsB rs = false) :
    Calls Tryd.prog 51 #[.pointer (some ⟨p, 0, none⟩), v] w fun x w' => x = .returned (.iface 124 (.agg #[sentR A, .int .i64 0])) ∧ Below w.heap.size w w' := by
  have HF : Hid (Calls Tryd.prog 48 #[v] w fun x w' => x = .returned (.tuple #[.slice none 0 0, .iface 124 (.agg #[sentR A, .int .i64 0])]) ∧ Below w.heap.size w w') := framesOf_no v rs w hv hf A hG hR
  go_enter Tryd.func51, Tryd.ntmps51
  go_wp2_with (go_at_call 48; refine Calls.mono HF.out ?_; rintro x w1 ⟨rfl, hb⟩)
  go_ret
  exact ⟨rfl, hb⟩

set_option maxHeartbeats 4000000 in
set_option maxRecDepth 100000 in
theorem writeDisk_full (p : Nat) (c y : Int) (a : Option Addr) (n cap : Nat) (v : Value) (rs : List Rec) (w : World) (hp0 : w.cell? ⟨p, 0, none⟩ = some (.int .i64 c)) (hp2 : w.cell? ⟨p, 2, none⟩ = some (.slice a n cap)) (hn : n ≤ 1048576)
    (hv : Sl Rec.cells 11 w v rs) (hf : ∀ r ∈ rs, r.e.fits) (A A2 : Addr) (hG : w.cell? ⟨0, 0, none⟩ = some (sentR A)) (hG2 : w.cell? ⟨1, 0, none⟩ = some (sentR A2)) (hR : recsB rs = true) (hx : c < (n : Int) + ((framesL rs).length : Int)) :
    Calls Tryd.prog 51 #[.pointer (some ⟨p, 0, none⟩), v] w fun x w' => x = .returned (.iface 124 (.agg #[sentR A2, .int .i64 0])) ∧ Below w.heap.size w w' := by
  have HF : Hid (Calls Tryd.prog 48 #[v] w fun x w' => (∃ a' cap', x = .returned (.tuple #[.slice a' (framesL rs).length cap', .nilIface]) ∧ Own w' w.heap.size (.slice a' (framesL rs).length cap') (framesL rs)) ∧ Below w.heap.size w w') := framesOf_yes v rs w hv hf A hG hR
  have hfl : (framesL rs).length ≤ 3400000 := by have h := encRecs_len rs; rwa [show encRecs rs = framesL rs by simp [encRecs, hR]] at h
  have hwr : IntKind.i64.wrap ((n : Int) + ((framesL rs).length : Int)) = (n : Int) + ((framesL rs).length : Int) := by simp [IntKind.wrap, IntKind.signed, IntKind.bits]; omega
  go_enter Tryd.func51, Tryd.ntmps51
  go_wp2_with (go_at_call 48; refine Calls.mono HF.out ?_; rintro x w1 ⟨⟨a1, cap1, rfl, ho⟩, hb⟩; have k0 : w1.cell? ⟨p, 0, none⟩ = some (.int .i64 c) := ((bcell hb).1 p 0 (cell_lt hp0)).trans hp0; have k2 : w1.cell? ⟨p, 2, none⟩ = some (.slice a n cap) := ((bcell hb).1 p 2 (cell_lt hp2)).trans hp2; have kg : w1.cell? ⟨1, 0, none⟩ = some (sentR A2) := ((bcell hb).1 _ 0 (cell_lt hG2)).trans hG2)
  go_quiet (fail)
  go_wp2
  go_ret
  exact ⟨rfl, ch_below hb⟩

set_option maxHeartbeats 4000000 in
set_option maxRecDepth 100000 in
theorem writeDisk_ok (p : Nat) (c y : Int) (a : Option Addr) (cap : Nat) (l : List Int) (B : Nat) (v : Value) (rs : List Rec) (w : World) (hp0 : w.cell? ⟨p, 0, none⟩ = some (.int .i64 c)) (hp2 : w.cell? ⟨p, 2, none⟩ = some (.slice a l.length cap)) (hpf : w.frozen? ⟨p, 2, none⟩ = false)
    (ho : Own w B (.slice a l.length cap) l) (hB : B ≤ w.heap.size) (hne : (Value.slice a l.length cap).ownBlock ≠ some p) (hn : l.length ≤ 1048576)
    (hv : Sl Rec.cells 11 w v rs) (hf : ∀ r ∈ rs, r.e.fits) (A : Addr) (hG : w.cell? ⟨0, 0, none⟩ = some (sentR A)) (hR : recsB rs = true) (hx : ¬ c < (l.length : Int) + ((framesL rs).length : Int)) :
    Calls Tryd.prog 51 #[.pointer (some ⟨p, 0, none⟩), v] w fun x w' => x = .returned .nilIface ∧
      ∃ a' cap' w5, w' = w5.setCell ⟨p, 2, none⟩ (.slice a' (l.length + (framesL rs).length) cap') ∧ Own w5 B (.slice a' (l.length + (framesL rs).length) cap') (l ++ framesL rs) ∧ (Value.slice a' (l.length + (framesL rs).length) cap').ownBlock ≠ some p ∧ (∀ k, k < w.heap.size → (Value.slice a l.length cap).ownBlock ≠ some k → w5.heap[k]? = w.heap[k]?) ∧ Below B w w5 := by
  have HF : Hid (Calls Tryd.prog 48 #[v] w fun x w' => (∃ a' cap', x = .returned (.tuple #[.slice a' (framesL rs).length cap', .nilIface]) ∧ Own w' w.heap.size (.slice a' (framesL rs).length cap') (framesL rs)) ∧ Below w.heap.size w w') := framesOf_yes v rs w hv hf A hG hR
  have hfl : (framesL rs).length ≤ 3400000 := by have h := encRecs_len rs; rwa [show encRecs rs = framesL rs by simp [encRecs, hR]] at h
  have hwr : IntKind.i64.wrap ((l.length : Int) + ((framesL rs).length : Int)) = (l.length : Int) + ((framesL rs).length : Int) := by simp [IntKind.wrap, IntKind.signed, IntKind.bits]; omega
  have hlt := cell_lt hp0
  clear hv hf hG
  go_enter Tryd.func51, Tryd.ntmps51
  go_wp2_with (go_at_call 48; refine Calls.mono HF.out ?_; rintro x w1 ⟨⟨a1, cap1, rfl, ho1⟩, hb⟩; have z1 : w.heap.size ≤ w1.heap.size := hb.size; have k0 : w1.cell? ⟨p, 0, none⟩ = some (.int .i64 c) := ((bcell hb).1 p 0 hlt).trans hp0; have k2 : w1.cell? ⟨p, 2, none⟩ = some (.slice a l.length cap) := ((bcell hb).1 p 2 hlt).trans hp2; have kf : w1.frozen? ⟨p, 2, none⟩ = false := ((bcell hb).2 p 2 hlt).trans hpf; have HO := ho.below hb)
  go_quiet (fail)
  go_wp2_with (at_builtin; refine wpl_append_own (w := w1.drewN _) rfl (.tmp 35) (.tmp 36) rfl HO rfl ho1 rfl (by unfold maxLen; omega) (by omega) (show B ≤ w1.heap.size by omega) ?_; intro v5 w5 ho5 hg5; have n5 := hg5.far (k := p) (show p < w1.heap.size by omega) hne; have bl5 : ∀ k, k < w.heap.size → (Value.slice a l.length cap).ownBlock ≠ some k → w5.heap[k]? = w.heap[k]? := (fun k hk hk' => (hg5.block (k := k) (show k < w1.heap.size by omega) hk').trans (hb.block k hk)); have b5 := hg5.below HO (show B ≤ w1.heap.size by omega); obtain ⟨a5, cap5, rfl⟩ := ho5.shape; have j2 : w5.cell? ⟨p, 2, none⟩ = some (.slice a l.length cap) := (hg5.cell (k := p) (o := 2) (show p < w1.heap.size by omega) hne).trans k2; have jf : w5.frozen? ⟨p, 2, none⟩ = false := (frozen_block (hg5.block (k := p) (show p < w1.heap.size by omega) hne)).trans kf)
  go_ret
  rw [List.length_append] at ho5 n5
  exact ⟨rfl, a5, cap5, w5, rfl, ho5, n5, bl5, (ch_trans (Below.refl _ _) (hb.mono (Nat.le_refl _)) hB).trans ⟨b5.os, b5.tape, b5.output, b5.size, b5.block⟩⟩
end Go.Proofs.YtjoflnnomebkpaaDoor

/-
  errors.Is and errors.As at the errors of the wire: nil, and a refusal that wraps a sentinel.
-/
namespace Go.Proofs.YtjoflnnomebkpaaDoor
open Go.RowKit Go.Extern.Stop Go.Stop Go.Extern
set_option linter.unusedVariables false

/-- the value of a sentinel -/
abbrev sentV (a : Addr) : Value := .iface 203 (.pointer (some a))
/-- an error that wraps the sentinel at a, with a fault -/
abbrev refV (a : Addr) (f : Int) : Value := .iface 124 (.agg #[sentV a, .int .i64 f])

theorem isTypeOf (v : Value) (w : World) : (Extern.ReflectliteType.typeOf #[.iface 203 v]).run Tryd.prog w = .ok (.iface 178 (.agg #[.pointer (some ⟨11, 203, none⟩)])) w := by kernel_rfl
def cmpM : Array Value → Sem Value := Extern.ReflectliteType.method fun t => do Rtype.noPackHeld "Comparable" t; pure (.bool (← typeInfo t).comparable)
theorem isComparable (w : World) : (cmpM #[.agg #[.pointer (some ⟨11, 203, none⟩)]]).run Tryd.prog w = .ok (.bool true) w := by kernel_rfl
theorem isMethodComparable (v : Value) (w : World) : (Go.method 344 178 v "Comparable").run Tryd.prog w = .ok (177, v) w := by kernel_rfl
theorem isComp : (Tryd.prog.info? 203).map (·.comparable) = some true := by kernel_rfl
theorem isSize : (Tryd.prog.info? 232).map (·.size) = some 1 := by kernel_rfl
theorem noIsE (v : Value) (xT : TypeId) (w : World) : (Instr.typeAssert (.iface 203 v) xT 180 true).run Tryd.prog w = .ok (.tuple #[.nilIface, .bool false]) w := run_typeAssert_lacksB Tryd.underlying180 (by kernel_rfl) (by kernel_rfl) v xT w
theorem noUnwrapE (v : Value) (xT : TypeId) (w : World) : (Instr.typeAssert (.iface 203 v) xT 183 true).run Tryd.prog w = .ok (.tuple #[.nilIface, .bool false]) w := run_typeAssert_lacksB Tryd.underlying183 (by kernel_rfl) (by kernel_rfl) v xT w
theorem noUnwrapsE (v : Value) (xT : TypeId) (w : World) : (Instr.typeAssert (.iface 203 v) xT 185 true).run Tryd.prog w = .ok (.tuple #[.nilIface, .bool false]) w := run_typeAssert_lacksB Tryd.underlying185 (by kernel_rfl) (by kernel_rfl) v xT w
theorem noIsW (v : Value) (xT : TypeId) (w : World) : (Instr.typeAssert (.iface 124 v) xT 180 true).run Tryd.prog w = .ok (.tuple #[.nilIface, .bool false]) w := run_typeAssert_lacksB Tryd.underlying180 (by kernel_rfl) (by kernel_rfl) v xT w
theorem hasUnwrapW (v : Value) (xT : TypeId) (w : World) : (Instr.typeAssert (.iface 124 v) xT 183 true).run Tryd.prog w = .ok (.tuple #[.iface 124 v, .bool true]) w := run_typeAssert_hasB Tryd.underlying183 (by kernel_rfl) v xT w
theorem methodUnwrap (v : Value) (w : World) : (Go.method 344 124 v "Unwrap").run Tryd.prog w = .ok (162, v) w := by kernel_rfl

theorem refusal_unwrap (a : Addr) (f : Int) (w : World) :
    Calls Tryd.prog 162 #[.agg #[sentV a, .int .i64 f]] w fun e w' => e = .returned (sentV a) ∧ w' = w.alloc (.cells #[sentV a, .int .i64 f] 124) := by
  go_enter Tryd.func162, Tryd.ntmps162
  go_wp2
  go_ret
  exact ⟨rfl, rfl⟩

/-- errors.Is(nil, x). -/
theorem is_nil (b : Addr) (w : World) :
    Calls Tryd.prog 86 #[.nilIface, sentV b] w fun e w' => e = .returned (.bool false) ∧ w' = w := by
  have hn := run_eql_iface_nil_left (P := Tryd.prog) w 203 (.pointer (some b)) Tryd.underlying79
  go_enter Tryd.func86, Tryd.ntmps86
  go_wp2
  go_ret
  exact ⟨rfl, rfl⟩

/-- errors.Is(e, x), e a refusal that wraps x itself: one Unwrap, then equal. -/
theorem is_same (b : Addr) (f : Int) (w : World) :
    Calls Tryd.prog 86 #[refV b f, sentV b] w fun e w' => e = .returned (.bool true) ∧ Below w.heap.size w w' := by
  obtain ⟨i, hi, hcmp⟩ := Option.map_eq_some_iff.1 isComp
  obtain ⟨j, hj, hjs⟩ := Option.map_eq_some_iff.1 isSize
  have h8 := @run_callFunc_extern Tryd.prog 111 _ Extern.ReflectliteType.typeOf Tryd.func111 (by kernel_rfl) (by kernel_rfl) (by kernel_rfl) (by kernel_rfl)
  have h32 := @run_callFunc_extern Tryd.prog 177 _ cmpM Tryd.func177 (by kernel_rfl) (by kernel_rfl) (by kernel_rfl) (by kernel_rfl)
  have tT := isTypeOf
  have cT := isComparable
  have mR := isMethodComparable
  have nW := noIsW
  have uW := hasUnwrapW
  have mU := methodUnwrap
  have heq := run_eql_iface_ptr_same (P := Tryd.prog) (w.alloc (.cells #[sentV b, .int .i64 f] 124)) b Tryd.underlying79 Tryd.underlying203 hi hcmp hj
  have hty := run_eql_iface_types (P := Tryd.prog) 124 203 (.agg #[sentV b, .int .i64 f]) (.pointer (some b)) Tryd.underlying79 (by decide) w
  go_enter Tryd.func86, Tryd.ntmps86
  go_wp2
  refine wp_loop_rounds 2 ?_
  rw [rounds_succ]
  go_wp2
  rw [rounds_succ]
  go_wp2
  go_ret
  exact ⟨rfl, (Below.refl _ _).alloc (Nat.le_refl _) _⟩

/-- errors.Is(e, x), e a refusal that wraps another sentinel. -/
theorem is_other (a b : Addr) (f : Int) (ca cb : Array Value) (ta tb : TypeId) (w : World) (hne : a ≠ b) (ha : w.heap[a.block]? = some (.cells ca ta (0, 0))) (hb : w.heap[b.block]? = some (.cells cb tb (0, 0))) :
    Calls Tryd.prog 86 #[refV a f, sentV b] w fun e w' => e = .returned (.bool false) ∧ Below w.heap.size w w' := by
  obtain ⟨i, hi, hcmp⟩ := Option.map_eq_some_iff.1 isComp
  obtain ⟨j, hj, hjs⟩ := Option.map_eq_some_iff.1 isSize
  have h8 := @run_callFunc_extern Tryd.prog 111 _ Extern.ReflectliteType.typeOf Tryd.func111 (by kernel_rfl) (by kernel_rfl) (by kernel_rfl) (by kernel_rfl)
  have h32 := @run_callFunc_extern Tryd.prog 177 _ cmpM Tryd.func177 (by kernel_rfl) (by kernel_rfl) (by kernel_rfl) (by kernel_rfl)
  have tT := isTypeOf
  have cT := isComparable
  have mR := isMethodComparable
  have nE := noIsE
  have uE := noUnwrapE
  have vE := noUnwrapsE
  have nW := noIsW
  have uW := hasUnwrapW
  have mU := methodUnwrap
  have al : ∀ (k : Nat) (o : Obj), w.heap[k]? = some o → (w.alloc (.cells #[sentV a, .int .i64 f] 124)).heap[k]? = some o := fun k o h => by
    have hlt : k < w.heap.size := by
      rcases Nat.lt_or_ge k w.heap.size with h' | h'
      · exact h'
      · rw [Array.getElem?_eq_none h'] at h; cases h
    show (w.heap.push _)[k]? = _
    rw [Array.getElem?_push, if_neg (Nat.ne_of_lt hlt)]
    exact h
  have heq := run_eql_iface_ptr_other (P := Tryd.prog) (w.alloc (.cells #[sentV a, .int .i64 f] 124)) Tryd.underlying79 Tryd.underlying203 hi hcmp hj (by rw [hjs]; decide) hne (al _ _ ha) (al _ _ hb)
  have hty := run_eql_iface_types (P := Tryd.prog) 124 203 (.agg #[sentV a, .int .i64 f]) (.pointer (some b)) Tryd.underlying79 (by decide) w
  go_enter Tryd.func86, Tryd.ntmps86
  go_wp2
  refine wp_loop_rounds 2 ?_
  rw [rounds_succ]
  go_wp2
  rw [rounds_succ]
  go_wp2
  go_ret
  exact ⟨rfl, (Below.refl _ _).alloc (Nat.le_refl _) _⟩
end Go.Proofs.YtjoflnnomebkpaaDoor

/-
  impl.writeCode.
-/
namespace Go.Proofs.YtjoflnnomebkpaaDoor
open Go.RowKit
set_option linter.unusedVariables false

/-- the two sentinels of a write lie at A and A2 -/
structure Sents2 (w : World) (A A2 : Addr) : Prop where
  g1 : w.cell? ⟨0, 0, none⟩ = some (sentR A)
  g2 : w.cell? ⟨1, 0, none⟩ = some (sentR A2)
  r1 : ∃ c t, w.heap[A.block]? = some (.cells c t (0, 0))
  r2 : ∃ c t, w.heap[A2.block]? = some (.cells c t (0, 0))
  ne : A ≠ A2
theorem Sents2.below {w w' : World} {A A2 : Addr} (h : Sents2 w A A2) (hb : Below w.heap.size w w') : Sents2 w' A A2 := by
  obtain ⟨c, t, e⟩ := h.r1
  obtain ⟨c', t', e'⟩ := h.r2
  exact ⟨((bcell hb).1 _ 0 (cell_lt h.g1)).trans h.g1, ((bcell hb).1 _ 0 (cell_lt h.g2)).trans h.g2, ⟨c, t, (hb.block _ (heap_lt e)).trans e⟩, ⟨c', t', (hb.block _ (heap_lt e')).trans e'⟩, h.ne⟩

theorem writeCode_nil (w : World) (A A2 : Addr) (h : Sents2 w A A2) :
    Calls Tryd.prog 52 #[.nilIface] w fun e w' => e = .returned (.int .i64 0) ∧ Below w.heap.size w w' := by
  have g1 := h.g1
  have g2 := h.g2
  go_enter Tryd.func52, Tryd.ntmps52
  go_wp2_with (go_at_call 86; refine (is_nil _ _).mono ?_; rintro e w1 ⟨rfl, hw⟩; obtain rfl := hw.symm)
  go_ret
  exact ⟨rfl, Below.refl _ _⟩

theorem writeCode_rec (w : World) (A A2 : Addr) (h : Sents2 w A A2) :
    Calls Tryd.prog 52 #[.iface 124 (.agg #[sentR A, .int .i64 0])] w fun e w' => e = .returned (.int .i64 2) ∧ Below w.heap.size w w' := by
  have g1 := h.g1
  go_enter Tryd.func52, Tryd.ntmps52
  go_wp2_with (go_at_call 86; refine (is_same A 0 _).mono ?_; rintro e w1 ⟨rfl, hb⟩)
  go_ret
  exact ⟨rfl, hb⟩

theorem writeCode_full (w : World) (A A2 : Addr) (h : Sents2 w A A2) :
    Calls Tryd.prog 52 #[.iface 124 (.agg #[sentR A2, .int .i64 0])] w fun e w' => e = .returned (.int .i64 3) ∧ Below w.heap.size w w' := by
  have g1 := h.g1
  obtain ⟨c, t, e1⟩ := h.r1
  obtain ⟨c', t', e2⟩ := h.r2
  have y1 : True := trivial
  have hg2 := h.g2
  have hne := h.ne
  go_enter Tryd.func52, Tryd.ntmps52
  go_wp2_with (first
    | (go_at_call 86; clear y1; refine (is_other A2 A 0 c' c t' t _ hne.symm e2 e1).mono ?_; rintro e w1 ⟨rfl, hb⟩; have g2 : w1.cell? ⟨1, 0, none⟩ = some (sentR A2) := ((bcell hb).1 _ 0 (cell_lt hg2)).trans hg2)
    | (go_at_call 86; refine (is_same A2 0 _).mono ?_; rintro e w2 ⟨rfl, hb2⟩))
  go_ret
  exact ⟨rfl, hb.trans (hb2.mono hb.size)⟩
end Go.Proofs.YtjoflnnomebkpaaDoor
