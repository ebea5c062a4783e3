/-
  spec.PlanRecords.
-/
import Derived.Test.YtjoflnnomebkpaaDoorGround
import Derived.Test.YtjoflnnomebkpaaDoorStoreNew
import Derived.Deep.MidRow
namespace Go.Proofs.YtjoflnnomebkpaaDoor
open Go.RowKit
set_option linter.unusedVariables false
set_option linter.unusedSimpArgs false

theorem sizeRecP : (Tryd.prog.info? 94).map (·.size) = some 11 := by kernel_rfl

set_option maxHeartbeats 16000000 in
set_option maxRecDepth 100000 in
theorem sPlanRecords_any (t v : Int) (a : Option Addr) (cap : Nat) (l : List Ent) (t' v' : Int) (a' : Option Addr) (cap' : Nat) (l' : List Ent) (w : World)
    (hv : Hid (Es w (.slice a l.length cap) l)) (hu : Hid (Es w (.slice a' l'.length cap') l')) (hll : l.length ≤ 1048576) (hll' : l'.length ≤ 1048576) :
    Calls Tryd.prog 17 #[.agg #[.int .i64 t, .int .i64 v, .slice a l.length cap], .agg #[.int .i64 t', .int .i64 v', .slice a' l'.length cap']] w fun x w' => PlanAt w w' x (planC t v l t' v' l') (planL t v l t' v' l') := by
  have hb0 : Hid (Below w.heap.size w (((w.alloc (.cells #[.int .i64 t, .int .i64 v, .slice a l.length cap] 39)).alloc (.cells #[.int .i64 t', .int .i64 v', .slice a' l'.length cap'] 39)).alloc (.cells #[.int .i64 0, .slice none 0 0] 43))) := (((Below.refl _ _).alloc (Nat.le_refl _) _).alloc (by simp) _).alloc (by simp; omega) _
  have g1 : True := trivial
  cases h1 : stB t v l
  · have e1 : planC t v l t' v' l' = 1 := by simp [planC, h1]
    have e2 : planL t v l t' v' l' = [] := by simp [planL, e1]
    rw [e1, e2]
    clear e1 e2
    go_enter Tryd.func17, Tryd.ntmps17
    go_wp2_with (go_at_call 56; clear g1; refine (stableOk_any t v _ l _ (hv.out.below hb0.out) hll).mono ?_; rintro e w1 ⟨rfl, hb⟩; rw [h1]; have hbb := hb; have zw1 : w.heap.size + 1 + 1 + 1 ≤ w1.heap.size := (by have := hb.size; simp at this; omega); have y2 : w.heap.size < w1.heap.size := (by omega); have c20 : w1.cell? ⟨w.heap.size, 0, none⟩ = some (.int .i64 t) := (hb.cell (p := ⟨w.heap.size, 0, none⟩) (by simp <;> omega)).trans (by simp [go_sem]); have c21 : w1.cell? ⟨w.heap.size, 1, none⟩ = some (.int .i64 v) := (hb.cell (p := ⟨w.heap.size, 1, none⟩) (by simp <;> omega)).trans (by simp [go_sem]); have c22 : w1.cell? ⟨w.heap.size, 2, none⟩ = some (.slice a l.length cap) := (hb.cell (p := ⟨w.heap.size, 2, none⟩) (by simp <;> omega)).trans (by simp [go_sem]); have y3 : w.heap.size + 1 < w1.heap.size := (by omega); have c30 : w1.cell? ⟨w.heap.size + 1, 0, none⟩ = some (.int .i64 t') := (hb.cell (p := ⟨w.heap.size + 1, 0, none⟩) (by simp <;> omega)).trans (by simp [go_sem]); have c31 : w1.cell? ⟨w.heap.size + 1, 1, none⟩ = some (.int .i64 v') := (hb.cell (p := ⟨w.heap.size + 1, 1, none⟩) (by simp <;> omega)).trans (by simp [go_sem]); have c32 : w1.cell? ⟨w.heap.size + 1, 2, none⟩ = some (.slice a' l'.length cap') := (hb.cell (p := ⟨w.heap.size + 1, 2, none⟩) (by simp <;> omega)).trans (by simp [go_sem]); have y4 : w.heap.size + 1 + 1 < w1.heap.size := (by omega); have c40 : w1.cell? ⟨w.heap.size + 1 + 1, 0, none⟩ = some (.int .i64 0) := (hb.cell (p := ⟨w.heap.size + 1 + 1, 0, none⟩) (by simp <;> omega)).trans (by simp [go_sem]); have c41 : w1.cell? ⟨w.heap.size + 1 + 1, 1, none⟩ = some (.slice none 0 0) := (hb.cell (p := ⟨w.heap.size + 1 + 1, 1, none⟩) (by simp <;> omega)).trans (by simp [go_sem]); have f40 : w1.frozen? ⟨w.heap.size + 1 + 1, 0, none⟩ = false := (hb.frozen (p := ⟨w.heap.size + 1 + 1, 0, none⟩) (by simp)).trans (by simp [go_sem]); have f41 : w1.frozen? ⟨w.heap.size + 1 + 1, 1, none⟩ = false := (hb.frozen (p := ⟨w.heap.size + 1 + 1, 1, none⟩) (by simp)).trans (by simp [go_sem]); have HB : Hid (Below w.heap.size w w1) := hb0.out.trans (hb.mono (by simp; omega)); clear hb hbb)
    refine bodyPost_ret (v := .agg #[.int .i64 1, .slice none 0 0]) (by simp [results, Tryd.results17, go_sem, c40, c41]) rfl ⟨_, _, rfl, OwnR.nil _ _, ?_⟩
    exact (HB.out.setCell (show w.heap.size ≤ w.heap.size + 1 + 1 by omega) _).setCell (show w.heap.size ≤ w.heap.size + 1 + 1 by omega) _
  · cases h2 : stB t' v' l'
    · have e1 : planC t v l t' v' l' = 2 := by simp [planC, h1, h2]
      have e2 : planL t v l t' v' l' = [] := by simp [planL, e1]
      rw [e1, e2]
      clear e1 e2
      go_enter Tryd.func17, Tryd.ntmps17
      go_wp2_with (first
        | (go_at_call 56; clear g1; refine (stableOk_any t v _ l _ (hv.out.below hb0.out) hll).mono ?_; rintro e w1 ⟨rfl, hb⟩; rw [h1]; have hbb := hb; have zw1 : w.heap.size + 1 + 1 + 1 ≤ w1.heap.size := (by have := hb.size; simp at this; omega); have y2 : w.heap.size < w1.heap.size := (by omega); have c20 : w1.cell? ⟨w.heap.size, 0, none⟩ = some (.int .i64 t) := (hb.cell (p := ⟨w.heap.size, 0, none⟩) (by simp <;> omega)).trans (by simp [go_sem]); have c21 : w1.cell? ⟨w.heap.size, 1, none⟩ = some (.int .i64 v) := (hb.cell (p := ⟨w.heap.size, 1, none⟩) (by simp <;> omega)).trans (by simp [go_sem]); have c22 : w1.cell? ⟨w.heap.size, 2, none⟩ = some (.slice a l.length cap) := (hb.cell (p := ⟨w.heap.size, 2, none⟩) (by simp <;> omega)).trans (by simp [go_sem]); have y3 : w.heap.size + 1 < w1.heap.size := (by omega); have c30 : w1.cell? ⟨w.heap.size + 1, 0, none⟩ = some (.int .i64 t') := (hb.cell (p := ⟨w.heap.size + 1, 0, none⟩) (by simp <;> omega)).trans (by simp [go_sem]); have c31 : w1.cell? ⟨w.heap.size + 1, 1, none⟩ = some (.int .i64 v') := (hb.cell (p := ⟨w.heap.size + 1, 1, none⟩) (by simp <;> omega)).trans (by simp [go_sem]); have c32 : w1.cell? ⟨w.heap.size + 1, 2, none⟩ = some (.slice a' l'.length cap') := (hb.cell (p := ⟨w.heap.size + 1, 2, none⟩) (by simp <;> omega)).trans (by simp [go_sem]); have y4 : w.heap.size + 1 + 1 < w1.heap.size := (by omega); have c40 : w1.cell? ⟨w.heap.size + 1 + 1, 0, none⟩ = some (.int .i64 0) := (hb.cell (p := ⟨w.heap.size + 1 + 1, 0, none⟩) (by simp <;> omega)).trans (by simp [go_sem]); have c41 : w1.cell? ⟨w.heap.size + 1 + 1, 1, none⟩ = some (.slice none 0 0) := (hb.cell (p := ⟨w.heap.size + 1 + 1, 1, none⟩) (by simp <;> omega)).trans (by simp [go_sem]); have f40 : w1.frozen? ⟨w.heap.size + 1 + 1, 0, none⟩ = false := (hb.frozen (p := ⟨w.heap.size + 1 + 1, 0, none⟩) (by simp)).trans (by simp [go_sem]); have f41 : w1.frozen? ⟨w.heap.size + 1 + 1, 1, none⟩ = false := (hb.frozen (p := ⟨w.heap.size + 1 + 1, 1, none⟩) (by simp)).trans (by simp [go_sem]); have HB : Hid (Below w.heap.size w w1) := hb0.out.trans (hb.mono (by simp; omega)); clear hb hbb)
        | (go_at_call 56; refine (stableOk_any t' v' _ l' _ (hu.out.below HB.out) hll').mono ?_; rintro e w2 ⟨rfl, hb⟩; rw [h2]; have hbb : Below w1.heap.size w1 w2 := hb; have zw2 : w1.heap.size ≤ w2.heap.size := hbb.size; replace y2 : w.heap.size < w2.heap.size := (by omega); replace c20 : w2.cell? ⟨w.heap.size, 0, none⟩ = some (.int .i64 t) := (hbb.cell (p := ⟨w.heap.size, 0, none⟩) (show w.heap.size < w1.heap.size by omega)).trans c20; replace c21 : w2.cell? ⟨w.heap.size, 1, none⟩ = some (.int .i64 v) := (hbb.cell (p := ⟨w.heap.size, 1, none⟩) (show w.heap.size < w1.heap.size by omega)).trans c21; replace c22 : w2.cell? ⟨w.heap.size, 2, none⟩ = some (.slice a l.length cap) := (hbb.cell (p := ⟨w.heap.size, 2, none⟩) (show w.heap.size < w1.heap.size by omega)).trans c22; replace y3 : w.heap.size + 1 < w2.heap.size := (by omega); replace c30 : w2.cell? ⟨w.heap.size + 1, 0, none⟩ = some (.int .i64 t') := (hbb.cell (p := ⟨w.heap.size + 1, 0, none⟩) (show w.heap.size + 1 < w1.heap.size by omega)).trans c30; replace c31 : w2.cell? ⟨w.heap.size + 1, 1, none⟩ = some (.int .i64 v') := (hbb.cell (p := ⟨w.heap.size + 1, 1, none⟩) (show w.heap.size + 1 < w1.heap.size by omega)).trans c31; replace c32 : w2.cell? ⟨w.heap.size + 1, 2, none⟩ = some (.slice a' l'.length cap') := (hbb.cell (p := ⟨w.heap.size + 1, 2, none⟩) (show w.heap.size + 1 < w1.heap.size by omega)).trans c32; replace y4 : w.heap.size + 1 + 1 < w2.heap.size := (by omega); replace c40 : w2.cell? ⟨w.heap.size + 1 + 1, 0, none⟩ = some (.int .i64 0) := (hbb.cell (p := ⟨w.heap.size + 1 + 1, 0, none⟩) (show w.heap.size + 1 + 1 < w1.heap.size by omega)).trans c40; replace c41 : w2.cell? ⟨w.heap.size + 1 + 1, 1, none⟩ = some (.slice none 0 0) := (hbb.cell (p := ⟨w.heap.size + 1 + 1, 1, none⟩) (show w.heap.size + 1 + 1 < w1.heap.size by omega)).trans c41; replace f40 : w2.frozen? ⟨w.heap.size + 1 + 1, 0, none⟩ = false := (hbb.frozen (p := ⟨w.heap.size + 1 + 1, 0, none⟩) (show w.heap.size + 1 + 1 < w1.heap.size by omega)).trans f40; replace f41 : w2.frozen? ⟨w.heap.size + 1 + 1, 1, none⟩ = false := (hbb.frozen (p := ⟨w.heap.size + 1 + 1, 1, none⟩) (show w.heap.size + 1 + 1 < w1.heap.size by omega)).trans f41; replace HB : Hid (Below w.heap.size w w2) := HB.out.trans (hbb.mono (by omega)); clear hb hbb))
      refine bodyPost_ret (v := .agg #[.int .i64 2, .slice none 0 0]) (by simp [results, Tryd.results17, go_sem, c40, c41]) rfl ⟨_, _, rfl, OwnR.nil _ _, ?_⟩
      exact (HB.out.setCell (show w.heap.size ≤ w.heap.size + 1 + 1 by omega) _).setCell (show w.heap.size ≤ w.heap.size + 1 + 1 by omega) _
    · cases h3 : folB t v t' v'
      · have e1 : planC t v l t' v' l' = 3 := by simp [planC, h1, h2, h3]
        have e2 : planL t v l t' v' l' = [] := by simp [planL, e1]
        rw [e1, e2]
        clear e1 e2
        go_enter Tryd.func17, Tryd.ntmps17
        go_wp2_with (first
          | (go_at_call 56; clear g1; refine (stableOk_any t v _ l _ (hv.out.below hb0.out) hll).mono ?_; rintro e w1 ⟨rfl, hb⟩; rw [h1]; have hbb := hb; have zw1 : w.heap.size + 1 + 1 + 1 ≤ w1.heap.size := (by have := hb.size; simp at this; omega); have y2 : w.heap.size < w1.heap.size := (by omega); have c20 : w1.cell? ⟨w.heap.size, 0, none⟩ = some (.int .i64 t) := (hb.cell (p := ⟨w.heap.size, 0, none⟩) (by simp <;> omega)).trans (by simp [go_sem]); have c21 : w1.cell? ⟨w.heap.size, 1, none⟩ = some (.int .i64 v) := (hb.cell (p := ⟨w.heap.size, 1, none⟩) (by simp <;> omega)).trans (by simp [go_sem]); have c22 : w1.cell? ⟨w.heap.size, 2, none⟩ = some (.slice a l.length cap) := (hb.cell (p := ⟨w.heap.size, 2, none⟩) (by simp <;> omega)).trans (by simp [go_sem]); have y3 : w.heap.size + 1 < w1.heap.size := (by omega); have c30 : w1.cell? ⟨w.heap.size + 1, 0, none⟩ = some (.int .i64 t') := (hb.cell (p := ⟨w.heap.size + 1, 0, none⟩) (by simp <;> omega)).trans (by simp [go_sem]); have c31 : w1.cell? ⟨w.heap.size + 1, 1, none⟩ = some (.int .i64 v') := (hb.cell (p := ⟨w.heap.size + 1, 1, none⟩) (by simp <;> omega)).trans (by simp [go_sem]); have c32 : w1.cell? ⟨w.heap.size + 1, 2, none⟩ = some (.slice a' l'.length cap') := (hb.cell (p := ⟨w.heap.size + 1, 2, none⟩) (by simp <;> omega)).trans (by simp [go_sem]); have y4 : w.heap.size + 1 + 1 < w1.heap.size := (by omega); have c40 : w1.cell? ⟨w.heap.size + 1 + 1, 0, none⟩ = some (.int .i64 0) := (hb.cell (p := ⟨w.heap.size + 1 + 1, 0, none⟩) (by simp <;> omega)).trans (by simp [go_sem]); have c41 : w1.cell? ⟨w.heap.size + 1 + 1, 1, none⟩ = some (.slice none 0 0) := (hb.cell (p := ⟨w.heap.size + 1 + 1, 1, none⟩) (by simp <;> omega)).trans (by simp [go_sem]); have f40 : w1.frozen? ⟨w.heap.size + 1 + 1, 0, none⟩ = false := (hb.frozen (p := ⟨w.heap.size + 1 + 1, 0, none⟩) (by simp)).trans (by simp [go_sem]); have f41 : w1.frozen? ⟨w.heap.size + 1 + 1, 1, none⟩ = false := (hb.frozen (p := ⟨w.heap.size + 1 + 1, 1, none⟩) (by simp)).trans (by simp [go_sem]); have HB : Hid (Below w.heap.size w w1) := hb0.out.trans (hb.mono (by simp; omega)); clear hb hbb)
          | (go_at_call 56; refine (stableOk_any t' v' _ l' _ (hu.out.below HB.out) hll').mono ?_; rintro e w2 ⟨rfl, hb⟩; rw [h2]; have hbb : Below w1.heap.size w1 w2 := hb; have zw2 : w1.heap.size ≤ w2.heap.size := hbb.size; replace y2 : w.heap.size < w2.heap.size := (by omega); replace c20 : w2.cell? ⟨w.heap.size, 0, none⟩ = some (.int .i64 t) := (hbb.cell (p := ⟨w.heap.size, 0, none⟩) (show w.heap.size < w1.heap.size by omega)).trans c20; replace c21 : w2.cell? ⟨w.heap.size, 1, none⟩ = some (.int .i64 v) := (hbb.cell (p := ⟨w.heap.size, 1, none⟩) (show w.heap.size < w1.heap.size by omega)).trans c21; replace c22 : w2.cell? ⟨w.heap.size, 2, none⟩ = some (.slice a l.length cap) := (hbb.cell (p := ⟨w.heap.size, 2, none⟩) (show w.heap.size < w1.heap.size by omega)).trans c22; replace y3 : w.heap.size + 1 < w2.heap.size := (by omega); replace c30 : w2.cell? ⟨w.heap.size + 1, 0, none⟩ = some (.int .i64 t') := (hbb.cell (p := ⟨w.heap.size + 1, 0, none⟩) (show w.heap.size + 1 < w1.heap.size by omega)).trans c30; replace c31 : w2.cell? ⟨w.heap.size + 1, 1, none⟩ = some (.int .i64 v') := (hbb.cell (p := ⟨w.heap.size + 1, 1, none⟩) (show w.heap.size + 1 < w1.heap.size by omega)).trans c31; replace c32 : w2.cell? ⟨w.heap.size + 1, 2, none⟩ = some (.slice a' l'.length cap') := (hbb.cell (p := ⟨w.heap.size + 1, 2, none⟩) (show w.heap.size + 1 < w1.heap.size by omega)).trans c32; replace y4 : w.heap.size + 1 + 1 < w2.heap.size := (by omega); replace c40 : w2.cell? ⟨w.heap.size + 1 + 1, 0, none⟩ = some (.int .i64 0) := (hbb.cell (p := ⟨w.heap.size + 1 + 1, 0, none⟩) (show w.heap.size + 1 + 1 < w1.heap.size by omega)).trans c40; replace c41 : w2.cell? ⟨w.heap.size + 1 + 1, 1, none⟩ = some (.slice none 0 0) := (hbb.cell (p := ⟨w.heap.size + 1 + 1, 1, none⟩) (show w.heap.size + 1 + 1 < w1.heap.size by omega)).trans c41; replace f40 : w2.frozen? ⟨w.heap.size + 1 + 1, 0, none⟩ = false := (hbb.frozen (p := ⟨w.heap.size + 1 + 1, 0, none⟩) (show w.heap.size + 1 + 1 < w1.heap.size by omega)).trans f40; replace f41 : w2.frozen? ⟨w.heap.size + 1 + 1, 1, none⟩ = false := (hbb.frozen (p := ⟨w.heap.size + 1 + 1, 1, none⟩) (show w.heap.size + 1 + 1 < w1.heap.size by omega)).trans f41; replace HB : Hid (Below w.heap.size w w2) := HB.out.trans (hbb.mono (by omega)); clear hb hbb)
          | (refine gate_store' 94 (.tmp 5) (.tmp 21) rfl ?_; refine wpl_store_new2 rfl 94 (.tmp 5) (.tmp 21) rfl #[.int .i64 0, .int .i64 0, .int .i64 0, .int .i64 0, .int .i64 0, .int .i64 0, .int .i64 0, .int .i64 0, .string ⟨#[]⟩, .string ⟨#[]⟩, .string ⟨#[]⟩] #[.int .i64 1, .int .i64 t', .int .i64 v', .int .i64 0, .int .i64 0, .int .i64 0, .int .i64 0, .int .i64 0, .string ⟨#[]⟩, .string ⟨#[]⟩, .string ⟨#[]⟩] rfl rfl sizeRecP rfl (by simp [Value.oneCell']) ?_)
          | (refine gate_load' 94 (.tmp 5) rfl ?_; refine wpList_load_mid rfl 94 (.tmp 5) rfl w2.heap.size 0 rfl (⟨1, t', v', 0, zeroE⟩ : Rec).cells _ (range_new' _ _ _) Tryd.underlying94 rfl sizeRecP ?_)
          | (go_at_call 57; refine (fitsHard_any t v t' v' _ _ _ hll _).mono ?_; rintro e w3 ⟨rfl, hb⟩; rw [h3]; have HR : Hid (w3.rangeAt w2.heap.size 0 (⟨1, t', v', 0, zeroE⟩ : Rec).cells) := range_below (range_new' _ _ _) hb; have hbb : Below w2.heap.size w2 w3 := ((Below.refl _ _).alloc (Nat.le_refl _) _).trans (hb.mono (by simp)); have zw3 : w2.heap.size < w3.heap.size := (by have := hb.size; simp at this; omega); replace y2 : w.heap.size < w3.heap.size := (by omega); replace c20 : w3.cell? ⟨w.heap.size, 0, none⟩ = some (.int .i64 t) := (hbb.cell (p := ⟨w.heap.size, 0, none⟩) (show w.heap.size < w2.heap.size by omega)).trans c20; replace c21 : w3.cell? ⟨w.heap.size, 1, none⟩ = some (.int .i64 v) := (hbb.cell (p := ⟨w.heap.size, 1, none⟩) (show w.heap.size < w2.heap.size by omega)).trans c21; replace c22 : w3.cell? ⟨w.heap.size, 2, none⟩ = some (.slice a l.length cap) := (hbb.cell (p := ⟨w.heap.size, 2, none⟩) (show w.heap.size < w2.heap.size by omega)).trans c22; replace y3 : w.heap.size + 1 < w3.heap.size := (by omega); replace c30 : w3.cell? ⟨w.heap.size + 1, 0, none⟩ = some (.int .i64 t') := (hbb.cell (p := ⟨w.heap.size + 1, 0, none⟩) (show w.heap.size + 1 < w2.heap.size by omega)).trans c30; replace c31 : w3.cell? ⟨w.heap.size + 1, 1, none⟩ = some (.int .i64 v') := (hbb.cell (p := ⟨w.heap.size + 1, 1, none⟩) (show w.heap.size + 1 < w2.heap.size by omega)).trans c31; replace c32 : w3.cell? ⟨w.heap.size + 1, 2, none⟩ = some (.slice a' l'.length cap') := (hbb.cell (p := ⟨w.heap.size + 1, 2, none⟩) (show w.heap.size + 1 < w2.heap.size by omega)).trans c32; replace y4 : w.heap.size + 1 + 1 < w3.heap.size := (by omega); replace c40 : w3.cell? ⟨w.heap.size + 1 + 1, 0, none⟩ = some (.int .i64 0) := (hbb.cell (p := ⟨w.heap.size + 1 + 1, 0, none⟩) (show w.heap.size + 1 + 1 < w2.heap.size by omega)).trans c40; replace c41 : w3.cell? ⟨w.heap.size + 1 + 1, 1, none⟩ = some (.slice none 0 0) := (hbb.cell (p := ⟨w.heap.size + 1 + 1, 1, none⟩) (show w.heap.size + 1 + 1 < w2.heap.size by omega)).trans c41; replace f40 : w3.frozen? ⟨w.heap.size + 1 + 1, 0, none⟩ = false := (hbb.frozen (p := ⟨w.heap.size + 1 + 1, 0, none⟩) (show w.heap.size + 1 + 1 < w2.heap.size by omega)).trans f40; replace f41 : w3.frozen? ⟨w.heap.size + 1 + 1, 1, none⟩ = false := (hbb.frozen (p := ⟨w.heap.size + 1 + 1, 1, none⟩) (show w.heap.size + 1 + 1 < w2.heap.size by omega)).trans f41; have y5 : w2.heap.size < w3.heap.size := (by omega); replace HB : Hid (Below w.heap.size w w3) := HB.out.trans (hbb.mono (by omega)); clear hb hbb))
        refine bodyPost_ret (v := .agg #[.int .i64 3, .slice none 0 0]) (by simp [results, Tryd.results17, go_sem, c40, c41]) rfl ⟨_, _, rfl, OwnR.nil _ _, ?_⟩
        exact (HB.out.setCell (show w.heap.size ≤ w.heap.size + 1 + 1 by omega) _).setCell (show w.heap.size ≤ w.heap.size + 1 + 1 by omega) _
      · have e1 : planC t v l t' v' l' = 0 := by simp [planC, h1, h2, h3]
        have e2 : planL t v l t' v' l' = planAll t v l t' v' l' := by simp [planL, e1]
        rw [e1, e2]
        clear e1 e2
        have hs1 := stB_len h1
        have hs2 := stB_len h2
        have hcl := comK_le l l'
        go_enter Tryd.func17, Tryd.ntmps17
        go_upto_region 9 with (first
          | (go_at_call 56; clear g1; refine (stableOk_any t v _ l _ (hv.out.below hb0.out) hll).mono ?_; rintro e w1 ⟨rfl, hb⟩; rw [h1]; have hbb := hb; have zw1 : w.heap.size + 1 + 1 + 1 ≤ w1.heap.size := (by have := hb.size; simp at this; omega); have y2 : w.heap.size < w1.heap.size := (by omega); have c20 : w1.cell? ⟨w.heap.size, 0, none⟩ = some (.int .i64 t) := (hb.cell (p := ⟨w.heap.size, 0, none⟩) (by simp <;> omega)).trans (by simp [go_sem]); have c21 : w1.cell? ⟨w.heap.size, 1, none⟩ = some (.int .i64 v) := (hb.cell (p := ⟨w.heap.size, 1, none⟩) (by simp <;> omega)).trans (by simp [go_sem]); have c22 : w1.cell? ⟨w.heap.size, 2, none⟩ = some (.slice a l.length cap) := (hb.cell (p := ⟨w.heap.size, 2, none⟩) (by simp <;> omega)).trans (by simp [go_sem]); have y3 : w.heap.size + 1 < w1.heap.size := (by omega); have c30 : w1.cell? ⟨w.heap.size + 1, 0, none⟩ = some (.int .i64 t') := (hb.cell (p := ⟨w.heap.size + 1, 0, none⟩) (by simp <;> omega)).trans (by simp [go_sem]); have c31 : w1.cell? ⟨w.heap.size + 1, 1, none⟩ = some (.int .i64 v') := (hb.cell (p := ⟨w.heap.size + 1, 1, none⟩) (by simp <;> omega)).trans (by simp [go_sem]); have c32 : w1.cell? ⟨w.heap.size + 1, 2, none⟩ = some (.slice a' l'.length cap') := (hb.cell (p := ⟨w.heap.size + 1, 2, none⟩) (by simp <;> omega)).trans (by simp [go_sem]); have y4 : w.heap.size + 1 + 1 < w1.heap.size := (by omega); have c40 : w1.cell? ⟨w.heap.size + 1 + 1, 0, none⟩ = some (.int .i64 0) := (hb.cell (p := ⟨w.heap.size + 1 + 1, 0, none⟩) (by simp <;> omega)).trans (by simp [go_sem]); have c41 : w1.cell? ⟨w.heap.size + 1 + 1, 1, none⟩ = some (.slice none 0 0) := (hb.cell (p := ⟨w.heap.size + 1 + 1, 1, none⟩) (by simp <;> omega)).trans (by simp [go_sem]); have f40 : w1.frozen? ⟨w.heap.size + 1 + 1, 0, none⟩ = false := (hb.frozen (p := ⟨w.heap.size + 1 + 1, 0, none⟩) (by simp)).trans (by simp [go_sem]); have f41 : w1.frozen? ⟨w.heap.size + 1 + 1, 1, none⟩ = false := (hb.frozen (p := ⟨w.heap.size + 1 + 1, 1, none⟩) (by simp)).trans (by simp [go_sem]); have HB : Hid (Below w.heap.size w w1) := hb0.out.trans (hb.mono (by simp; omega)); clear hb hbb)
          | (go_at_call 56; refine (stableOk_any t' v' _ l' _ (hu.out.below HB.out) hll').mono ?_; rintro e w2 ⟨rfl, hb⟩; rw [h2]; have hbb : Below w1.heap.size w1 w2 := hb; have zw2 : w1.heap.size ≤ w2.heap.size := hbb.size; replace y2 : w.heap.size < w2.heap.size := (by omega); replace c20 : w2.cell? ⟨w.heap.size, 0, none⟩ = some (.int .i64 t) := (hbb.cell (p := ⟨w.heap.size, 0, none⟩) (show w.heap.size < w1.heap.size by omega)).trans c20; replace c21 : w2.cell? ⟨w.heap.size, 1, none⟩ = some (.int .i64 v) := (hbb.cell (p := ⟨w.heap.size, 1, none⟩) (show w.heap.size < w1.heap.size by omega)).trans c21; replace c22 : w2.cell? ⟨w.heap.size, 2, none⟩ = some (.slice a l.length cap) := (hbb.cell (p := ⟨w.heap.size, 2, none⟩) (show w.heap.size < w1.heap.size by omega)).trans c22; replace y3 : w.heap.size + 1 < w2.heap.size := (by omega); replace c30 : w2.cell? ⟨w.heap.size + 1, 0, none⟩ = some (.int .i64 t') := (hbb.cell (p := ⟨w.heap.size + 1, 0, none⟩) (show w.heap.size + 1 < w1.heap.size by omega)).trans c30; replace c31 : w2.cell? ⟨w.heap.size + 1, 1, none⟩ = some (.int .i64 v') := (hbb.cell (p := ⟨w.heap.size + 1, 1, none⟩) (show w.heap.size + 1 < w1.heap.size by omega)).trans c31; replace c32 : w2.cell? ⟨w.heap.size + 1, 2, none⟩ = some (.slice a' l'.length cap') := (hbb.cell (p := ⟨w.heap.size + 1, 2, none⟩) (show w.heap.size + 1 < w1.heap.size by omega)).trans c32; replace y4 : w.heap.size + 1 + 1 < w2.heap.size := (by omega); replace c40 : w2.cell? ⟨w.heap.size + 1 + 1, 0, none⟩ = some (.int .i64 0) := (hbb.cell (p := ⟨w.heap.size + 1 + 1, 0, none⟩) (show w.heap.size + 1 + 1 < w1.heap.size by omega)).trans c40; replace c41 : w2.cell? ⟨w.heap.size + 1 + 1, 1, none⟩ = some (.slice none 0 0) := (hbb.cell (p := ⟨w.heap.size + 1 + 1, 1, none⟩) (show w.heap.size + 1 + 1 < w1.heap.size by omega)).trans c41; replace f40 : w2.frozen? ⟨w.heap.size + 1 + 1, 0, none⟩ = false := (hbb.frozen (p := ⟨w.heap.size + 1 + 1, 0, none⟩) (show w.heap.size + 1 + 1 < w1.heap.size by omega)).trans f40; replace f41 : w2.frozen? ⟨w.heap.size + 1 + 1, 1, none⟩ = false := (hbb.frozen (p := ⟨w.heap.size + 1 + 1, 1, none⟩) (show w.heap.size + 1 + 1 < w1.heap.size by omega)).trans f41; replace HB : Hid (Below w.heap.size w w2) := HB.out.trans (hbb.mono (by omega)); clear hb hbb)
          | (refine gate_store' 94 (.tmp 5) (.tmp 21) rfl ?_; refine wpl_store_new2 rfl 94 (.tmp 5) (.tmp 21) rfl #[.int .i64 0, .int .i64 0, .int .i64 0, .int .i64 0, .int .i64 0, .int .i64 0, .int .i64 0, .int .i64 0, .string ⟨#[]⟩, .string ⟨#[]⟩, .string ⟨#[]⟩] #[.int .i64 1, .int .i64 t', .int .i64 v', .int .i64 0, .int .i64 0, .int .i64 0, .int .i64 0, .int .i64 0, .string ⟨#[]⟩, .string ⟨#[]⟩, .string ⟨#[]⟩] rfl rfl sizeRecP rfl (by simp [Value.oneCell']) ?_)
          | (refine gate_load' 94 (.tmp 5) rfl ?_; refine wpList_load_mid rfl 94 (.tmp 5) rfl w2.heap.size 0 rfl (⟨1, t', v', 0, zeroE⟩ : Rec).cells _ (range_new' _ _ _) Tryd.underlying94 rfl sizeRecP ?_)
          | (go_at_call 57; refine (fitsHard_any t v t' v' _ _ _ hll _).mono ?_; rintro e w3 ⟨rfl, hb⟩; rw [h3]; have HR : Hid (w3.rangeAt w2.heap.size 0 (⟨1, t', v', 0, zeroE⟩ : Rec).cells) := range_below (range_new' _ _ _) hb; have hbb : Below w2.heap.size w2 w3 := ((Below.refl _ _).alloc (Nat.le_refl _) _).trans (hb.mono (by simp)); have zw3 : w2.heap.size < w3.heap.size := (by have := hb.size; simp at this; omega); replace y2 : w.heap.size < w3.heap.size := (by omega); replace c20 : w3.cell? ⟨w.heap.size, 0, none⟩ = some (.int .i64 t) := (hbb.cell (p := ⟨w.heap.size, 0, none⟩) (show w.heap.size < w2.heap.size by omega)).trans c20; replace c21 : w3.cell? ⟨w.heap.size, 1, none⟩ = some (.int .i64 v) := (hbb.cell (p := ⟨w.heap.size, 1, none⟩) (show w.heap.size < w2.heap.size by omega)).trans c21; replace c22 : w3.cell? ⟨w.heap.size, 2, none⟩ = some (.slice a l.length cap) := (hbb.cell (p := ⟨w.heap.size, 2, none⟩) (show w.heap.size < w2.heap.size by omega)).trans c22; replace y3 : w.heap.size + 1 < w3.heap.size := (by omega); replace c30 : w3.cell? ⟨w.heap.size + 1, 0, none⟩ = some (.int .i64 t') := (hbb.cell (p := ⟨w.heap.size + 1, 0, none⟩) (show w.heap.size + 1 < w2.heap.size by omega)).trans c30; replace c31 : w3.cell? ⟨w.heap.size + 1, 1, none⟩ = some (.int .i64 v') := (hbb.cell (p := ⟨w.heap.size + 1, 1, none⟩) (show w.heap.size + 1 < w2.heap.size by omega)).trans c31; replace c32 : w3.cell? ⟨w.heap.size + 1, 2, none⟩ = some (.slice a' l'.length cap') := (hbb.cell (p := ⟨w.heap.size + 1, 2, none⟩) (show w.heap.size + 1 < w2.heap.size by omega)).trans c32; replace y4 : w.heap.size + 1 + 1 < w3.heap.size := (by omega); replace c40 : w3.cell? ⟨w.heap.size + 1 + 1, 0, none⟩ = some (.int .i64 0) := (hbb.cell (p := ⟨w.heap.size + 1 + 1, 0, none⟩) (show w.heap.size + 1 + 1 < w2.heap.size by omega)).trans c40; replace c41 : w3.cell? ⟨w.heap.size + 1 + 1, 1, none⟩ = some (.slice none 0 0) := (hbb.cell (p := ⟨w.heap.size + 1 + 1, 1, none⟩) (show w.heap.size + 1 + 1 < w2.heap.size by omega)).trans c41; replace f40 : w3.frozen? ⟨w.heap.size + 1 + 1, 0, none⟩ = false := (hbb.frozen (p := ⟨w.heap.size + 1 + 1, 0, none⟩) (show w.heap.size + 1 + 1 < w2.heap.size by omega)).trans f40; replace f41 : w3.frozen? ⟨w.heap.size + 1 + 1, 1, none⟩ = false := (hbb.frozen (p := ⟨w.heap.size + 1 + 1, 1, none⟩) (show w.heap.size + 1 + 1 < w2.heap.size by omega)).trans f41; have y5 : w2.heap.size < w3.heap.size := (by omega); replace HB : Hid (Below w.heap.size w w3) := HB.out.trans (hbb.mono (by omega)); clear hb hbb))
        have HO0 : Hid (OwnR (w3.alloc (.cells #[] 94)) w3.heap.size (.slice (some ⟨w3.heap.size, 0, none⟩) 0 0) []) := OwnR.made _ _ (Nat.le_refl _)
        have HB0 : Hid (Below w3.heap.size w3 (w3.alloc (.cells #[] 94))) := (Below.refl _ _).alloc (Nat.le_refl _) _
        go_cut [39] (fun s39 wx => s39 = .bool (difB t v t' v') ∧ wx = w3.alloc (.cells #[] 94))
        case first =>
          by_cases ht : t = t'
          · subst ht
            by_cases hv0 : v = v'
            · subst hv0
              go_wp2_with fail
              go_meet
              exact ⟨by simp [difB], rfl⟩
            · go_wp2_with fail
              go_meet
              exact ⟨by have h1 : (v == v') = false := (by simpa using hv0); have h2 : (v' == v) = false := (by simpa using Ne.symm hv0); simp [difB, bne, h1, h2], rfl⟩
          · go_wp2_with fail
            go_meet
            exact ⟨by have h2 : (t' == t) = false := (by simpa using Ne.symm ht); simp [difB, bne, h2], rfl⟩
        case rest =>
          obtain ⟨rfl, hwc⟩ := hcut
          obtain rfl := hwc.symm
          clear hwc
          go_upto_if 39 with fail
          go_cut [6] (fun s6 wx => OwnR wx w3.heap.size s6 (hardL t v t' v') ∧ Below w3.heap.size w3 wx)
          case first =>
            cases hd : difB t v t' v'
            · have e : hardL t v t' v' = [] := by simp [hardL, hd]
              go_wp2_with fail
              go_meet
              exact ⟨by rw [e]; exact HO0.out, HB0.out⟩
            · have HE : Hid (hardL t v t' v' = [] ++ [⟨1, t', v', 0, zeroE⟩]) := by unfold Hid; simp [hardL, hd]
              have HR1 : Hid ((w3.alloc (.cells #[] 94)).rangeAt w2.heap.size 0 (⟨1, t', v', 0, zeroE⟩ : Rec).cells) := range_below HR.out HB0.out
              have hB4 : Hid (Below w3.heap.size w3 ((w3.alloc (.cells #[] 94)).alloc (.cells #[.int .i64 1, .int .i64 t', .int .i64 v', .int .i64 0, .int .i64 0, .int .i64 0, .int .i64 0, .int .i64 0, .string ⟨#[]⟩, .string ⟨#[]⟩, .string ⟨#[]⟩] 94))) := HB0.out.alloc (by simp) _
              have ho4 : Hid (OwnR ((w3.alloc (.cells #[] 94)).alloc (.cells #[.int .i64 1, .int .i64 t', .int .i64 v', .int .i64 0, .int .i64 0, .int .i64 0, .int .i64 0, .int .i64 0, .string ⟨#[]⟩, .string ⟨#[]⟩, .string ⟨#[]⟩] 94)) w3.heap.size (.slice (some ⟨w3.heap.size, 0, none⟩) 0 0) []) := HO0.out.below ((Below.refl _ _).alloc (Nat.le_refl _) _)
              go_wp2_with (first
                | (refine gate_load' 94 (.tmp 5) rfl ?_; refine wpList_load_mid rfl 94 (.tmp 5) rfl w2.heap.size 0 rfl [.int .i64 1, .int .i64 t', .int .i64 v', .int .i64 0, .int .i64 0, .int .i64 0, .int .i64 0, .int .i64 0, .string ⟨#[]⟩, .string ⟨#[]⟩, .string ⟨#[]⟩] _ HR1.out Tryd.underlying94 rfl sizeRecP ?_)
                | (at_builtin; refine wpl_appendR rfl (.tmp 40) (.tmp 42) rfl ⟨1, t', v', 0, zeroE⟩ ho4.out rfl (w3.heap.size + 1) 1 (by have h := range_new' (w3.alloc (.cells #[] 94)) (⟨1, t', v', 0, zeroE⟩ : Rec).cells 94; rw [World.size_alloc] at h; exact h) rfl (by simp) (by simp; omega) ?_; intro v5 w5 ho5 hg5; have hB5 := hB4.out.trans (growR hg5 ho4.out (by simp; omega))))
              go_meet
              exact ⟨by rw [HE.out]; exact ho5, hB5⟩
          case rest =>
            obtain ⟨ho6, hb6⟩ := hcut
            have zc : w3.heap.size ≤ wc.heap.size := hb6.size
            replace y2 : w.heap.size < wc.heap.size := by omega
            replace c20 : wc.cell? ⟨w.heap.size, 0, none⟩ = some (.int .i64 t) := (hb6.cell (p := ⟨w.heap.size, 0, none⟩) (show w.heap.size < w3.heap.size by omega)).trans c20
            replace c21 : wc.cell? ⟨w.heap.size, 1, none⟩ = some (.int .i64 v) := (hb6.cell (p := ⟨w.heap.size, 1, none⟩) (show w.heap.size < w3.heap.size by omega)).trans c21
            replace c22 : wc.cell? ⟨w.heap.size, 2, none⟩ = some (.slice a l.length cap) := (hb6.cell (p := ⟨w.heap.size, 2, none⟩) (show w.heap.size < w3.heap.size by omega)).trans c22
            replace y3 : w.heap.size + 1 < wc.heap.size := by omega
            replace c30 : wc.cell? ⟨w.heap.size + 1, 0, none⟩ = some (.int .i64 t') := (hb6.cell (p := ⟨w.heap.size + 1, 0, none⟩) (show w.heap.size + 1 < w3.heap.size by omega)).trans c30
            replace c31 : wc.cell? ⟨w.heap.size + 1, 1, none⟩ = some (.int .i64 v') := (hb6.cell (p := ⟨w.heap.size + 1, 1, none⟩) (show w.heap.size + 1 < w3.heap.size by omega)).trans c31
            replace c32 : wc.cell? ⟨w.heap.size + 1, 2, none⟩ = some (.slice a' l'.length cap') := (hb6.cell (p := ⟨w.heap.size + 1, 2, none⟩) (show w.heap.size + 1 < w3.heap.size by omega)).trans c32
            replace y4 : w.heap.size + 1 + 1 < wc.heap.size := by omega
            replace c40 : wc.cell? ⟨w.heap.size + 1 + 1, 0, none⟩ = some (.int .i64 0) := (hb6.cell (p := ⟨w.heap.size + 1 + 1, 0, none⟩) (show w.heap.size + 1 + 1 < w3.heap.size by omega)).trans c40
            replace c41 : wc.cell? ⟨w.heap.size + 1 + 1, 1, none⟩ = some (.slice none 0 0) := (hb6.cell (p := ⟨w.heap.size + 1 + 1, 1, none⟩) (show w.heap.size + 1 + 1 < w3.heap.size by omega)).trans c41
            replace f40 : wc.frozen? ⟨w.heap.size + 1 + 1, 0, none⟩ = false := (hb6.frozen (p := ⟨w.heap.size + 1 + 1, 0, none⟩) (show w.heap.size + 1 + 1 < w3.heap.size by omega)).trans f40
            replace f41 : wc.frozen? ⟨w.heap.size + 1 + 1, 1, none⟩ = false := (hb6.frozen (p := ⟨w.heap.size + 1 + 1, 1, none⟩) (show w.heap.size + 1 + 1 < w3.heap.size by omega)).trans f41
            replace HB : Hid (Below w.heap.size w wc) := HB.out.trans (hb6.mono (by omega))
            obtain ⟨a6, cap6, rfl⟩ := ho6.shape
            have HO : Hid (OwnR wc w3.heap.size (.slice a6 (hardL t v t' v').length cap6) (hardL t v t' v')) := ho6
            have hh1 := hardL_len t v t' v'
            have hh2 := cutL_len l l'
            clear ho6 hb6 HO0 HB0 HR
            go_wp2
            go_loopw [7] (fun s7 wr => ∃ k : Nat, k ≤ l.length ∧ k ≤ l'.length ∧ s7 = .int .i64 k ∧ comK l l' = k + comK (l.drop k) (l'.drop k) ∧ Below wc.heap.size wc wr) (fun i _ => l.length - (intOf i).toNat)
            case atStart => exact ⟨0, Nat.zero_le _, Nat.zero_le _, rfl, by simp, Below.refl _ _⟩
            case round =>
              obtain ⟨k, hk0, hk1, rfl, hcom, hBr⟩ := hrel
              have HC : Hid (comK l l' = k + comK (l.drop k) (l'.drop k)) := hcom
              have zr : wc.heap.size ≤ wr.heap.size := hBr.size
              clear hcom
              replace y2 : w.heap.size < wr.heap.size := by omega
              replace c20 : wr.cell? ⟨w.heap.size, 0, none⟩ = some (.int .i64 t) := (hBr.cell (p := ⟨w.heap.size, 0, none⟩) (show w.heap.size < wc.heap.size by omega)).trans c20
              replace c21 : wr.cell? ⟨w.heap.size, 1, none⟩ = some (.int .i64 v) := (hBr.cell (p := ⟨w.heap.size, 1, none⟩) (show w.heap.size < wc.heap.size by omega)).trans c21
              replace c22 : wr.cell? ⟨w.heap.size, 2, none⟩ = some (.slice a l.length cap) := (hBr.cell (p := ⟨w.heap.size, 2, none⟩) (show w.heap.size < wc.heap.size by omega)).trans c22
              replace y3 : w.heap.size + 1 < wr.heap.size := by omega
              replace c30 : wr.cell? ⟨w.heap.size + 1, 0, none⟩ = some (.int .i64 t') := (hBr.cell (p := ⟨w.heap.size + 1, 0, none⟩) (show w.heap.size + 1 < wc.heap.size by omega)).trans c30
              replace c31 : wr.cell? ⟨w.heap.size + 1, 1, none⟩ = some (.int .i64 v') := (hBr.cell (p := ⟨w.heap.size + 1, 1, none⟩) (show w.heap.size + 1 < wc.heap.size by omega)).trans c31
              replace c32 : wr.cell? ⟨w.heap.size + 1, 2, none⟩ = some (.slice a' l'.length cap') := (hBr.cell (p := ⟨w.heap.size + 1, 2, none⟩) (show w.heap.size + 1 < wc.heap.size by omega)).trans c32
              replace y4 : w.heap.size + 1 + 1 < wr.heap.size := by omega
              replace c40 : wr.cell? ⟨w.heap.size + 1 + 1, 0, none⟩ = some (.int .i64 0) := (hBr.cell (p := ⟨w.heap.size + 1 + 1, 0, none⟩) (show w.heap.size + 1 + 1 < wc.heap.size by omega)).trans c40
              replace c41 : wr.cell? ⟨w.heap.size + 1 + 1, 1, none⟩ = some (.slice none 0 0) := (hBr.cell (p := ⟨w.heap.size + 1 + 1, 1, none⟩) (show w.heap.size + 1 + 1 < wc.heap.size by omega)).trans c41
              replace f40 : wr.frozen? ⟨w.heap.size + 1 + 1, 0, none⟩ = false := (hBr.frozen (p := ⟨w.heap.size + 1 + 1, 0, none⟩) (show w.heap.size + 1 + 1 < wc.heap.size by omega)).trans f40
              replace f41 : wr.frozen? ⟨w.heap.size + 1 + 1, 1, none⟩ = false := (hBr.frozen (p := ⟨w.heap.size + 1 + 1, 1, none⟩) (show w.heap.size + 1 + 1 < wc.heap.size by omega)).trans f41
              replace HB : Hid (Below w.heap.size w wr) := HB.out.trans (hBr.mono (by omega))
              replace HO : Hid (OwnR wr w3.heap.size (.slice a6 (hardL t v t' v').length cap6) (hardL t v t' v')) := HO.out.below hBr
              by_cases hlt : k < l.length
              · by_cases hlt' : k < l'.length
                · have hEo := hv.out.below HB.out
                  have hEn := hu.out.below HB.out
                  obtain ⟨_, _, a'', cap'', he, hc⟩ := hEo
                  injection he with e1 e2 e3
                  subst e1
                  subst e3
                  obtain ⟨_, _, a'', cap'', he, hc'⟩ := hEn
                  injection he with e1 e2 e3
                  subst e1
                  subst e3
                  obtain ⟨b, off, rfl, hj⟩ := hc k hlt
                  obtain ⟨b', off', rfl, hj'⟩ := hc' k hlt'
                  obtain ⟨d0, d1, d2, d3, d4, d5, d6⟩ := hj k hlt
                  obtain ⟨n0, n1, n2, n3, n4, n5, n6⟩ := hj' k hlt'
                  have HS : Hid (comK (l.drop k) (l'.drop k) = if entEqB l[k] l'[k] then comK (l.drop (k + 1)) (l'.drop (k + 1)) + 1 else 0) := comK_step l l' k hlt hlt'
                  clear hc hj hc' hj' e2
                  generalize l[k] = e at *
                  generalize l'[k] = e' at *
                  have hE : ∀ u : World, (Op.equalIn 10000 92 (.agg #[.int .i64 e.t, .int .i64 e.cl, .int .i64 e.sq, .int .i64 e.op, .string e.k, .string e.v, .string e.o]) (.agg #[.int .i64 e'.t, .int .i64 e'.cl, .int .i64 e'.sq, .int .i64 e'.op, .string e'.k, .string e'.v, .string e'.o])).run Tryd.prog u = .ok (entEqB e e') u := fun u => eqEnt_run 9997 e e' u
                  cases hq : entEqB e e'
                  · rw [hq] at hE HS
                    obtain rfl : k = comK l l' := by rw [HC.out, HS.out]; simp
                    go_wp2
                    go_quiet (fail)
                    obtain ⟨w9, hw9⟩ : ∃ x, x = wr.drewN nq := ⟨_, rfl⟩
                    have hb9 : Below wr.heap.size wr w9 := by rw [hw9]; exact ⟨rfl, rfl, rfl, Nat.le_refl _, fun _ _ => rfl⟩
                    have z9 : wr.heap.size ≤ w9.heap.size := hb9.size
                    replace y2 : w.heap.size < w9.heap.size := by omega
                    replace c20 : w9.cell? ⟨w.heap.size, 0, none⟩ = some (.int .i64 t) := (hb9.cell (p := ⟨w.heap.size, 0, none⟩) (show w.heap.size < wr.heap.size by omega)).trans c20
                    replace c21 : w9.cell? ⟨w.heap.size, 1, none⟩ = some (.int .i64 v) := (hb9.cell (p := ⟨w.heap.size, 1, none⟩) (show w.heap.size < wr.heap.size by omega)).trans c21
                    replace c22 : w9.cell? ⟨w.heap.size, 2, none⟩ = some (.slice (some ⟨b, off, none⟩) l.length cap) := (hb9.cell (p := ⟨w.heap.size, 2, none⟩) (show w.heap.size < wr.heap.size by omega)).trans c22
                    replace y3 : w.heap.size + 1 < w9.heap.size := by omega
                    replace c30 : w9.cell? ⟨w.heap.size + 1, 0, none⟩ = some (.int .i64 t') := (hb9.cell (p := ⟨w.heap.size + 1, 0, none⟩) (show w.heap.size + 1 < wr.heap.size by omega)).trans c30
                    replace c31 : w9.cell? ⟨w.heap.size + 1, 1, none⟩ = some (.int .i64 v') := (hb9.cell (p := ⟨w.heap.size + 1, 1, none⟩) (show w.heap.size + 1 < wr.heap.size by omega)).trans c31
                    replace c32 : w9.cell? ⟨w.heap.size + 1, 2, none⟩ = some (.slice (some ⟨b', off', none⟩) l'.length cap') := (hb9.cell (p := ⟨w.heap.size + 1, 2, none⟩) (show w.heap.size + 1 < wr.heap.size by omega)).trans c32
                    replace y4 : w.heap.size + 1 + 1 < w9.heap.size := by omega
                    replace c40 : w9.cell? ⟨w.heap.size + 1 + 1, 0, none⟩ = some (.int .i64 0) := (hb9.cell (p := ⟨w.heap.size + 1 + 1, 0, none⟩) (show w.heap.size + 1 + 1 < wr.heap.size by omega)).trans c40
                    replace c41 : w9.cell? ⟨w.heap.size + 1 + 1, 1, none⟩ = some (.slice none 0 0) := (hb9.cell (p := ⟨w.heap.size + 1 + 1, 1, none⟩) (show w.heap.size + 1 + 1 < wr.heap.size by omega)).trans c41
                    replace f40 : w9.frozen? ⟨w.heap.size + 1 + 1, 0, none⟩ = false := (hb9.frozen (p := ⟨w.heap.size + 1 + 1, 0, none⟩) (show w.heap.size + 1 + 1 < wr.heap.size by omega)).trans f40
                    replace f41 : w9.frozen? ⟨w.heap.size + 1 + 1, 1, none⟩ = false := (hb9.frozen (p := ⟨w.heap.size + 1 + 1, 1, none⟩) (show w.heap.size + 1 + 1 < wr.heap.size by omega)).trans f41
                    replace HB : Hid (Below w.heap.size w w9) := HB.out.trans (hb9.mono (by omega))
                    replace HO : Hid (OwnR w9 w3.heap.size (.slice a6 (hardL t v t' v').length cap6) (hardL t v t' v')) := HO.out.below hb9
                    rw [← hw9]
                    clear hb9 hw9 hBr
                    clear hE d0 d1 d2 d3 d4 d5 d6 n0 n1 n2 n3 n4 n5 n6 HS HC
                    go_upto_if 75 with fail
                    go_cut [6] (fun s6 wx => OwnR wx w3.heap.size s6 (hardL t v t' v' ++ cutL l l') ∧ Below w3.heap.size w9 wx)
                    case first =>
                      by_cases hk : comK l l' < l.length
                      · have HE : Hid (hardL t v t' v' ++ cutL l l' = hardL t v t' v' ++ [⟨3, 0, 0, (comK l l' : Nat), zeroE⟩]) := by unfold Hid; rw [cutL, if_pos hk]
                        clear hh2
                        generalize comK l l' = K at *
                        have ho7 : Hid (OwnR (w9.alloc (.cells #[.int .i64 3, .int .i64 0, .int .i64 0, .int .i64 (K : Nat), .int .i64 0, .int .i64 0, .int .i64 0, .int .i64 0, .string ⟨#[]⟩, .string ⟨#[]⟩, .string ⟨#[]⟩] 94)) w3.heap.size (.slice a6 (hardL t v t' v').length cap6) (hardL t v t' v')) := HO.out.below ((Below.refl _ _).alloc (Nat.le_refl _) _)
                        go_wp2_with (at_builtin; refine wpl_appendR rfl (.tmp 76) (.tmp 79) rfl ⟨3, 0, 0, (K : Nat), zeroE⟩ ho7.out rfl w9.heap.size 1 (range_new' _ _ _) rfl (by omega) (by simp; omega) ?_; intro v8 w8 ho8 hg8; have hB8 : Below w3.heap.size w9 w8 := ((Below.refl _ _).alloc (by omega) _).trans (growR hg8 ho7.out (by simp; omega)))
                        go_meet
                        exact ⟨by rw [HE.out]; exact ho8, hB8⟩
                      · exact absurd hlt hk
                    case rest =>
                      obtain ⟨ho8, hb8⟩ := hcut
                      have zc8 : w9.heap.size ≤ wc.heap.size := hb8.size
                      replace y2 : w.heap.size < wc.heap.size := by omega
                      replace c20 : wc.cell? ⟨w.heap.size, 0, none⟩ = some (.int .i64 t) := (hb8.cell (p := ⟨w.heap.size, 0, none⟩) (show w.heap.size < w3.heap.size by omega)).trans c20
                      replace c21 : wc.cell? ⟨w.heap.size, 1, none⟩ = some (.int .i64 v) := (hb8.cell (p := ⟨w.heap.size, 1, none⟩) (show w.heap.size < w3.heap.size by omega)).trans c21
                      replace c22 : wc.cell? ⟨w.heap.size, 2, none⟩ = some (.slice (some ⟨b, off, none⟩) l.length cap) := (hb8.cell (p := ⟨w.heap.size, 2, none⟩) (show w.heap.size < w3.heap.size by omega)).trans c22
                      replace y3 : w.heap.size + 1 < wc.heap.size := by omega
                      replace c30 : wc.cell? ⟨w.heap.size + 1, 0, none⟩ = some (.int .i64 t') := (hb8.cell (p := ⟨w.heap.size + 1, 0, none⟩) (show w.heap.size + 1 < w3.heap.size by omega)).trans c30
                      replace c31 : wc.cell? ⟨w.heap.size + 1, 1, none⟩ = some (.int .i64 v') := (hb8.cell (p := ⟨w.heap.size + 1, 1, none⟩) (show w.heap.size + 1 < w3.heap.size by omega)).trans c31
                      replace c32 : wc.cell? ⟨w.heap.size + 1, 2, none⟩ = some (.slice (some ⟨b', off', none⟩) l'.length cap') := (hb8.cell (p := ⟨w.heap.size + 1, 2, none⟩) (show w.heap.size + 1 < w3.heap.size by omega)).trans c32
                      replace y4 : w.heap.size + 1 + 1 < wc.heap.size := by omega
                      replace c40 : wc.cell? ⟨w.heap.size + 1 + 1, 0, none⟩ = some (.int .i64 0) := (hb8.cell (p := ⟨w.heap.size + 1 + 1, 0, none⟩) (show w.heap.size + 1 + 1 < w3.heap.size by omega)).trans c40
                      replace c41 : wc.cell? ⟨w.heap.size + 1 + 1, 1, none⟩ = some (.slice none 0 0) := (hb8.cell (p := ⟨w.heap.size + 1 + 1, 1, none⟩) (show w.heap.size + 1 + 1 < w3.heap.size by omega)).trans c41
                      replace f40 : wc.frozen? ⟨w.heap.size + 1 + 1, 0, none⟩ = false := (hb8.frozen (p := ⟨w.heap.size + 1 + 1, 0, none⟩) (show w.heap.size + 1 + 1 < w3.heap.size by omega)).trans f40
                      replace f41 : wc.frozen? ⟨w.heap.size + 1 + 1, 1, none⟩ = false := (hb8.frozen (p := ⟨w.heap.size + 1 + 1, 1, none⟩) (show w.heap.size + 1 + 1 < w3.heap.size by omega)).trans f41
                      replace HB : Hid (Below w.heap.size w wc) := HB.out.trans (hb8.mono (by omega))
                      have HS8 : Hid (OwnR wc w3.heap.size _ (hardL t v t' v' ++ cutL l l')) := ho8
                      clear ho8 hb8 HO
                      go_wp2
                      go_loopw [6, 8] (fun s6 s8 wr => ∃ (i : Nat) (acc : List Rec), comK l l' ≤ i ∧ i ≤ l'.length ∧ s8 = .int .i64 i ∧ OwnR wr w3.heap.size s6 acc ∧ acc ++ addsL i (l'.drop i) = planAll t v l t' v' l' ∧ acc.length ≤ i + 2 ∧ Below w3.heap.size wc wr) (fun _ i _ => l'.length - (intOf i).toNat)
                      case atStart => exact ⟨comK l l', _, Nat.le_refl _, hcl.2, rfl, HS8.out, rfl, by rw [List.length_append]; omega, Below.refl _ _⟩
                      case round =>
                        obtain ⟨i, acc, h4, h5, rfl, hoR, hacc, hal, hBr⟩ := hrel
                        have HA : Hid (acc ++ addsL i (l'.drop i) = planAll t v l t' v' l') := hacc
                        have zr := hBr.size
                        clear hacc
                        replace y2 : w.heap.size < wr.heap.size := by omega
                        replace c20 : wr.cell? ⟨w.heap.size, 0, none⟩ = some (.int .i64 t) := (hBr.cell (p := ⟨w.heap.size, 0, none⟩) (show w.heap.size < w3.heap.size by omega)).trans c20
                        replace c21 : wr.cell? ⟨w.heap.size, 1, none⟩ = some (.int .i64 v) := (hBr.cell (p := ⟨w.heap.size, 1, none⟩) (show w.heap.size < w3.heap.size by omega)).trans c21
                        replace c22 : wr.cell? ⟨w.heap.size, 2, none⟩ = some (.slice (some ⟨b, off, none⟩) l.length cap) := (hBr.cell (p := ⟨w.heap.size, 2, none⟩) (show w.heap.size < w3.heap.size by omega)).trans c22
                        replace y3 : w.heap.size + 1 < wr.heap.size := by omega
                        replace c30 : wr.cell? ⟨w.heap.size + 1, 0, none⟩ = some (.int .i64 t') := (hBr.cell (p := ⟨w.heap.size + 1, 0, none⟩) (show w.heap.size + 1 < w3.heap.size by omega)).trans c30
                        replace c31 : wr.cell? ⟨w.heap.size + 1, 1, none⟩ = some (.int .i64 v') := (hBr.cell (p := ⟨w.heap.size + 1, 1, none⟩) (show w.heap.size + 1 < w3.heap.size by omega)).trans c31
                        replace c32 : wr.cell? ⟨w.heap.size + 1, 2, none⟩ = some (.slice (some ⟨b', off', none⟩) l'.length cap') := (hBr.cell (p := ⟨w.heap.size + 1, 2, none⟩) (show w.heap.size + 1 < w3.heap.size by omega)).trans c32
                        replace y4 : w.heap.size + 1 + 1 < wr.heap.size := by omega
                        replace c40 : wr.cell? ⟨w.heap.size + 1 + 1, 0, none⟩ = some (.int .i64 0) := (hBr.cell (p := ⟨w.heap.size + 1 + 1, 0, none⟩) (show w.heap.size + 1 + 1 < w3.heap.size by omega)).trans c40
                        replace c41 : wr.cell? ⟨w.heap.size + 1 + 1, 1, none⟩ = some (.slice none 0 0) := (hBr.cell (p := ⟨w.heap.size + 1 + 1, 1, none⟩) (show w.heap.size + 1 + 1 < w3.heap.size by omega)).trans c41
                        replace f40 : wr.frozen? ⟨w.heap.size + 1 + 1, 0, none⟩ = false := (hBr.frozen (p := ⟨w.heap.size + 1 + 1, 0, none⟩) (show w.heap.size + 1 + 1 < w3.heap.size by omega)).trans f40
                        replace f41 : wr.frozen? ⟨w.heap.size + 1 + 1, 1, none⟩ = false := (hBr.frozen (p := ⟨w.heap.size + 1 + 1, 1, none⟩) (show w.heap.size + 1 + 1 < w3.heap.size by omega)).trans f41
                        have HBr : Hid (Below w.heap.size w wr) := HB.out.trans (hBr.mono (by omega))
                        by_cases hlt2 : i < l'.length
                        · have hE := hu.out.below HBr.out
                          obtain ⟨_, hf', a'', cap'', he, hc'⟩ := hE
                          injection he with e1 e2 e3
                          subst e1
                          subst e3
                          obtain ⟨b, off, hab, hj⟩ := hc' i hlt2
                          obtain ⟨d0, d1, d2, d3, d4, d5, d6⟩ := hj i hlt2
                          try subst hab
                          try (injection hab with hab; injection hab with hab1 hab2; subst hab1; subst hab2)
                          have HD : Hid (addsL i (l'.drop i) = ⟨2, 0, 0, (i : Int) + 1, l'[i]⟩ :: addsL (i + 1) (l'.drop (i + 1))) := by unfold Hid; rw [List.drop_eq_getElem_cons hlt2]; simp [addsL]
                          clear hc' hj hf' e2
                          generalize l'[i] = e at *
                          have hB7 : Hid (Below wr.heap.size wr (wr.alloc (.cells #[.int .i64 2, .int .i64 0, .int .i64 0, .int .i64 ((i : Int) + 1), .int .i64 e.t, .int .i64 e.cl, .int .i64 e.sq, .int .i64 e.op, .string e.k, .string e.v, .string e.o] 94))) := (Below.refl _ _).alloc (Nat.le_refl _) _
                          have ho7 : Hid (OwnR (wr.alloc (.cells #[.int .i64 2, .int .i64 0, .int .i64 0, .int .i64 ((i : Int) + 1), .int .i64 e.t, .int .i64 e.cl, .int .i64 e.sq, .int .i64 e.op, .string e.k, .string e.v, .string e.o] 94)) w3.heap.size _ acc) := hoR.below hB7.out
                          go_wp2_with (at_builtin; refine wpl_appendR rfl (.tmp 89) (.tmp 98) rfl ⟨2, 0, 0, (i : Int) + 1, e⟩ ho7.out rfl wr.heap.size 1 (range_new' _ _ _) rfl (by omega) (by simp; omega) ?_; intro v8 w8 ho8 hg8; have hB8 := (hB7.out.mono (show w3.heap.size ≤ wr.heap.size by omega)).trans (growR hg8 ho7.out (by simp; omega)))
                          go_roundw
                          case rel => exact ⟨i + 1, _, by omega, by omega, by go_num, ho8, by rw [List.append_assoc, ← HA.out, HD.out]; rfl, by rw [List.length_append]; simp; omega, hBr.trans hB8⟩
                          case measure => simp [intOf]; omega
                        · have hd : l'.drop i = [] := List.drop_of_length_le (by omega)
                          have hfin : Hid (acc = planAll t v l t' v' l') := by unfold Hid; rw [← HA.out, hd]; simp [addsL]
                          obtain ⟨a9, cap9, rfl⟩ := hoR.shape
                          clear hd HA
                          go_wp2
                          refine bodyPost_ret (v := .agg #[.int .i64 0, .slice a9 acc.length cap9]) (by simp [results, Tryd.results17, go_sem, c40, c41]) rfl ⟨a9, cap9, by rw [← hfin.out], ?_, ?_⟩
                          · rw [← hfin.out]
                            exact ((hoR.setLow (b := w.heap.size + 1 + 1) (by omega) _).setLow (b := w.heap.size + 1 + 1) (by omega) _).le (by omega)
                          · exact (HBr.out.setCell (show w.heap.size ≤ w.heap.size + 1 + 1 by omega) _).setCell (show w.heap.size ≤ w.heap.size + 1 + 1 by omega) _
                  · rw [hq] at hE HS
                    go_wp2
                    go_quiet (fail)
                    go_wp2
                    go_roundw
                    case rel => exact ⟨k + 1, by omega, by omega, by go_num, by rw [HC.out, HS.out]; simp; omega, hBr.trans ⟨rfl, rfl, rfl, Nat.le_refl _, fun _ _ => rfl⟩⟩
                    case measure => simp [intOf]; omega
                · obtain rfl : k = comK l l' := by rw [HC.out, comK_end l l' k (by omega)]; simp
                  go_wp2
                  go_quiet (fail)
                  obtain ⟨w9, hw9⟩ : ∃ x, x = wr.drewN nq := ⟨_, rfl⟩
                  have hb9 : Below wr.heap.size wr w9 := by rw [hw9]; exact ⟨rfl, rfl, rfl, Nat.le_refl _, fun _ _ => rfl⟩
                  have z9 : wr.heap.size ≤ w9.heap.size := hb9.size
                  replace y2 : w.heap.size < w9.heap.size := by omega
                  replace c20 : w9.cell? ⟨w.heap.size, 0, none⟩ = some (.int .i64 t) := (hb9.cell (p := ⟨w.heap.size, 0, none⟩) (show w.heap.size < wr.heap.size by omega)).trans c20
                  replace c21 : w9.cell? ⟨w.heap.size, 1, none⟩ = some (.int .i64 v) := (hb9.cell (p := ⟨w.heap.size, 1, none⟩) (show w.heap.size < wr.heap.size by omega)).trans c21
                  replace c22 : w9.cell? ⟨w.heap.size, 2, none⟩ = some (.slice a l.length cap) := (hb9.cell (p := ⟨w.heap.size, 2, none⟩) (show w.heap.size < wr.heap.size by omega)).trans c22
                  replace y3 : w.heap.size + 1 < w9.heap.size := by omega
                  replace c30 : w9.cell? ⟨w.heap.size + 1, 0, none⟩ = some (.int .i64 t') := (hb9.cell (p := ⟨w.heap.size + 1, 0, none⟩) (show w.heap.size + 1 < wr.heap.size by omega)).trans c30
                  replace c31 : w9.cell? ⟨w.heap.size + 1, 1, none⟩ = some (.int .i64 v') := (hb9.cell (p := ⟨w.heap.size + 1, 1, none⟩) (show w.heap.size + 1 < wr.heap.size by omega)).trans c31
                  replace c32 : w9.cell? ⟨w.heap.size + 1, 2, none⟩ = some (.slice a' l'.length cap') := (hb9.cell (p := ⟨w.heap.size + 1, 2, none⟩) (show w.heap.size + 1 < wr.heap.size by omega)).trans c32
                  replace y4 : w.heap.size + 1 + 1 < w9.heap.size := by omega
                  replace c40 : w9.cell? ⟨w.heap.size + 1 + 1, 0, none⟩ = some (.int .i64 0) := (hb9.cell (p := ⟨w.heap.size + 1 + 1, 0, none⟩) (show w.heap.size + 1 + 1 < wr.heap.size by omega)).trans c40
                  replace c41 : w9.cell? ⟨w.heap.size + 1 + 1, 1, none⟩ = some (.slice none 0 0) := (hb9.cell (p := ⟨w.heap.size + 1 + 1, 1, none⟩) (show w.heap.size + 1 + 1 < wr.heap.size by omega)).trans c41
                  replace f40 : w9.frozen? ⟨w.heap.size + 1 + 1, 0, none⟩ = false := (hb9.frozen (p := ⟨w.heap.size + 1 + 1, 0, none⟩) (show w.heap.size + 1 + 1 < wr.heap.size by omega)).trans f40
                  replace f41 : w9.frozen? ⟨w.heap.size + 1 + 1, 1, none⟩ = false := (hb9.frozen (p := ⟨w.heap.size + 1 + 1, 1, none⟩) (show w.heap.size + 1 + 1 < wr.heap.size by omega)).trans f41
                  replace HB : Hid (Below w.heap.size w w9) := HB.out.trans (hb9.mono (by omega))
                  replace HO : Hid (OwnR w9 w3.heap.size (.slice a6 (hardL t v t' v').length cap6) (hardL t v t' v')) := HO.out.below hb9
                  rw [← hw9]
                  clear hb9 hw9 hBr
                  clear HC
                  go_upto_if 75 with fail
                  go_cut [6] (fun s6 wx => OwnR wx w3.heap.size s6 (hardL t v t' v' ++ cutL l l') ∧ Below w3.heap.size w9 wx)
                  case first =>
                    by_cases hk : comK l l' < l.length
                    · have HE : Hid (hardL t v t' v' ++ cutL l l' = hardL t v t' v' ++ [⟨3, 0, 0, (comK l l' : Nat), zeroE⟩]) := by unfold Hid; rw [cutL, if_pos hk]
                      clear hh2
                      generalize comK l l' = K at *
                      have ho7 : Hid (OwnR (w9.alloc (.cells #[.int .i64 3, .int .i64 0, .int .i64 0, .int .i64 (K : Nat), .int .i64 0, .int .i64 0, .int .i64 0, .int .i64 0, .string ⟨#[]⟩, .string ⟨#[]⟩, .string ⟨#[]⟩] 94)) w3.heap.size (.slice a6 (hardL t v t' v').length cap6) (hardL t v t' v')) := HO.out.below ((Below.refl _ _).alloc (Nat.le_refl _) _)
                      go_wp2_with (at_builtin; refine wpl_appendR rfl (.tmp 76) (.tmp 79) rfl ⟨3, 0, 0, (K : Nat), zeroE⟩ ho7.out rfl w9.heap.size 1 (range_new' _ _ _) rfl (by omega) (by simp; omega) ?_; intro v8 w8 ho8 hg8; have hB8 : Below w3.heap.size w9 w8 := ((Below.refl _ _).alloc (by omega) _).trans (growR hg8 ho7.out (by simp; omega)))
                      go_meet
                      exact ⟨by rw [HE.out]; exact ho8, hB8⟩
                    · exact absurd hlt hk
                  case rest =>
                    obtain ⟨ho8, hb8⟩ := hcut
                    have zc8 : w9.heap.size ≤ wc.heap.size := hb8.size
                    replace y2 : w.heap.size < wc.heap.size := by omega
                    replace c20 : wc.cell? ⟨w.heap.size, 0, none⟩ = some (.int .i64 t) := (hb8.cell (p := ⟨w.heap.size, 0, none⟩) (show w.heap.size < w3.heap.size by omega)).trans c20
                    replace c21 : wc.cell? ⟨w.heap.size, 1, none⟩ = some (.int .i64 v) := (hb8.cell (p := ⟨w.heap.size, 1, none⟩) (show w.heap.size < w3.heap.size by omega)).trans c21
                    replace c22 : wc.cell? ⟨w.heap.size, 2, none⟩ = some (.slice a l.length cap) := (hb8.cell (p := ⟨w.heap.size, 2, none⟩) (show w.heap.size < w3.heap.size by omega)).trans c22
                    replace y3 : w.heap.size + 1 < wc.heap.size := by omega
                    replace c30 : wc.cell? ⟨w.heap.size + 1, 0, none⟩ = some (.int .i64 t') := (hb8.cell (p := ⟨w.heap.size + 1, 0, none⟩) (show w.heap.size + 1 < w3.heap.size by omega)).trans c30
                    replace c31 : wc.cell? ⟨w.heap.size + 1, 1, none⟩ = some (.int .i64 v') := (hb8.cell (p := ⟨w.heap.size + 1, 1, none⟩) (show w.heap.size + 1 < w3.heap.size by omega)).trans c31
                    replace c32 : wc.cell? ⟨w.heap.size + 1, 2, none⟩ = some (.slice a' l'.length cap') := (hb8.cell (p := ⟨w.heap.size + 1, 2, none⟩) (show w.heap.size + 1 < w3.heap.size by omega)).trans c32
                    replace y4 : w.heap.size + 1 + 1 < wc.heap.size := by omega
                    replace c40 : wc.cell? ⟨w.heap.size + 1 + 1, 0, none⟩ = some (.int .i64 0) := (hb8.cell (p := ⟨w.heap.size + 1 + 1, 0, none⟩) (show w.heap.size + 1 + 1 < w3.heap.size by omega)).trans c40
                    replace c41 : wc.cell? ⟨w.heap.size + 1 + 1, 1, none⟩ = some (.slice none 0 0) := (hb8.cell (p := ⟨w.heap.size + 1 + 1, 1, none⟩) (show w.heap.size + 1 + 1 < w3.heap.size by omega)).trans c41
                    replace f40 : wc.frozen? ⟨w.heap.size + 1 + 1, 0, none⟩ = false := (hb8.frozen (p := ⟨w.heap.size + 1 + 1, 0, none⟩) (show w.heap.size + 1 + 1 < w3.heap.size by omega)).trans f40
                    replace f41 : wc.frozen? ⟨w.heap.size + 1 + 1, 1, none⟩ = false := (hb8.frozen (p := ⟨w.heap.size + 1 + 1, 1, none⟩) (show w.heap.size + 1 + 1 < w3.heap.size by omega)).trans f41
                    replace HB : Hid (Below w.heap.size w wc) := HB.out.trans (hb8.mono (by omega))
                    have HS8 : Hid (OwnR wc w3.heap.size _ (hardL t v t' v' ++ cutL l l')) := ho8
                    clear ho8 hb8 HO
                    go_wp2
                    go_loopw [6, 8] (fun s6 s8 wr => ∃ (i : Nat) (acc : List Rec), comK l l' ≤ i ∧ i ≤ l'.length ∧ s8 = .int .i64 i ∧ OwnR wr w3.heap.size s6 acc ∧ acc ++ addsL i (l'.drop i) = planAll t v l t' v' l' ∧ acc.length ≤ i + 2 ∧ Below w3.heap.size wc wr) (fun _ i _ => l'.length - (intOf i).toNat)
                    case atStart => exact ⟨comK l l', _, Nat.le_refl _, hcl.2, rfl, HS8.out, rfl, by rw [List.length_append]; omega, Below.refl _ _⟩
                    case round =>
                      obtain ⟨i, acc, h4, h5, rfl, hoR, hacc, hal, hBr⟩ := hrel
                      have HA : Hid (acc ++ addsL i (l'.drop i) = planAll t v l t' v' l') := hacc
                      have zr := hBr.size
                      clear hacc
                      replace y2 : w.heap.size < wr.heap.size := by omega
                      replace c20 : wr.cell? ⟨w.heap.size, 0, none⟩ = some (.int .i64 t) := (hBr.cell (p := ⟨w.heap.size, 0, none⟩) (show w.heap.size < w3.heap.size by omega)).trans c20
                      replace c21 : wr.cell? ⟨w.heap.size, 1, none⟩ = some (.int .i64 v) := (hBr.cell (p := ⟨w.heap.size, 1, none⟩) (show w.heap.size < w3.heap.size by omega)).trans c21
                      replace c22 : wr.cell? ⟨w.heap.size, 2, none⟩ = some (.slice a l.length cap) := (hBr.cell (p := ⟨w.heap.size, 2, none⟩) (show w.heap.size < w3.heap.size by omega)).trans c22
                      replace y3 : w.heap.size + 1 < wr.heap.size := by omega
                      replace c30 : wr.cell? ⟨w.heap.size + 1, 0, none⟩ = some (.int .i64 t') := (hBr.cell (p := ⟨w.heap.size + 1, 0, none⟩) (show w.heap.size + 1 < w3.heap.size by omega)).trans c30
                      replace c31 : wr.cell? ⟨w.heap.size + 1, 1, none⟩ = some (.int .i64 v') := (hBr.cell (p := ⟨w.heap.size + 1, 1, none⟩) (show w.heap.size + 1 < w3.heap.size by omega)).trans c31
                      replace c32 : wr.cell? ⟨w.heap.size + 1, 2, none⟩ = some (.slice a' l'.length cap') := (hBr.cell (p := ⟨w.heap.size + 1, 2, none⟩) (show w.heap.size + 1 < w3.heap.size by omega)).trans c32
                      replace y4 : w.heap.size + 1 + 1 < wr.heap.size := by omega
                      replace c40 : wr.cell? ⟨w.heap.size + 1 + 1, 0, none⟩ = some (.int .i64 0) := (hBr.cell (p := ⟨w.heap.size + 1 + 1, 0, none⟩) (show w.heap.size + 1 + 1 < w3.heap.size by omega)).trans c40
                      replace c41 : wr.cell? ⟨w.heap.size + 1 + 1, 1, none⟩ = some (.slice none 0 0) := (hBr.cell (p := ⟨w.heap.size + 1 + 1, 1, none⟩) (show w.heap.size + 1 + 1 < w3.heap.size by omega)).trans c41
                      replace f40 : wr.frozen? ⟨w.heap.size + 1 + 1, 0, none⟩ = false := (hBr.frozen (p := ⟨w.heap.size + 1 + 1, 0, none⟩) (show w.heap.size + 1 + 1 < w3.heap.size by omega)).trans f40
                      replace f41 : wr.frozen? ⟨w.heap.size + 1 + 1, 1, none⟩ = false := (hBr.frozen (p := ⟨w.heap.size + 1 + 1, 1, none⟩) (show w.heap.size + 1 + 1 < w3.heap.size by omega)).trans f41
                      have HBr : Hid (Below w.heap.size w wr) := HB.out.trans (hBr.mono (by omega))
                      by_cases hlt2 : i < l'.length
                      · exact absurd hlt2 (by omega)
                      · have hd : l'.drop i = [] := List.drop_of_length_le (by omega)
                        have hfin : Hid (acc = planAll t v l t' v' l') := by unfold Hid; rw [← HA.out, hd]; simp [addsL]
                        obtain ⟨a9, cap9, rfl⟩ := hoR.shape
                        clear hd HA
                        go_wp2
                        refine bodyPost_ret (v := .agg #[.int .i64 0, .slice a9 acc.length cap9]) (by simp [results, Tryd.results17, go_sem, c40, c41]) rfl ⟨a9, cap9, by rw [← hfin.out], ?_, ?_⟩
                        · rw [← hfin.out]
                          exact ((hoR.setLow (b := w.heap.size + 1 + 1) (by omega) _).setLow (b := w.heap.size + 1 + 1) (by omega) _).le (by omega)
                        · exact (HBr.out.setCell (show w.heap.size ≤ w.heap.size + 1 + 1 by omega) _).setCell (show w.heap.size ≤ w.heap.size + 1 + 1 by omega) _
              · obtain rfl : k = comK l l' := by rw [HC.out, comK_end l l' k (by omega)]; simp
                go_wp2
                go_quiet (fail)
                obtain ⟨w9, hw9⟩ : ∃ x, x = wr.drewN nq := ⟨_, rfl⟩
                have hb9 : Below wr.heap.size wr w9 := by rw [hw9]; exact ⟨rfl, rfl, rfl, Nat.le_refl _, fun _ _ => rfl⟩
                have z9 : wr.heap.size ≤ w9.heap.size := hb9.size
                replace y2 : w.heap.size < w9.heap.size := by omega
                replace c20 : w9.cell? ⟨w.heap.size, 0, none⟩ = some (.int .i64 t) := (hb9.cell (p := ⟨w.heap.size, 0, none⟩) (show w.heap.size < wr.heap.size by omega)).trans c20
                replace c21 : w9.cell? ⟨w.heap.size, 1, none⟩ = some (.int .i64 v) := (hb9.cell (p := ⟨w.heap.size, 1, none⟩) (show w.heap.size < wr.heap.size by omega)).trans c21
                replace c22 : w9.cell? ⟨w.heap.size, 2, none⟩ = some (.slice a l.length cap) := (hb9.cell (p := ⟨w.heap.size, 2, none⟩) (show w.heap.size < wr.heap.size by omega)).trans c22
                replace y3 : w.heap.size + 1 < w9.heap.size := by omega
                replace c30 : w9.cell? ⟨w.heap.size + 1, 0, none⟩ = some (.int .i64 t') := (hb9.cell (p := ⟨w.heap.size + 1, 0, none⟩) (show w.heap.size + 1 < wr.heap.size by omega)).trans c30
                replace c31 : w9.cell? ⟨w.heap.size + 1, 1, none⟩ = some (.int .i64 v') := (hb9.cell (p := ⟨w.heap.size + 1, 1, none⟩) (show w.heap.size + 1 < wr.heap.size by omega)).trans c31
                replace c32 : w9.cell? ⟨w.heap.size + 1, 2, none⟩ = some (.slice a' l'.length cap') := (hb9.cell (p := ⟨w.heap.size + 1, 2, none⟩) (show w.heap.size + 1 < wr.heap.size by omega)).trans c32
                replace y4 : w.heap.size + 1 + 1 < w9.heap.size := by omega
                replace c40 : w9.cell? ⟨w.heap.size + 1 + 1, 0, none⟩ = some (.int .i64 0) := (hb9.cell (p := ⟨w.heap.size + 1 + 1, 0, none⟩) (show w.heap.size + 1 + 1 < wr.heap.size by omega)).trans c40
                replace c41 : w9.cell? ⟨w.heap.size + 1 + 1, 1, none⟩ = some (.slice none 0 0) := (hb9.cell (p := ⟨w.heap.size + 1 + 1, 1, none⟩) (show w.heap.size + 1 + 1 < wr.heap.size by omega)).trans c41
                replace f40 : w9.frozen? ⟨w.heap.size + 1 + 1, 0, none⟩ = false := (hb9.frozen (p := ⟨w.heap.size + 1 + 1, 0, none⟩) (show w.heap.size + 1 + 1 < wr.heap.size by omega)).trans f40
                replace f41 : w9.frozen? ⟨w.heap.size + 1 + 1, 1, none⟩ = false := (hb9.frozen (p := ⟨w.heap.size + 1 + 1, 1, none⟩) (show w.heap.size + 1 + 1 < wr.heap.size by omega)).trans f41
                replace HB : Hid (Below w.heap.size w w9) := HB.out.trans (hb9.mono (by omega))
                replace HO : Hid (OwnR w9 w3.heap.size (.slice a6 (hardL t v t' v').length cap6) (hardL t v t' v')) := HO.out.below hb9
                rw [← hw9]
                clear hb9 hw9 hBr
                clear HC
                go_upto_if 75 with fail
                go_cut [6] (fun s6 wx => OwnR wx w3.heap.size s6 (hardL t v t' v' ++ cutL l l') ∧ Below w3.heap.size w9 wx)
                case first =>
                  by_cases hk : comK l l' < l.length
                  · exact absurd hk hlt
                  · have HE : Hid (hardL t v t' v' ++ cutL l l' = hardL t v t' v') := by unfold Hid; rw [cutL, if_neg hk, List.append_nil]
                    clear hh2
                    go_wp2_with fail
                    go_meet
                    exact ⟨by rw [HE.out]; exact HO.out, Below.refl _ _⟩
                case rest =>
                  obtain ⟨ho8, hb8⟩ := hcut
                  have zc8 : w9.heap.size ≤ wc.heap.size := hb8.size
                  replace y2 : w.heap.size < wc.heap.size := by omega
                  replace c20 : wc.cell? ⟨w.heap.size, 0, none⟩ = some (.int .i64 t) := (hb8.cell (p := ⟨w.heap.size, 0, none⟩) (show w.heap.size < w3.heap.size by omega)).trans c20
                  replace c21 : wc.cell? ⟨w.heap.size, 1, none⟩ = some (.int .i64 v) := (hb8.cell (p := ⟨w.heap.size, 1, none⟩) (show w.heap.size < w3.heap.size by omega)).trans c21
                  replace c22 : wc.cell? ⟨w.heap.size, 2, none⟩ = some (.slice a l.length cap) := (hb8.cell (p := ⟨w.heap.size, 2, none⟩) (show w.heap.size < w3.heap.size by omega)).trans c22
                  replace y3 : w.heap.size + 1 < wc.heap.size := by omega
                  replace c30 : wc.cell? ⟨w.heap.size + 1, 0, none⟩ = some (.int .i64 t') := (hb8.cell (p := ⟨w.heap.size + 1, 0, none⟩) (show w.heap.size + 1 < w3.heap.size by omega)).trans c30
                  replace c31 : wc.cell? ⟨w.heap.size + 1, 1, none⟩ = some (.int .i64 v') := (hb8.cell (p := ⟨w.heap.size + 1, 1, none⟩) (show w.heap.size + 1 < w3.heap.size by omega)).trans c31
                  replace c32 : wc.cell? ⟨w.heap.size + 1, 2, none⟩ = some (.slice a' l'.length cap') := (hb8.cell (p := ⟨w.heap.size + 1, 2, none⟩) (show w.heap.size + 1 < w3.heap.size by omega)).trans c32
                  replace y4 : w.heap.size + 1 + 1 < wc.heap.size := by omega
                  replace c40 : wc.cell? ⟨w.heap.size + 1 + 1, 0, none⟩ = some (.int .i64 0) := (hb8.cell (p := ⟨w.heap.size + 1 + 1, 0, none⟩) (show w.heap.size + 1 + 1 < w3.heap.size by omega)).trans c40
                  replace c41 : wc.cell? ⟨w.heap.size + 1 + 1, 1, none⟩ = some (.slice none 0 0) := (hb8.cell (p := ⟨w.heap.size + 1 + 1, 1, none⟩) (show w.heap.size + 1 + 1 < w3.heap.size by omega)).trans c41
                  replace f40 : wc.frozen? ⟨w.heap.size + 1 + 1, 0, none⟩ = false := (hb8.frozen (p := ⟨w.heap.size + 1 + 1, 0, none⟩) (show w.heap.size + 1 + 1 < w3.heap.size by omega)).trans f40
                  replace f41 : wc.frozen? ⟨w.heap.size + 1 + 1, 1, none⟩ = false := (hb8.frozen (p := ⟨w.heap.size + 1 + 1, 1, none⟩) (show w.heap.size + 1 + 1 < w3.heap.size by omega)).trans f41
                  replace HB : Hid (Below w.heap.size w wc) := HB.out.trans (hb8.mono (by omega))
                  have HS8 : Hid (OwnR wc w3.heap.size _ (hardL t v t' v' ++ cutL l l')) := ho8
                  clear ho8 hb8 HO
                  go_wp2
                  go_loopw [6, 8] (fun s6 s8 wr => ∃ (i : Nat) (acc : List Rec), comK l l' ≤ i ∧ i ≤ l'.length ∧ s8 = .int .i64 i ∧ OwnR wr w3.heap.size s6 acc ∧ acc ++ addsL i (l'.drop i) = planAll t v l t' v' l' ∧ acc.length ≤ i + 2 ∧ Below w3.heap.size wc wr) (fun _ i _ => l'.length - (intOf i).toNat)
                  case atStart => exact ⟨comK l l', _, Nat.le_refl _, hcl.2, rfl, HS8.out, rfl, by rw [List.length_append]; omega, Below.refl _ _⟩
                  case round =>
                    obtain ⟨i, acc, h4, h5, rfl, hoR, hacc, hal, hBr⟩ := hrel
                    have HA : Hid (acc ++ addsL i (l'.drop i) = planAll t v l t' v' l') := hacc
                    have zr := hBr.size
                    clear hacc
                    replace y2 : w.heap.size < wr.heap.size := by omega
                    replace c20 : wr.cell? ⟨w.heap.size, 0, none⟩ = some (.int .i64 t) := (hBr.cell (p := ⟨w.heap.size, 0, none⟩) (show w.heap.size < w3.heap.size by omega)).trans c20
                    replace c21 : wr.cell? ⟨w.heap.size, 1, none⟩ = some (.int .i64 v) := (hBr.cell (p := ⟨w.heap.size, 1, none⟩) (show w.heap.size < w3.heap.size by omega)).trans c21
                    replace c22 : wr.cell? ⟨w.heap.size, 2, none⟩ = some (.slice a l.length cap) := (hBr.cell (p := ⟨w.heap.size, 2, none⟩) (show w.heap.size < w3.heap.size by omega)).trans c22
                    replace y3 : w.heap.size + 1 < wr.heap.size := by omega
                    replace c30 : wr.cell? ⟨w.heap.size + 1, 0, none⟩ = some (.int .i64 t') := (hBr.cell (p := ⟨w.heap.size + 1, 0, none⟩) (show w.heap.size + 1 < w3.heap.size by omega)).trans c30
                    replace c31 : wr.cell? ⟨w.heap.size + 1, 1, none⟩ = some (.int .i64 v') := (hBr.cell (p := ⟨w.heap.size + 1, 1, none⟩) (show w.heap.size + 1 < w3.heap.size by omega)).trans c31
                    replace c32 : wr.cell? ⟨w.heap.size + 1, 2, none⟩ = some (.slice a' l'.length cap') := (hBr.cell (p := ⟨w.heap.size + 1, 2, none⟩) (show w.heap.size + 1 < w3.heap.size by omega)).trans c32
                    replace y4 : w.heap.size + 1 + 1 < wr.heap.size := by omega
                    replace c40 : wr.cell? ⟨w.heap.size + 1 + 1, 0, none⟩ = some (.int .i64 0) := (hBr.cell (p := ⟨w.heap.size + 1 + 1, 0, none⟩) (show w.heap.size + 1 + 1 < w3.heap.size by omega)).trans c40
                    replace c41 : wr.cell? ⟨w.heap.size + 1 + 1, 1, none⟩ = some (.slice none 0 0) := (hBr.cell (p := ⟨w.heap.size + 1 + 1, 1, none⟩) (show w.heap.size + 1 + 1 < w3.heap.size by omega)).trans c41
                    replace f40 : wr.frozen? ⟨w.heap.size + 1 + 1, 0, none⟩ = false := (hBr.frozen (p := ⟨w.heap.size + 1 + 1, 0, none⟩) (show w.heap.size + 1 + 1 < w3.heap.size by omega)).trans f40
                    replace f41 : wr.frozen? ⟨w.heap.size + 1 + 1, 1, none⟩ = false := (hBr.frozen (p := ⟨w.heap.size + 1 + 1, 1, none⟩) (show w.heap.size + 1 + 1 < w3.heap.size by omega)).trans f41
                    have HBr : Hid (Below w.heap.size w wr) := HB.out.trans (hBr.mono (by omega))
                    by_cases hlt2 : i < l'.length
                    · have hE := hu.out.below HBr.out
                      obtain ⟨_, hf', a'', cap'', he, hc'⟩ := hE
                      injection he with e1 e2 e3
                      subst e1
                      subst e3
                      obtain ⟨b, off, hab, hj⟩ := hc' i hlt2
                      obtain ⟨d0, d1, d2, d3, d4, d5, d6⟩ := hj i hlt2
                      try subst hab
                      try (injection hab with hab; injection hab with hab1 hab2; subst hab1; subst hab2)
                      have HD : Hid (addsL i (l'.drop i) = ⟨2, 0, 0, (i : Int) + 1, l'[i]⟩ :: addsL (i + 1) (l'.drop (i + 1))) := by unfold Hid; rw [List.drop_eq_getElem_cons hlt2]; simp [addsL]
                      clear hc' hj hf' e2
                      generalize l'[i] = e at *
                      have hB7 : Hid (Below wr.heap.size wr (wr.alloc (.cells #[.int .i64 2, .int .i64 0, .int .i64 0, .int .i64 ((i : Int) + 1), .int .i64 e.t, .int .i64 e.cl, .int .i64 e.sq, .int .i64 e.op, .string e.k, .string e.v, .string e.o] 94))) := (Below.refl _ _).alloc (Nat.le_refl _) _
                      have ho7 : Hid (OwnR (wr.alloc (.cells #[.int .i64 2, .int .i64 0, .int .i64 0, .int .i64 ((i : Int) + 1), .int .i64 e.t, .int .i64 e.cl, .int .i64 e.sq, .int .i64 e.op, .string e.k, .string e.v, .string e.o] 94)) w3.heap.size _ acc) := hoR.below hB7.out
                      go_wp2_with (at_builtin; refine wpl_appendR rfl (.tmp 89) (.tmp 98) rfl ⟨2, 0, 0, (i : Int) + 1, e⟩ ho7.out rfl wr.heap.size 1 (range_new' _ _ _) rfl (by omega) (by simp; omega) ?_; intro v8 w8 ho8 hg8; have hB8 := (hB7.out.mono (show w3.heap.size ≤ wr.heap.size by omega)).trans (growR hg8 ho7.out (by simp; omega)))
                      go_roundw
                      case rel => exact ⟨i + 1, _, by omega, by omega, by go_num, ho8, by rw [List.append_assoc, ← HA.out, HD.out]; rfl, by rw [List.length_append]; simp; omega, hBr.trans hB8⟩
                      case measure => simp [intOf]; omega
                    · have hd : l'.drop i = [] := List.drop_of_length_le (by omega)
                      have hfin : Hid (acc = planAll t v l t' v' l') := by unfold Hid; rw [← HA.out, hd]; simp [addsL]
                      obtain ⟨a9, cap9, rfl⟩ := hoR.shape
                      clear hd HA
                      go_wp2
                      refine bodyPost_ret (v := .agg #[.int .i64 0, .slice a9 acc.length cap9]) (by simp [results, Tryd.results17, go_sem, c40, c41]) rfl ⟨a9, cap9, by rw [← hfin.out], ?_, ?_⟩
                      · rw [← hfin.out]
                        exact ((hoR.setLow (b := w.heap.size + 1 + 1) (by omega) _).setLow (b := w.heap.size + 1 + 1) (by omega) _).le (by omega)
                      · exact (HBr.out.setCell (show w.heap.size ≤ w.heap.size + 1 + 1 by omega) _).setCell (show w.heap.size ≤ w.heap.size + 1 + 1 by omega) _
end Go.Proofs.YtjoflnnomebkpaaDoor
