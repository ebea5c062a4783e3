/-
  impl.PlanRecords.
-/
import Derived.Test.YtjoflnnomebkpaaDoorPlanFrom
import Derived.Test.YtjoflnnomebkpaaDoorRegInv
namespace Go.Proofs.YtjoflnnomebkpaaDoor
open Go.RowKit
set_option linter.unusedVariables false
set_option linter.unusedSimpArgs false

theorem sizeSt : (Tryd.prog.info? 39).map (·.size) = some 3 := by kernel_rfl
theorem sizePA : (Tryd.prog.info? 43).map (·.size) = some 2 := by kernel_rfl
set_option maxHeartbeats 8000000 in
set_option maxRecDepth 100000 in
theorem planRecords_any (t v : Int) (a : Option Addr) (cap : Nat) (l : List Ent) (t' v' : Int) (a' : Option Addr) (cap' : Nat) (l' : List Ent) (w : World)
    (hv : Hid (Es w (.slice a l.length cap) l)) (hu : Hid (Es w (.slice a' l'.length cap') l')) (hll : l.length ≤ 1048576) (hll' : l'.length ≤ 1048576) :
    Calls Tryd.prog 18 #[.agg #[.int .i64 t, .int .i64 v, .slice a l.length cap], .agg #[.int .i64 t', .int .i64 v', .slice a' l'.length cap']] w fun x w' => PlanAt w w' x (planC t v l t' v' l') (planL t v l t' v' l') := by
  have hb0 : Hid (Below w.heap.size w (((w.alloc (.cells #[.int .i64 t, .int .i64 v, .slice a l.length cap] 39)).alloc (.cells #[.int .i64 t', .int .i64 v', .slice a' l'.length cap'] 39)).alloc (.cells #[.int .i64 0, .slice none 0 0] 43))) := (((Below.refl _ _).alloc (Nat.le_refl _) _).alloc (by simp) _).alloc (by simp <;> omega) _
  have g1 : True := trivial
  have g2 : True := trivial
  cases h1 : stB t v l
  · skip
    have e1 : planC t v l t' v' l' = 1 := by simp [planC, h1]
    have e2 : planL t v l t' v' l' = [] := by simp [planL, e1]
    rw [e1, e2]
    clear e1 e2
    go_enter Tryd.func18, Tryd.ntmps18
    go_wp2_with (first
      | (go_at_call 58; clear g1; refine (stableFits_any t v _ l _ (hv.out.below hb0.out) hll).mono ?_; rintro e w1 ⟨rfl, hb1⟩; rw [h1]; have hz1 : w.heap.size + 2 < w1.heap.size := (by have := hb1.size; simp at this; omega); have BA := (((Blk.new w _ _).alloc _).alloc _).below hb1 (by simp <;> omega); have BU := ((Blk.new' (w.alloc _) _ _ (k := w.heap.size + 1) (by simp)).alloc _).below hb1 (by simp <;> omega); have BR := (Blk.new' ((w.alloc _).alloc _) _ _ (k := w.heap.size + 1 + 1) (by simp)).below hb1 (by simp); have HB : Hid (Below w.heap.size w w1) := hb0.out.trans (hb1.mono (by simp <;> omega)); have cA := BA.cell; have cU := BU.cell; have cR := BR.cell; have fR := BR.free; clear hb1)
      | (have hBR := BR; refine gate_st 43 (.tmp 4) _ rfl ?_; clear hBR; refine wpl_store_blk rfl 43 (.tmp 4) _ rfl (w.heap.size + 1 + 1) rfl rfl BR sizePA rfl rfl (by simp [Value.oneCell']) ?_))
    exact bodyPost_ret (v := .agg #[.int .i64 1, .slice none 0 0]) (results_blk Tryd.results18 rfl (BR.row _) Tryd.underlying43 rfl sizePA rfl) rfl ⟨_, _, rfl, OwnR.nil _ _, below_row HB.out (by omega) _⟩
  cases h2 : stB t' v' l'
  · skip
    have e1 : planC t v l t' v' l' = 2 := by simp [planC, h1, h2]
    have e2 : planL t v l t' v' l' = [] := by simp [planL, e1]
    rw [e1, e2]
    clear e1 e2
    go_enter Tryd.func18, Tryd.ntmps18
    go_wp2_with (first
      | (go_at_call 58; clear g1; refine (stableFits_any t v _ l _ (hv.out.below hb0.out) hll).mono ?_; rintro e w1 ⟨rfl, hb1⟩; rw [h1]; have hz1 : w.heap.size + 2 < w1.heap.size := (by have := hb1.size; simp at this; omega); have BA := (((Blk.new w _ _).alloc _).alloc _).below hb1 (by simp <;> omega); have BU := ((Blk.new' (w.alloc _) _ _ (k := w.heap.size + 1) (by simp)).alloc _).below hb1 (by simp <;> omega); have BR := (Blk.new' ((w.alloc _).alloc _) _ _ (k := w.heap.size + 1 + 1) (by simp)).below hb1 (by simp); have HB : Hid (Below w.heap.size w w1) := hb0.out.trans (hb1.mono (by simp <;> omega)); have cA := BA.cell; have cU := BU.cell; have cR := BR.cell; have fR := BR.free; clear hb1)
      | (go_at_call 58; refine (stableFits_any t' v' _ l' _ (hu.out.below HB.out) hll').mono ?_; rintro e w2 ⟨rfl, hb2⟩; rw [h2]; have hz2 : w.heap.size + 2 < w2.heap.size := (by have := hb2.size; omega); replace BA := BA.below hb2 (by omega); replace BU := BU.below hb2 (by omega); replace BR := BR.below hb2 (by omega); replace HB : Hid (Below w.heap.size w w2) := HB.out.trans (hb2.mono (by omega)); clear cA cU cR fR; have cA := BA.cell; have cU := BU.cell; have cR := BR.cell; have fR := BR.free; clear hb2)
      | (have hBR := BR; refine gate_st 43 (.tmp 4) _ rfl ?_; clear hBR; refine wpl_store_blk rfl 43 (.tmp 4) _ rfl (w.heap.size + 1 + 1) rfl rfl BR sizePA rfl rfl (by simp [Value.oneCell']) ?_))
    exact bodyPost_ret (v := .agg #[.int .i64 2, .slice none 0 0]) (results_blk Tryd.results18 rfl (BR.row _) Tryd.underlying43 rfl sizePA rfl) rfl ⟨_, _, rfl, OwnR.nil _ _, below_row HB.out (by omega) _⟩
  cases h3 : folB t v t' v'
  · skip
    have e1 : planC t v l t' v' l' = 3 := by simp [planC, h1, h2, h3]
    have e2 : planL t v l t' v' l' = [] := by simp [planL, e1]
    rw [e1, e2]
    clear e1 e2
    go_enter Tryd.func18, Tryd.ntmps18
    go_wp2_with (first
      | (go_at_call 58; clear g1; refine (stableFits_any t v _ l _ (hv.out.below hb0.out) hll).mono ?_; rintro e w1 ⟨rfl, hb1⟩; rw [h1]; have hz1 : w.heap.size + 2 < w1.heap.size := (by have := hb1.size; simp at this; omega); have BA := (((Blk.new w _ _).alloc _).alloc _).below hb1 (by simp <;> omega); have BU := ((Blk.new' (w.alloc _) _ _ (k := w.heap.size + 1) (by simp)).alloc _).below hb1 (by simp <;> omega); have BR := (Blk.new' ((w.alloc _).alloc _) _ _ (k := w.heap.size + 1 + 1) (by simp)).below hb1 (by simp); have HB : Hid (Below w.heap.size w w1) := hb0.out.trans (hb1.mono (by simp <;> omega)); have cA := BA.cell; have cU := BU.cell; have cR := BR.cell; have fR := BR.free; clear hb1)
      | (go_at_call 58; refine (stableFits_any t' v' _ l' _ (hu.out.below HB.out) hll').mono ?_; rintro e w2 ⟨rfl, hb2⟩; rw [h2]; have hz2 : w.heap.size + 2 < w2.heap.size := (by have := hb2.size; omega); replace BA := BA.below hb2 (by omega); replace BU := BU.below hb2 (by omega); replace BR := BR.below hb2 (by omega); replace HB : Hid (Below w.heap.size w w2) := HB.out.trans (hb2.mono (by omega)); clear cA cU cR fR; have cA := BA.cell; have cU := BU.cell; have cR := BR.cell; have fR := BR.free; clear hb2)
      | (go_at_call 59; refine (follows_any t v t' v' _ _ _ _).mono ?_; rintro e w3 ⟨rfl, hb3⟩; rw [h3]; have hz3 : w.heap.size + 2 < w3.heap.size := (by have := hb3.size; omega); replace BA := BA.below hb3 (by omega); replace BU := BU.below hb3 (by omega); replace BR := BR.below hb3 (by omega); replace HB : Hid (Below w.heap.size w w3) := HB.out.trans (hb3.mono (by omega)); clear cA cU cR fR; have cA := BA.cell; have cU := BU.cell; have cR := BR.cell; have fR := BR.free; clear hb3)
      | (have hBR := BR; refine gate_st 43 (.tmp 4) _ rfl ?_; clear hBR; refine wpl_store_blk rfl 43 (.tmp 4) _ rfl (w.heap.size + 1 + 1) rfl rfl BR sizePA rfl rfl (by simp [Value.oneCell']) ?_))
    exact bodyPost_ret (v := .agg #[.int .i64 3, .slice none 0 0]) (results_blk Tryd.results18 rfl (BR.row _) Tryd.underlying43 rfl sizePA rfl) rfl ⟨_, _, rfl, OwnR.nil _ _, below_row HB.out (by omega) _⟩
  have e1 : planC t v l t' v' l' = 0 := by simp [planC, h1, h2, h3]
  have e2 : planL t v l t' v' l' = planK t v l t' v' l' (comK l l') := by simp [planL, e1, planK_com]
  rw [e1, e2]
  clear e1 e2
  have hs1 := stB_len h1
  have hs2 := stB_len h2
  have hcl := comK_le l l'
  go_enter Tryd.func18, Tryd.ntmps18
  go_wp2_with (first
    | (go_at_call 58; clear g1; refine (stableFits_any t v _ l _ (hv.out.below hb0.out) hll).mono ?_; rintro e w1 ⟨rfl, hb1⟩; rw [h1]; have hz1 : w.heap.size + 2 < w1.heap.size := (by have := hb1.size; simp at this; omega); have BA := (((Blk.new w _ _).alloc _).alloc _).below hb1 (by simp <;> omega); have BU := ((Blk.new' (w.alloc _) _ _ (k := w.heap.size + 1) (by simp)).alloc _).below hb1 (by simp <;> omega); have BR := (Blk.new' ((w.alloc _).alloc _) _ _ (k := w.heap.size + 1 + 1) (by simp)).below hb1 (by simp); have HB : Hid (Below w.heap.size w w1) := hb0.out.trans (hb1.mono (by simp <;> omega)); have cA := BA.cell; have cU := BU.cell; have cR := BR.cell; have fR := BR.free; clear hb1)
    | (go_at_call 58; refine (stableFits_any t' v' _ l' _ (hu.out.below HB.out) hll').mono ?_; rintro e w2 ⟨rfl, hb2⟩; rw [h2]; have hz2 : w.heap.size + 2 < w2.heap.size := (by have := hb2.size; omega); replace BA := BA.below hb2 (by omega); replace BU := BU.below hb2 (by omega); replace BR := BR.below hb2 (by omega); replace HB : Hid (Below w.heap.size w w2) := HB.out.trans (hb2.mono (by omega)); clear cA cU cR fR; have cA := BA.cell; have cU := BU.cell; have cR := BR.cell; have fR := BR.free; clear hb2)
    | (go_at_call 59; refine (follows_any t v t' v' _ _ _ _).mono ?_; rintro e w3 ⟨rfl, hb3⟩; rw [h3]; have hz3 : w.heap.size + 2 < w3.heap.size := (by have := hb3.size; omega); replace BA := BA.below hb3 (by omega); replace BU := BU.below hb3 (by omega); replace BR := BR.below hb3 (by omega); replace HB : Hid (Below w.heap.size w w3) := HB.out.trans (hb3.mono (by omega)); clear cA cU cR fR; have cA := BA.cell; have cU := BU.cell; have cR := BR.cell; have fR := BR.free; clear hb3))
  refine wp_named ?_
  intro a0 ha0
  have hsz0 : a0.tmps.size = 33 := by rw [ha0]; rfl
  have e2 : a0.eval (.tmp 2) = .pointer (some ⟨w.heap.size, 0, none⟩) := by rw [ha0]; rfl
  have e3 : a0.eval (.tmp 3) = .pointer (some ⟨w.heap.size + 1, 0, none⟩) := by rw [ha0]; rfl
  have e4 : a0.eval (.tmp 4) = .pointer (some ⟨w.heap.size + 1 + 1, 0, none⟩) := by rw [ha0]; rfl
  have HA0 : Hid (a0 = _) := ha0
  clear ha0
  refine wp_region_inv (by kernel_rfl) (fun L aF w' => ∃ x : Nat → Value, aF = frame a0 [24, 25, 26, 27, 28, 29, 30, 31, 32] x ∧ Below w.heap.size w w' ∧ (Blk w' w.heap.size #[.int .i64 t, .int .i64 v, .slice a l.length cap] 39) ∧ (Blk w' (w.heap.size + 1) #[.int .i64 t', .int .i64 v', .slice a' l'.length cap'] 39) ∧ (∃ C, Blk w' (w.heap.size + 1 + 1) C 43 ∧ C.size = 2 ∧ (L.getD 9 false = true → ∃ b c, C = #[.int .i64 0, .slice b (planK t v l t' v' l' (comK l l')).length c] ∧ OwnR w' w3.heap.size (.slice b (planK t v l t' v' l' (comK l l')).length c) (planK t v l t' v' l' (comK l l')))) ∧ (w3.heap.size ≤ w'.heap.size) ∧ (L.getD 0 false = true → x 24 = .agg #[.int .i64 t, .int .i64 v, .slice a l.length cap]) ∧ (L.getD 1 false = true → x 25 = .agg #[.int .i64 t', .int .i64 v', .slice a' l'.length cap']) ∧ (L.getD 2 false = true → x 26 = .pointer (some ⟨w.heap.size, 2, none⟩)) ∧ (L.getD 3 false = true → x 27 = .slice a l.length cap) ∧ (L.getD 4 false = true → x 28 = .pointer (some ⟨w.heap.size + 1, 2, none⟩)) ∧ (L.getD 5 false = true → x 29 = .slice a' l'.length cap') ∧ (L.getD 6 false = true → x 30 = .int .i64 (comK l l' : Nat)) ∧ (L.getD 7 false = true → ∃ b c, x 31 = .slice b (planK t v l t' v' l' (comK l l')).length c ∧ OwnR w' w3.heap.size (.slice b (planK t v l t' v' l' (comK l l')).length c) (planK t v l t' v' l' (comK l l'))) ∧ (L.getD 8 false = true → ∃ b c, x 32 = .agg #[.int .i64 0, .slice b (planK t v l t' v' l' (comK l l')).length c] ∧ OwnR w' w3.heap.size (.slice b (planK t v l t' v' l' (comK l l')).length c) (planK t v l t' v' l' (comK l l'))) ∧ (L.getD 9 false = true → True)) ?_ ?_ ?_
  · exact ⟨_, frame_self a0 [24, 25, 26, 27, 28, 29, 30, 31, 32], HB.out.drew, BA.drew, BU.drew, ⟨_, BR.drew, rfl, fun h => (noBit h).elim⟩, Nat.le_refl _, fun h => (noBit h).elim, fun h => (noBit h).elim, fun h => (noBit h).elim, fun h => (noBit h).elim, fun h => (noBit h).elim, fun h => (noBit h).elim, fun h => (noBit h).elim, fun h => (noBit h).elim, fun h => (noBit h).elim, fun h => (noBit h).elim⟩
  · rintro L a w' i hsL hi ⟨x, rfl, hB, X1, X2, X3, X4, h0, h1, h2, h3, h4, h5, h6, h7, h8, h9⟩
    have hiL : i < 10 := (ready_mem hsL hi).1
    have hL : L.size = 10 := hsL
    have hw' : w.heap.size ≤ w'.heap.size := hB.size
    rcases (show i = 0 ∨ i = 1 ∨ i = 2 ∨ i = 3 ∨ i = 4 ∨ i = 5 ∨ i = 6 ∨ i = 7 ∨ i = 8 ∨ i = 9 by omega) with rfl | rfl | rfl | rfl | rfl | rfl | rfl | rfl | rfl | rfl
    · skip
      refine wpOp_plain rfl rfl (wp_load_blk 39 (.tmp 2) rfl (w.heap.size) ((frame_eval _ _ _ 2 rfl).trans e2) X1 Tryd.underlying39 rfl sizeSt rfl ?_)
      exact ⟨_, frame_put _ _ _ 24 _ rfl, hB, X1, X2, (by obtain ⟨C, p1, p2, p3⟩ := X3; exact ⟨C, p1, p2, fun h9 => p3 (keepBit h9 (by omega) (by decide))⟩), X4, fun h => upd_same _ _ _, fun h => by rw [upd_ne _ _ _ _ (by decide)]; exact (h1 (keepBit h (by omega) (by decide))), fun h => by rw [upd_ne _ _ _ _ (by decide)]; exact (h2 (keepBit h (by omega) (by decide))), fun h => by rw [upd_ne _ _ _ _ (by decide)]; exact (h3 (keepBit h (by omega) (by decide))), fun h => by rw [upd_ne _ _ _ _ (by decide)]; exact (h4 (keepBit h (by omega) (by decide))), fun h => by rw [upd_ne _ _ _ _ (by decide)]; exact (h5 (keepBit h (by omega) (by decide))), fun h => by rw [upd_ne _ _ _ _ (by decide)]; exact (h6 (keepBit h (by omega) (by decide))), fun h => by rw [upd_ne _ _ _ _ (by decide)]; exact (by obtain ⟨b2, c2, ey, ho⟩ := (h7 (keepBit h (by omega) (by decide))); exact ⟨b2, c2, ey, ho.below (Below.refl _ _)⟩), fun h => by rw [upd_ne _ _ _ _ (by decide)]; exact (by obtain ⟨b2, c2, ey, ho⟩ := (h8 (keepBit h (by omega) (by decide))); exact ⟨b2, c2, ey, ho.below (Below.refl _ _)⟩), fun h => trivial⟩
    · skip
      refine wpOp_plain rfl rfl (wp_load_blk 39 (.tmp 3) rfl (w.heap.size + 1) ((frame_eval _ _ _ 3 rfl).trans e3) X2 Tryd.underlying39 rfl sizeSt rfl ?_)
      exact ⟨_, frame_put _ _ _ 25 _ rfl, hB, X1, X2, (by obtain ⟨C, p1, p2, p3⟩ := X3; exact ⟨C, p1, p2, fun h9 => p3 (keepBit h9 (by omega) (by decide))⟩), X4, fun h => by rw [upd_ne _ _ _ _ (by decide)]; exact (h0 (keepBit h (by omega) (by decide))), fun h => upd_same _ _ _, fun h => by rw [upd_ne _ _ _ _ (by decide)]; exact (h2 (keepBit h (by omega) (by decide))), fun h => by rw [upd_ne _ _ _ _ (by decide)]; exact (h3 (keepBit h (by omega) (by decide))), fun h => by rw [upd_ne _ _ _ _ (by decide)]; exact (h4 (keepBit h (by omega) (by decide))), fun h => by rw [upd_ne _ _ _ _ (by decide)]; exact (h5 (keepBit h (by omega) (by decide))), fun h => by rw [upd_ne _ _ _ _ (by decide)]; exact (h6 (keepBit h (by omega) (by decide))), fun h => by rw [upd_ne _ _ _ _ (by decide)]; exact (by obtain ⟨b2, c2, ey, ho⟩ := (h7 (keepBit h (by omega) (by decide))); exact ⟨b2, c2, ey, ho.below (Below.refl _ _)⟩), fun h => by rw [upd_ne _ _ _ _ (by decide)]; exact (by obtain ⟨b2, c2, ey, ho⟩ := (h8 (keepBit h (by omega) (by decide))); exact ⟨b2, c2, ey, ho.below (Below.refl _ _)⟩), fun h => trivial⟩
    · skip
      have ev2 : (frame a0 [24, 25, 26, 27, 28, 29, 30, 31, 32] x).tmps[2]?.getD undef = .pointer (some ⟨w.heap.size, 0, none⟩) := by have h := (frame_eval a0 [24, 25, 26, 27, 28, 29, 30, 31, 32] x 2 rfl).trans e2; simpa [Act.eval] using h
      refine wpOp_plain rfl rfl (wp_value_go (v := .pointer (some ⟨w.heap.size, 2, none⟩)) ?_ ?_)
      · obtain ⟨aa, haa⟩ : ∃ aa, aa = frame a0 [24, 25, 26, 27, 28, 29, 30, 31, 32] x := ⟨_, rfl⟩
        rw [← haa] at ev2 ⊢
        clear haa HA0
        go_simp
      exact ⟨_, frame_put _ _ _ 26 _ rfl, hB, X1, X2, (by obtain ⟨C, p1, p2, p3⟩ := X3; exact ⟨C, p1, p2, fun h9 => p3 (keepBit h9 (by omega) (by decide))⟩), X4, fun h => by rw [upd_ne _ _ _ _ (by decide)]; exact (h0 (keepBit h (by omega) (by decide))), fun h => by rw [upd_ne _ _ _ _ (by decide)]; exact (h1 (keepBit h (by omega) (by decide))), fun h => upd_same _ _ _, fun h => by rw [upd_ne _ _ _ _ (by decide)]; exact (h3 (keepBit h (by omega) (by decide))), fun h => by rw [upd_ne _ _ _ _ (by decide)]; exact (h4 (keepBit h (by omega) (by decide))), fun h => by rw [upd_ne _ _ _ _ (by decide)]; exact (h5 (keepBit h (by omega) (by decide))), fun h => by rw [upd_ne _ _ _ _ (by decide)]; exact (h6 (keepBit h (by omega) (by decide))), fun h => by rw [upd_ne _ _ _ _ (by decide)]; exact (by obtain ⟨b2, c2, ey, ho⟩ := (h7 (keepBit h (by omega) (by decide))); exact ⟨b2, c2, ey, ho.below (Below.refl _ _)⟩), fun h => by rw [upd_ne _ _ _ _ (by decide)]; exact (by obtain ⟨b2, c2, ey, ho⟩ := (h8 (keepBit h (by omega) (by decide))); exact ⟨b2, c2, ey, ho.below (Below.refl _ _)⟩), fun h => trivial⟩
    · have d2 := h2 (ready_needs hi (by decide))
      have cc : w'.cell? ⟨w.heap.size, 2, none⟩ = some (.slice a l.length cap) := X1.cell 2
      have ev26 : (frame a0 [24, 25, 26, 27, 28, 29, 30, 31, 32] x).tmps[26]?.getD undef = .pointer (some ⟨w.heap.size, 2, none⟩) := by have h := (frame_eval_in a0 [24, 25, 26, 27, 28, 29, 30, 31, 32] x 26 rfl (by omega)).trans d2; simpa [Act.eval] using h
      refine wpOp_plain rfl rfl (wp_value_go (v := .slice a l.length cap) ?_ ?_)
      · obtain ⟨aa, haa⟩ : ∃ aa, aa = frame a0 [24, 25, 26, 27, 28, 29, 30, 31, 32] x := ⟨_, rfl⟩
        rw [← haa] at ev26 ⊢
        clear haa HA0
        go_simp
      exact ⟨_, frame_put _ _ _ 27 _ rfl, hB, X1, X2, (by obtain ⟨C, p1, p2, p3⟩ := X3; exact ⟨C, p1, p2, fun h9 => p3 (keepBit h9 (by omega) (by decide))⟩), X4, fun h => by rw [upd_ne _ _ _ _ (by decide)]; exact (h0 (keepBit h (by omega) (by decide))), fun h => by rw [upd_ne _ _ _ _ (by decide)]; exact (h1 (keepBit h (by omega) (by decide))), fun h => by rw [upd_ne _ _ _ _ (by decide)]; exact (h2 (keepBit h (by omega) (by decide))), fun h => upd_same _ _ _, fun h => by rw [upd_ne _ _ _ _ (by decide)]; exact (h4 (keepBit h (by omega) (by decide))), fun h => by rw [upd_ne _ _ _ _ (by decide)]; exact (h5 (keepBit h (by omega) (by decide))), fun h => by rw [upd_ne _ _ _ _ (by decide)]; exact (h6 (keepBit h (by omega) (by decide))), fun h => by rw [upd_ne _ _ _ _ (by decide)]; exact (by obtain ⟨b2, c2, ey, ho⟩ := (h7 (keepBit h (by omega) (by decide))); exact ⟨b2, c2, ey, ho.below (Below.refl _ _)⟩), fun h => by rw [upd_ne _ _ _ _ (by decide)]; exact (by obtain ⟨b2, c2, ey, ho⟩ := (h8 (keepBit h (by omega) (by decide))); exact ⟨b2, c2, ey, ho.below (Below.refl _ _)⟩), fun h => trivial⟩
    · skip
      have ev3 : (frame a0 [24, 25, 26, 27, 28, 29, 30, 31, 32] x).tmps[3]?.getD undef = .pointer (some ⟨w.heap.size + 1, 0, none⟩) := by have h := (frame_eval a0 [24, 25, 26, 27, 28, 29, 30, 31, 32] x 3 rfl).trans e3; simpa [Act.eval] using h
      refine wpOp_plain rfl rfl (wp_value_go (v := .pointer (some ⟨w.heap.size + 1, 2, none⟩)) ?_ ?_)
      · obtain ⟨aa, haa⟩ : ∃ aa, aa = frame a0 [24, 25, 26, 27, 28, 29, 30, 31, 32] x := ⟨_, rfl⟩
        rw [← haa] at ev3 ⊢
        clear haa HA0
        go_simp
      exact ⟨_, frame_put _ _ _ 28 _ rfl, hB, X1, X2, (by obtain ⟨C, p1, p2, p3⟩ := X3; exact ⟨C, p1, p2, fun h9 => p3 (keepBit h9 (by omega) (by decide))⟩), X4, fun h => by rw [upd_ne _ _ _ _ (by decide)]; exact (h0 (keepBit h (by omega) (by decide))), fun h => by rw [upd_ne _ _ _ _ (by decide)]; exact (h1 (keepBit h (by omega) (by decide))), fun h => by rw [upd_ne _ _ _ _ (by decide)]; exact (h2 (keepBit h (by omega) (by decide))), fun h => by rw [upd_ne _ _ _ _ (by decide)]; exact (h3 (keepBit h (by omega) (by decide))), fun h => upd_same _ _ _, fun h => by rw [upd_ne _ _ _ _ (by decide)]; exact (h5 (keepBit h (by omega) (by decide))), fun h => by rw [upd_ne _ _ _ _ (by decide)]; exact (h6 (keepBit h (by omega) (by decide))), fun h => by rw [upd_ne _ _ _ _ (by decide)]; exact (by obtain ⟨b2, c2, ey, ho⟩ := (h7 (keepBit h (by omega) (by decide))); exact ⟨b2, c2, ey, ho.below (Below.refl _ _)⟩), fun h => by rw [upd_ne _ _ _ _ (by decide)]; exact (by obtain ⟨b2, c2, ey, ho⟩ := (h8 (keepBit h (by omega) (by decide))); exact ⟨b2, c2, ey, ho.below (Below.refl _ _)⟩), fun h => trivial⟩
    · have d4 := h4 (ready_needs hi (by decide))
      have cc : w'.cell? ⟨w.heap.size + 1, 2, none⟩ = some (.slice a' l'.length cap') := X2.cell 2
      have ev28 : (frame a0 [24, 25, 26, 27, 28, 29, 30, 31, 32] x).tmps[28]?.getD undef = .pointer (some ⟨w.heap.size + 1, 2, none⟩) := by have h := (frame_eval_in a0 [24, 25, 26, 27, 28, 29, 30, 31, 32] x 28 rfl (by omega)).trans d4; simpa [Act.eval] using h
      refine wpOp_plain rfl rfl (wp_value_go (v := .slice a' l'.length cap') ?_ ?_)
      · obtain ⟨aa, haa⟩ : ∃ aa, aa = frame a0 [24, 25, 26, 27, 28, 29, 30, 31, 32] x := ⟨_, rfl⟩
        rw [← haa] at ev28 ⊢
        clear haa HA0
        go_simp
      exact ⟨_, frame_put _ _ _ 29 _ rfl, hB, X1, X2, (by obtain ⟨C, p1, p2, p3⟩ := X3; exact ⟨C, p1, p2, fun h9 => p3 (keepBit h9 (by omega) (by decide))⟩), X4, fun h => by rw [upd_ne _ _ _ _ (by decide)]; exact (h0 (keepBit h (by omega) (by decide))), fun h => by rw [upd_ne _ _ _ _ (by decide)]; exact (h1 (keepBit h (by omega) (by decide))), fun h => by rw [upd_ne _ _ _ _ (by decide)]; exact (h2 (keepBit h (by omega) (by decide))), fun h => by rw [upd_ne _ _ _ _ (by decide)]; exact (h3 (keepBit h (by omega) (by decide))), fun h => by rw [upd_ne _ _ _ _ (by decide)]; exact (h4 (keepBit h (by omega) (by decide))), fun h => upd_same _ _ _, fun h => by rw [upd_ne _ _ _ _ (by decide)]; exact (h6 (keepBit h (by omega) (by decide))), fun h => by rw [upd_ne _ _ _ _ (by decide)]; exact (by obtain ⟨b2, c2, ey, ho⟩ := (h7 (keepBit h (by omega) (by decide))); exact ⟨b2, c2, ey, ho.below (Below.refl _ _)⟩), fun h => by rw [upd_ne _ _ _ _ (by decide)]; exact (by obtain ⟨b2, c2, ey, ho⟩ := (h8 (keepBit h (by omega) (by decide))); exact ⟨b2, c2, ey, ho.below (Below.refl _ _)⟩), fun h => trivial⟩
    · have d3 := h3 (ready_needs hi (by decide))
      have d5 := h5 (ready_needs hi (by decide))
      have ev27 := (frame_eval_in a0 [24, 25, 26, 27, 28, 29, 30, 31, 32] x 27 rfl (by omega)).trans d3
      have ev29 := (frame_eval_in a0 [24, 25, 26, 27, 28, 29, 30, 31, 32] x 29 rfl (by omega)).trans d5
      refine wpOp_plain rfl rfl (wp_call_go (N := 61) rfl (fun _ _ => by go_simp) #[.slice a l.length cap, .slice a' l'.length cap'] (by simp only [List.map_toArray, List.map_cons, List.map_nil, ev27, ev29]) ?_)
      refine Calls.mono (commonLength_any _ _ l l' _ (hv.out.below hB) (hu.out.below hB) hll hll') ?_
      rintro e w2 ⟨rfl, hb⟩
      refine ⟨_, rfl, ?_⟩
      exact ⟨_, frame_put _ _ _ 30 _ rfl, hB.trans (hb.mono hw'), X1.below hb X1.lt, X2.below hb X2.lt, (by obtain ⟨C, p1, p2, p3⟩ := X3; exact ⟨C, p1.below hb p1.lt, p2, fun h9 => by obtain ⟨b, c, q1, q2⟩ := p3 (keepBit h9 (by omega) (by decide)); exact ⟨b, c, q1, q2.below hb⟩⟩), Nat.le_trans X4 hb.size, fun h => by rw [upd_ne _ _ _ _ (by decide)]; exact (h0 (keepBit h (by omega) (by decide))), fun h => by rw [upd_ne _ _ _ _ (by decide)]; exact (h1 (keepBit h (by omega) (by decide))), fun h => by rw [upd_ne _ _ _ _ (by decide)]; exact (h2 (keepBit h (by omega) (by decide))), fun h => by rw [upd_ne _ _ _ _ (by decide)]; exact (h3 (keepBit h (by omega) (by decide))), fun h => by rw [upd_ne _ _ _ _ (by decide)]; exact (h4 (keepBit h (by omega) (by decide))), fun h => by rw [upd_ne _ _ _ _ (by decide)]; exact (h5 (keepBit h (by omega) (by decide))), fun h => upd_same _ _ _, fun h => by rw [upd_ne _ _ _ _ (by decide)]; exact (by obtain ⟨b2, c2, ey, ho⟩ := (h7 (keepBit h (by omega) (by decide))); exact ⟨b2, c2, ey, ho.below hb⟩), fun h => by rw [upd_ne _ _ _ _ (by decide)]; exact (by obtain ⟨b2, c2, ey, ho⟩ := (h8 (keepBit h (by omega) (by decide))); exact ⟨b2, c2, ey, ho.below hb⟩), fun h => trivial⟩
    · have d0 := h0 (ready_needs hi (by decide))
      have d1 := h1 (ready_needs hi (by decide))
      have d6 := h6 (ready_needs hi (by decide))
      have ev24 := (frame_eval_in a0 [24, 25, 26, 27, 28, 29, 30, 31, 32] x 24 rfl (by omega)).trans d0
      have ev25 := (frame_eval_in a0 [24, 25, 26, 27, 28, 29, 30, 31, 32] x 25 rfl (by omega)).trans d1
      have ev30 := (frame_eval_in a0 [24, 25, 26, 27, 28, 29, 30, 31, 32] x 30 rfl (by omega)).trans d6
      refine wpOp_plain rfl rfl (wp_call_go (N := 60) rfl (fun _ _ => by go_simp) #[.agg #[.int .i64 t, .int .i64 v, .slice a l.length cap], .agg #[.int .i64 t', .int .i64 v', .slice a' l'.length cap'], .int .i64 (comK l l' : Nat)] (by simp only [List.map_toArray, List.map_cons, List.map_nil, ev24, ev25, ev30]) ?_)
      refine Calls.mono (planFrom_any t v a cap l t' v' a' cap' l' (comK l l') _ (hv.out.below hB) (hu.out.below hB) hll hs2 hcl.2) ?_
      rintro e w2 ⟨b2, c2, rfl, ho, hb⟩
      refine ⟨_, rfl, ?_⟩
      exact ⟨_, frame_put _ _ _ 31 _ rfl, hB.trans (hb.mono hw'), X1.below hb X1.lt, X2.below hb X2.lt, (by obtain ⟨C, p1, p2, p3⟩ := X3; exact ⟨C, p1.below hb p1.lt, p2, fun h9 => by obtain ⟨b, c, q1, q2⟩ := p3 (keepBit h9 (by omega) (by decide)); exact ⟨b, c, q1, q2.below hb⟩⟩), Nat.le_trans X4 hb.size, fun h => by rw [upd_ne _ _ _ _ (by decide)]; exact (h0 (keepBit h (by omega) (by decide))), fun h => by rw [upd_ne _ _ _ _ (by decide)]; exact (h1 (keepBit h (by omega) (by decide))), fun h => by rw [upd_ne _ _ _ _ (by decide)]; exact (h2 (keepBit h (by omega) (by decide))), fun h => by rw [upd_ne _ _ _ _ (by decide)]; exact (h3 (keepBit h (by omega) (by decide))), fun h => by rw [upd_ne _ _ _ _ (by decide)]; exact (h4 (keepBit h (by omega) (by decide))), fun h => by rw [upd_ne _ _ _ _ (by decide)]; exact (h5 (keepBit h (by omega) (by decide))), fun h => by rw [upd_ne _ _ _ _ (by decide)]; exact (h6 (keepBit h (by omega) (by decide))), fun h => ⟨b2, c2, upd_same _ _ _, ho.le X4⟩, fun h => by rw [upd_ne _ _ _ _ (by decide)]; exact (by obtain ⟨b2, c2, ey, ho⟩ := (h8 (keepBit h (by omega) (by decide))); exact ⟨b2, c2, ey, ho.below hb⟩), fun h => trivial⟩
    · have d7 := h7 (ready_needs hi (by decide))
      obtain ⟨b2, c2, ey, ho2⟩ := d7
      have ev31 : (frame a0 [24, 25, 26, 27, 28, 29, 30, 31, 32] x).tmps[31]?.getD undef = .slice b2 (planK t v l t' v' l' (comK l l')).length c2 := by have h := (frame_eval_in a0 [24, 25, 26, 27, 28, 29, 30, 31, 32] x 31 rfl (by omega)).trans ey; simpa [Act.eval] using h
      refine wpOp_plain rfl rfl (wp_value_go (v := .agg #[.int .i64 0, .slice b2 (planK t v l t' v' l' (comK l l')).length c2]) ?_ ?_)
      · obtain ⟨aa, haa⟩ : ∃ aa, aa = frame a0 [24, 25, 26, 27, 28, 29, 30, 31, 32] x := ⟨_, rfl⟩
        rw [← haa] at ev31 ⊢
        clear haa HA0
        go_simp
      exact ⟨_, frame_put _ _ _ 32 _ rfl, hB, X1, X2, (by obtain ⟨C, p1, p2, p3⟩ := X3; exact ⟨C, p1, p2, fun h9 => p3 (keepBit h9 (by omega) (by decide))⟩), X4, fun h => by rw [upd_ne _ _ _ _ (by decide)]; exact (h0 (keepBit h (by omega) (by decide))), fun h => by rw [upd_ne _ _ _ _ (by decide)]; exact (h1 (keepBit h (by omega) (by decide))), fun h => by rw [upd_ne _ _ _ _ (by decide)]; exact (h2 (keepBit h (by omega) (by decide))), fun h => by rw [upd_ne _ _ _ _ (by decide)]; exact (h3 (keepBit h (by omega) (by decide))), fun h => by rw [upd_ne _ _ _ _ (by decide)]; exact (h4 (keepBit h (by omega) (by decide))), fun h => by rw [upd_ne _ _ _ _ (by decide)]; exact (h5 (keepBit h (by omega) (by decide))), fun h => by rw [upd_ne _ _ _ _ (by decide)]; exact (h6 (keepBit h (by omega) (by decide))), fun h => by rw [upd_ne _ _ _ _ (by decide)]; exact (by obtain ⟨b2, c2, ey, ho⟩ := (h7 (keepBit h (by omega) (by decide))); exact ⟨b2, c2, ey, ho.below (Below.refl _ _)⟩), fun h => ⟨b2, c2, upd_same _ _ _, ho2⟩, fun h => trivial⟩
    · have d8 := h8 (ready_needs hi (by decide))
      obtain ⟨b2, c2, ey, ho2⟩ := d8
      obtain ⟨C, p1, p2, p3⟩ := X3
      have evp := (frame_eval a0 [24, 25, 26, 27, 28, 29, 30, 31, 32] x 4 rfl).trans e4
      have evs := (frame_eval_in a0 [24, 25, 26, 27, 28, 29, 30, 31, 32] x 32 rfl (by omega)).trans ey
      refine wpOp_plain rfl rfl (wp_store_blk 43 (.tmp 4) (.tmp 32) rfl (w.heap.size + 1 + 1) evp evs p1 sizePA rfl p2 (by simp [Value.oneCell']) ?_)
      exact ⟨_, rfl, below_row hB (by omega) _, X1.row_other _ (by omega), X2.row_other _ (by omega), ⟨_, p1.row _, rfl, fun _ => ⟨b2, c2, rfl, ho2.keep fun k hk => setRow_other _ _ _ _ (by have h9 := (ho2.lt k hk).1; omega)⟩⟩, (by rw [setRow_size]; exact X4), fun h => (h0 (keepBit h (by omega) (by decide))), fun h => (h1 (keepBit h (by omega) (by decide))), fun h => (h2 (keepBit h (by omega) (by decide))), fun h => (h3 (keepBit h (by omega) (by decide))), fun h => (h4 (keepBit h (by omega) (by decide))), fun h => (h5 (keepBit h (by omega) (by decide))), fun h => (h6 (keepBit h (by omega) (by decide))), fun h => (by obtain ⟨b2, c2, ey, ho⟩ := (h7 (keepBit h (by omega) (by decide))); exact ⟨b2, c2, ey, ho.keep fun k hk => setRow_other _ _ _ _ (by have h9 := (ho.lt k hk).1; omega)⟩), fun h => (by obtain ⟨b2, c2, ey, ho⟩ := (h8 (keepBit h (by omega) (by decide))); exact ⟨b2, c2, ey, ho.keep fun k hk => setRow_other _ _ _ _ (by have h9 := (ho.lt k hk).1; omega)⟩), fun h => trivial⟩
  · rintro L a w' hsL hr ⟨x, rfl, hB, X1, X2, X3, X4, h0, h1, h2, h3, h4, h5, h6, h7, h8, h9⟩
    have hall := ready_nil hsL hr (by decide)
    replace h0 := h0 (hall 0 (by decide))
    replace h1 := h1 (hall 1 (by decide))
    replace h2 := h2 (hall 2 (by decide))
    replace h3 := h3 (hall 3 (by decide))
    replace h4 := h4 (hall 4 (by decide))
    replace h5 := h5 (hall 5 (by decide))
    replace h6 := h6 (hall 6 (by decide))
    replace h7 := h7 (hall 7 (by decide))
    replace h8 := h8 (hall 8 (by decide))
    replace h9 := h9 (hall 9 (by decide))
    rw [HA0.out]
    simp only [frame, List.zipIdx_cons, List.zipIdx_nil, List.map_cons, List.map_nil, List.contains_cons, List.contains_nil, Nat.reduceBEq, Nat.reduceAdd, Bool.or_false, Bool.false_or, Bool.or_true, Bool.true_or, Bool.false_eq_true, if_false, if_true, h0, h1, h2, h3, h4, h5, h6, h9]
    obtain ⟨C, p1, p2, p3⟩ := X3
    obtain ⟨b2, c2, rfl, ho2⟩ := p3 (hall 9 (by decide))
    go_wp2
    exact bodyPost_ret (v := .agg #[.int .i64 0, .slice b2 (planK t v l t' v' l' (comK l l')).length c2]) (results_blk Tryd.results18 rfl p1 Tryd.underlying43 rfl sizePA rfl) rfl ⟨b2, c2, rfl, ho2.le (by omega), hB⟩
end Go.Proofs.YtjoflnnomebkpaaDoor
