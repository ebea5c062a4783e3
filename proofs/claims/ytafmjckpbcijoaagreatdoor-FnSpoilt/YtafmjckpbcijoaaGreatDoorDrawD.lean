/-
  spec.l1drawReply: what is drawn, and where the source stands behind it.
-/
import Derived.Test.YtafmjckpbcijoaaGreatDoorDrawC
namespace Go.Proofs.YtafmjckpbcijoaaGreatDoor
open Go.RowKit
set_option linter.unusedVariables false
set_option linter.unusedSimpArgs false

theorem sizeRepD : (Tryz.prog.info? 38).map (·.size) = some 6 := by kernel_rfl

set_option maxHeartbeats 4000000 in
set_option maxRecDepth 100000 in
theorem l1drawReply_01 (g : Nat) (w : World) (v : Value) (l : List Int) (k : Nat) (hL : l.length ≤ 1048576) (hk : k ≤ 700000000) (h : Src w g v l k) (hs : pickV l (k + 1 + 1) 2 = 0) (hp : 0 < pickV l (k + 1 + 1 + 1) 10) :
    Calls Tryz.prog 32 #[.pointer (some ⟨g, 0, none⟩)] w fun r w' => r = .returned (.agg #[.int .i64 (1 + (pickV l k 8 : Nat)), .int .i64 (1 + (pickV l (k + 1) 6 : Nat)), .int .i64 1, .int .i64 (1 + (pickV l ((k + 1 + 1 + 1) + 1) 4 : Nat)), .string (wordV l (((k + 1 + 1 + 1) + 1) + 1) true).1, .int .i64 0]) ∧ Src w' g v l (wordV l (((k + 1 + 1 + 1) + 1) + 1) true).2 ∧ w.grownBy w' (some g) := by
  have HS : Hid (Src w g v l k) := h
  have hg0 : g < w.heap.size := h.lt
  clear h
  have b0 := pickV_lt l k 8 (by omega)
  have b1 := pickV_lt l (k + 1) 6 (by omega)
  have b2 := pickV_lt l (k + 1 + 1) 2 (by omega)
  have b3 := pickV_lt l (k + 1 + 1 + 1) 10 (by omega)
  have b4 := pickV_lt l ((k + 1 + 1 + 1) + 1) 4 (by omega)
  have b5 := wordV_size l (((k + 1 + 1 + 1) + 1) + 1) true
  have g0 : True := trivial
  have g1 : True := trivial
  have g2 : True := trivial
  have g3 : True := trivial
  have g4 : True := trivial
  have g5 : True := trivial
  have fa0 : (1 + (pickV l (k + 1 + 1) 2 : Nat) : Int) = 1 := by omega
  have fa1 : ¬ ((pickV l (k + 1 + 1 + 1) 10 : Nat) : Int) = 0 := by omega
  go_enter Tryz.func32, Tryz.ntmps32
  go_wp2_with (first
    | (go_at_call 23; clear g0; refine Calls.mono (l1pick_any g _ v l k 8 hL (by omega) (by omega) (by omega) (HS.out.alloc _)) ?_; rintro r w1 ⟨rfl, hs, hg⟩; rw [show pickK 8 = 1 from by first | decide | (unfold pickK; rw [if_pos (by omega)])] at hs; have z0 := hg.size; (try simp [World.setCell] at z0); have BR : Hid (Blk _ _ _ _) := (Blk.new w _ _).grown hg (by omega); have HG : Hid (w.grownBy w1 (some g)) := grownBy_trans (World.grownBy_alloc _ _ _) hg; replace HS : Hid (Src w1 g v l (k + 1)) := hs; clear hs hg)
    | (go_at_call 23; clear g1; refine Calls.mono (l1pick_any g _ v l (k + 1) 6 hL (by omega) (by omega) (by omega) HS.out) ?_; rintro r w2 ⟨rfl, hs, hg⟩; rw [show pickK 6 = 1 from by first | decide | (unfold pickK; rw [if_pos (by omega)])] at hs; have z1 := hg.size; (try simp [World.setCell] at z1); replace BR : Hid (Blk _ _ _ _) := BR.out.grown hg (by omega); replace HG : Hid (w.grownBy w2 (some g)) := grownBy_trans HG.out hg; replace HS : Hid (Src w2 g v l ((k + 1) + 1)) := hs; clear hs hg)
    | (go_at_call 23; clear g2; refine Calls.mono (l1pick_any g _ v l (k + 1 + 1) 2 hL (by omega) (by omega) (by omega) HS.out) ?_; rintro r w3 ⟨rfl, hs, hg⟩; rw [show pickK 2 = 1 from by first | decide | (unfold pickK; rw [if_pos (by omega)])] at hs; have z2 := hg.size; (try simp [World.setCell] at z2); replace BR : Hid (Blk _ _ _ _) := BR.out.grown hg (by omega); replace HG : Hid (w.grownBy w3 (some g)) := grownBy_trans HG.out hg; replace HS : Hid (Src w3 g v l ((k + 1 + 1) + 1)) := hs; clear hs hg)
    | (have hBA := HS; refine gate_st 38 (.tmp 3) _ rfl ?_; clear hBA; refine wpl_store_last rfl 38 (.tmp 3) _ rfl (w3.heap.size) rfl rfl rfl sizeRepD rfl rfl (by simp [Value.oneCell']) ?_)
    | (go_at_call 23; clear g3; refine Calls.mono (l1pick_any g _ v l (k + 1 + 1 + 1) 10 hL (by omega) (by omega) (by omega) (HS.out.alloc _)) ?_; rintro r w4 ⟨rfl, hs, hg⟩; rw [show pickK 10 = 1 from by first | decide | (unfold pickK; rw [if_pos (by omega)])] at hs; have z3 := hg.size; (try simp [World.setCell] at z3); replace BR : Hid (Blk _ _ _ _) := (BR.out.alloc _).grown hg (by omega); replace HG : Hid (w.grownBy w4 (some g)) := grownBy_trans (grownBy_alloc' HG.out _) hg; have BV : Hid (Blk _ _ _ _) := (Blk.new w3 _ _).grown hg (by omega); replace HS : Hid (Src w4 g v l ((k + 1 + 1 + 1) + 1)) := hs; clear hs hg; have cV3 := BV.out.cell; have fV3 := BV.out.free)
    | (go_at_call 23; clear g4; refine Calls.mono (l1pick_any g _ v l ((k + 1 + 1 + 1) + 1) 4 hL (by omega) (by omega) (by omega) HS.out) ?_; rintro r w5 ⟨rfl, hs, hg⟩; rw [show pickK 4 = 1 from by first | decide | (unfold pickK; rw [if_pos (by omega)])] at hs; have z4 := hg.size; (try simp [World.setCell] at z4); replace BR : Hid (Blk _ _ _ _) := BR.out.grown hg (by omega); replace HG : Hid (w.grownBy w5 (some g)) := grownBy_trans HG.out hg; replace BV : Hid (Blk _ _ _ _) := BV.out.grown hg (by omega); replace HS : Hid (Src w5 g v l (((k + 1 + 1 + 1) + 1) + 1)) := hs; clear hs hg; have cV4 := BV.out.cell; have fV4 := BV.out.free)
    | (go_at_call 56; clear g5; refine Calls.mono (l1word_any g _ v l (((k + 1 + 1 + 1) + 1) + 1) true hL (by omega) (HS.out.setB BV.out (by omega) 3 (by simp) (noU8_of rfl) _)) ?_; rintro r w6 ⟨rfl, hs, hg⟩; have z5 := hg.size; (try simp [World.setCell] at z5); replace BR : Hid (Blk _ _ _ _) := (BR.out.set_other (p := ⟨w3.heap.size, 3, none⟩) _ (show w.heap.size ≠ w3.heap.size by omega)).grown hg (by omega); replace HG : Hid (w.grownBy w6 (some g)) := grownBy_trans (grownBy_set_new HG.out (by omega) _ _) hg; replace BV : Hid (Blk _ _ _ _) := (show Blk _ _ #[.int .i64 (1 + (pickV l k 8 : Nat)), .int .i64 (1 + (pickV l (k + 1) 6 : Nat)), .int .i64 1, .int .i64 (1 + (pickV l ((k + 1 + 1 + 1) + 1) 4 : Nat)), .string ⟨#[]⟩, .int .i64 0] _ from by simpa using BV.out.set 3 (.int .i64 (1 + (pickV l ((k + 1 + 1 + 1) + 1) 4 : Nat)))).grown hg (by omega); replace HS : Hid (Src w6 g v l (wordV l (((k + 1 + 1 + 1) + 1) + 1) true).2) := hs; clear hs hg; have cV5 := BV.out.cell; have fV5 := BV.out.free)
    | (have hBA := HS; refine gate_ld 38 (.tmp 3) rfl ?_; clear hBA; refine wpl_load_blk rfl 38 (.tmp 3) rfl (w3.heap.size) rfl (show Blk _ _ #[.int .i64 (1 + (pickV l k 8 : Nat)), .int .i64 (1 + (pickV l (k + 1) 6 : Nat)), .int .i64 1, .int .i64 (1 + (pickV l ((k + 1 + 1 + 1) + 1) 4 : Nat)), .string (wordV l (((k + 1 + 1 + 1) + 1) + 1) true).1, .int .i64 0] _ from by simpa using BV.out.set 4 (.string (wordV l (((k + 1 + 1 + 1) + 1) + 1) true).1)) Tryz.underlying38 rfl sizeRepD rfl ?_)
    | (have hBA := HS; refine gate_st 38 (.tmp 2) _ rfl ?_; clear hBA; refine wpl_store_blk rfl 38 (.tmp 2) _ rfl (w.heap.size) rfl rfl (BR.out.set_other (p := ⟨w3.heap.size, 4, none⟩) _ (show w.heap.size ≠ w3.heap.size by omega)) sizeRepD rfl rfl (by simp [Value.oneCell']) ?_))
  all_goals first
    | exact bodyPost_ret (v := .agg #[.int .i64 (1 + (pickV l k 8 : Nat)), .int .i64 (1 + (pickV l (k + 1) 6 : Nat)), .int .i64 1, .int .i64 (1 + (pickV l ((k + 1 + 1 + 1) + 1) 4 : Nat)), .string (wordV l (((k + 1 + 1 + 1) + 1) + 1) true).1, .int .i64 0]) (results_blk Tryz.results32 rfl ((BR.out.set_other (p := ⟨w3.heap.size, 4, none⟩) _ (show w.heap.size ≠ w3.heap.size by omega)).row _) Tryz.underlying38 rfl sizeRepD rfl) rfl ⟨rfl, (HS.out.setB BV.out (by omega) 4 (by simp) (noU8_of rfl) _).row (BR.out.set_other (p := ⟨w3.heap.size, 4, none⟩) _ (show w.heap.size ≠ w3.heap.size by omega)) (by omega) (noU8_of rfl) _, grownBy_row_new (grownBy_set_new HG.out (by omega) _ _) (BR.out.set_other (p := ⟨w3.heap.size, 4, none⟩) _ (show w.heap.size ≠ w3.heap.size by omega)) (Nat.le_refl _) _⟩
    | (exfalso; omega)
    | (exfalso; simp only [beq_iff_eq] at *; omega)

set_option maxHeartbeats 4000000 in
set_option maxRecDepth 100000 in
theorem l1drawReply_02 (g : Nat) (w : World) (v : Value) (l : List Int) (k : Nat) (hL : l.length ≤ 1048576) (hk : k ≤ 700000000) (h : Src w g v l k) (hs : pickV l (k + 1 + 1) 2 = 1) (hp : 0 < pickV l (k + 1 + 1 + 1) 10) :
    Calls Tryz.prog 32 #[.pointer (some ⟨g, 0, none⟩)] w fun r w' => r = .returned (.agg #[.int .i64 (1 + (pickV l k 8 : Nat)), .int .i64 (1 + (pickV l (k + 1) 6 : Nat)), .int .i64 2, .int .i64 0, .string ⟨#[]⟩, .int .i64 (pickV l ((k + 1 + 1 + 1) + 1) 8 : Nat)]) ∧ Src w' g v l (((k + 1 + 1 + 1) + 1) + 1) ∧ w.grownBy w' (some g) := by
  have HS : Hid (Src w g v l k) := h
  have hg0 : g < w.heap.size := h.lt
  clear h
  have b0 := pickV_lt l k 8 (by omega)
  have b1 := pickV_lt l (k + 1) 6 (by omega)
  have b2 := pickV_lt l (k + 1 + 1) 2 (by omega)
  have b3 := pickV_lt l (k + 1 + 1 + 1) 10 (by omega)
  have b4 := pickV_lt l ((k + 1 + 1 + 1) + 1) 8 (by omega)
  have g0 : True := trivial
  have g1 : True := trivial
  have g2 : True := trivial
  have g3 : True := trivial
  have g4 : True := trivial
  have fa0 : (1 + (pickV l (k + 1 + 1) 2 : Nat) : Int) = 2 := by omega
  have fa1 : ¬ ((pickV l (k + 1 + 1 + 1) 10 : Nat) : Int) = 0 := by omega
  go_enter Tryz.func32, Tryz.ntmps32
  go_wp2_with (first
    | (go_at_call 23; clear g0; refine Calls.mono (l1pick_any g _ v l k 8 hL (by omega) (by omega) (by omega) (HS.out.alloc _)) ?_; rintro r w1 ⟨rfl, hs, hg⟩; rw [show pickK 8 = 1 from by first | decide | (unfold pickK; rw [if_pos (by omega)])] at hs; have z0 := hg.size; (try simp [World.setCell] at z0); have BR : Hid (Blk _ _ _ _) := (Blk.new w _ _).grown hg (by omega); have HG : Hid (w.grownBy w1 (some g)) := grownBy_trans (World.grownBy_alloc _ _ _) hg; replace HS : Hid (Src w1 g v l (k + 1)) := hs; clear hs hg)
    | (go_at_call 23; clear g1; refine Calls.mono (l1pick_any g _ v l (k + 1) 6 hL (by omega) (by omega) (by omega) HS.out) ?_; rintro r w2 ⟨rfl, hs, hg⟩; rw [show pickK 6 = 1 from by first | decide | (unfold pickK; rw [if_pos (by omega)])] at hs; have z1 := hg.size; (try simp [World.setCell] at z1); replace BR : Hid (Blk _ _ _ _) := BR.out.grown hg (by omega); replace HG : Hid (w.grownBy w2 (some g)) := grownBy_trans HG.out hg; replace HS : Hid (Src w2 g v l ((k + 1) + 1)) := hs; clear hs hg)
    | (go_at_call 23; clear g2; refine Calls.mono (l1pick_any g _ v l (k + 1 + 1) 2 hL (by omega) (by omega) (by omega) HS.out) ?_; rintro r w3 ⟨rfl, hs, hg⟩; rw [show pickK 2 = 1 from by first | decide | (unfold pickK; rw [if_pos (by omega)])] at hs; have z2 := hg.size; (try simp [World.setCell] at z2); replace BR : Hid (Blk _ _ _ _) := BR.out.grown hg (by omega); replace HG : Hid (w.grownBy w3 (some g)) := grownBy_trans HG.out hg; replace HS : Hid (Src w3 g v l ((k + 1 + 1) + 1)) := hs; clear hs hg)
    | (have hBA := HS; refine gate_st 38 (.tmp 3) _ rfl ?_; clear hBA; refine wpl_store_last rfl 38 (.tmp 3) _ rfl (w3.heap.size) rfl rfl rfl sizeRepD rfl rfl (by simp [Value.oneCell']) ?_)
    | (go_at_call 23; clear g3; refine Calls.mono (l1pick_any g _ v l (k + 1 + 1 + 1) 10 hL (by omega) (by omega) (by omega) (HS.out.alloc _)) ?_; rintro r w4 ⟨rfl, hs, hg⟩; rw [show pickK 10 = 1 from by first | decide | (unfold pickK; rw [if_pos (by omega)])] at hs; have z3 := hg.size; (try simp [World.setCell] at z3); replace BR : Hid (Blk _ _ _ _) := (BR.out.alloc _).grown hg (by omega); replace HG : Hid (w.grownBy w4 (some g)) := grownBy_trans (grownBy_alloc' HG.out _) hg; have BV : Hid (Blk _ _ _ _) := (Blk.new w3 _ _).grown hg (by omega); replace HS : Hid (Src w4 g v l ((k + 1 + 1 + 1) + 1)) := hs; clear hs hg; have cV3 := BV.out.cell; have fV3 := BV.out.free)
    | (go_at_call 23; clear g4; refine Calls.mono (l1pick_any g _ v l ((k + 1 + 1 + 1) + 1) 8 hL (by omega) (by omega) (by omega) HS.out) ?_; rintro r w5 ⟨rfl, hs, hg⟩; rw [show pickK 8 = 1 from by first | decide | (unfold pickK; rw [if_pos (by omega)])] at hs; have z4 := hg.size; (try simp [World.setCell] at z4); replace BR : Hid (Blk _ _ _ _) := BR.out.grown hg (by omega); replace HG : Hid (w.grownBy w5 (some g)) := grownBy_trans HG.out hg; replace BV : Hid (Blk _ _ _ _) := BV.out.grown hg (by omega); replace HS : Hid (Src w5 g v l (((k + 1 + 1 + 1) + 1) + 1)) := hs; clear hs hg; have cV4 := BV.out.cell; have fV4 := BV.out.free)
    | (have hBA := HS; refine gate_ld 38 (.tmp 3) rfl ?_; clear hBA; refine wpl_load_blk rfl 38 (.tmp 3) rfl (w3.heap.size) rfl (show Blk _ _ #[.int .i64 (1 + (pickV l k 8 : Nat)), .int .i64 (1 + (pickV l (k + 1) 6 : Nat)), .int .i64 2, .int .i64 0, .string ⟨#[]⟩, .int .i64 (pickV l ((k + 1 + 1 + 1) + 1) 8 : Nat)] _ from by simpa using BV.out.set 5 (.int .i64 (pickV l ((k + 1 + 1 + 1) + 1) 8 : Nat))) Tryz.underlying38 rfl sizeRepD rfl ?_)
    | (have hBA := HS; refine gate_st 38 (.tmp 2) _ rfl ?_; clear hBA; refine wpl_store_blk rfl 38 (.tmp 2) _ rfl (w.heap.size) rfl rfl (BR.out.set_other (p := ⟨w3.heap.size, 5, none⟩) _ (show w.heap.size ≠ w3.heap.size by omega)) sizeRepD rfl rfl (by simp [Value.oneCell']) ?_))
  all_goals first
    | exact bodyPost_ret (v := .agg #[.int .i64 (1 + (pickV l k 8 : Nat)), .int .i64 (1 + (pickV l (k + 1) 6 : Nat)), .int .i64 2, .int .i64 0, .string ⟨#[]⟩, .int .i64 (pickV l ((k + 1 + 1 + 1) + 1) 8 : Nat)]) (results_blk Tryz.results32 rfl ((BR.out.set_other (p := ⟨w3.heap.size, 5, none⟩) _ (show w.heap.size ≠ w3.heap.size by omega)).row _) Tryz.underlying38 rfl sizeRepD rfl) rfl ⟨rfl, (HS.out.setB BV.out (by omega) 5 (by simp) (noU8_of rfl) _).row (BR.out.set_other (p := ⟨w3.heap.size, 5, none⟩) _ (show w.heap.size ≠ w3.heap.size by omega)) (by omega) (noU8_of rfl) _, grownBy_row_new (grownBy_set_new HG.out (by omega) _ _) (BR.out.set_other (p := ⟨w3.heap.size, 5, none⟩) _ (show w.heap.size ≠ w3.heap.size by omega)) (Nat.le_refl _) _⟩
    | (exfalso; omega)
    | (exfalso; simp only [beq_iff_eq] at *; omega)

set_option maxHeartbeats 4000000 in
set_option maxRecDepth 100000 in
theorem l1drawReply_11 (g : Nat) (w : World) (v : Value) (l : List Int) (k : Nat) (hL : l.length ≤ 1048576) (hk : k ≤ 700000000) (h : Src w g v l k) (hs : pickV l (k + 1 + 1) 2 = 0) (hp : pickV l (k + 1 + 1 + 1) 10 = 0) :
    Calls Tryz.prog 32 #[.pointer (some ⟨g, 0, none⟩)] w fun r w' => r = .returned (.agg #[.int .i64 (1 + (pickV l k 8 : Nat)), .int .i64 1073741824, .int .i64 1, .int .i64 (1 + (pickV l ((k + 1 + 1 + 1) + 1) 4 : Nat)), .string (wordV l (((k + 1 + 1 + 1) + 1) + 1) true).1, .int .i64 0]) ∧ Src w' g v l (wordV l (((k + 1 + 1 + 1) + 1) + 1) true).2 ∧ w.grownBy w' (some g) := by
  have HS : Hid (Src w g v l k) := h
  have hg0 : g < w.heap.size := h.lt
  clear h
  have b0 := pickV_lt l k 8 (by omega)
  have b1 := pickV_lt l (k + 1) 6 (by omega)
  have b2 := pickV_lt l (k + 1 + 1) 2 (by omega)
  have b3 := pickV_lt l (k + 1 + 1 + 1) 10 (by omega)
  have b4 := pickV_lt l ((k + 1 + 1 + 1) + 1) 4 (by omega)
  have b5 := wordV_size l (((k + 1 + 1 + 1) + 1) + 1) true
  have g0 : True := trivial
  have g1 : True := trivial
  have g2 : True := trivial
  have g3 : True := trivial
  have g4 : True := trivial
  have g5 : True := trivial
  have fa0 : (1 + (pickV l (k + 1 + 1) 2 : Nat) : Int) = 1 := by omega
  have fa1 : ((pickV l (k + 1 + 1 + 1) 10 : Nat) : Int) = 0 := by omega
  go_enter Tryz.func32, Tryz.ntmps32
  go_wp2_with (first
    | (go_at_call 23; clear g0; refine Calls.mono (l1pick_any g _ v l k 8 hL (by omega) (by omega) (by omega) (HS.out.alloc _)) ?_; rintro r w1 ⟨rfl, hs, hg⟩; rw [show pickK 8 = 1 from by first | decide | (unfold pickK; rw [if_pos (by omega)])] at hs; have z0 := hg.size; (try simp [World.setCell] at z0); have BR : Hid (Blk _ _ _ _) := (Blk.new w _ _).grown hg (by omega); have HG : Hid (w.grownBy w1 (some g)) := grownBy_trans (World.grownBy_alloc _ _ _) hg; replace HS : Hid (Src w1 g v l (k + 1)) := hs; clear hs hg)
    | (go_at_call 23; clear g1; refine Calls.mono (l1pick_any g _ v l (k + 1) 6 hL (by omega) (by omega) (by omega) HS.out) ?_; rintro r w2 ⟨rfl, hs, hg⟩; rw [show pickK 6 = 1 from by first | decide | (unfold pickK; rw [if_pos (by omega)])] at hs; have z1 := hg.size; (try simp [World.setCell] at z1); replace BR : Hid (Blk _ _ _ _) := BR.out.grown hg (by omega); replace HG : Hid (w.grownBy w2 (some g)) := grownBy_trans HG.out hg; replace HS : Hid (Src w2 g v l ((k + 1) + 1)) := hs; clear hs hg)
    | (go_at_call 23; clear g2; refine Calls.mono (l1pick_any g _ v l (k + 1 + 1) 2 hL (by omega) (by omega) (by omega) HS.out) ?_; rintro r w3 ⟨rfl, hs, hg⟩; rw [show pickK 2 = 1 from by first | decide | (unfold pickK; rw [if_pos (by omega)])] at hs; have z2 := hg.size; (try simp [World.setCell] at z2); replace BR : Hid (Blk _ _ _ _) := BR.out.grown hg (by omega); replace HG : Hid (w.grownBy w3 (some g)) := grownBy_trans HG.out hg; replace HS : Hid (Src w3 g v l ((k + 1 + 1) + 1)) := hs; clear hs hg)
    | (have hBA := HS; refine gate_st 38 (.tmp 3) _ rfl ?_; clear hBA; refine wpl_store_last rfl 38 (.tmp 3) _ rfl (w3.heap.size) rfl rfl rfl sizeRepD rfl rfl (by simp [Value.oneCell']) ?_)
    | (go_at_call 23; clear g3; refine Calls.mono (l1pick_any g _ v l (k + 1 + 1 + 1) 10 hL (by omega) (by omega) (by omega) (HS.out.alloc _)) ?_; rintro r w4 ⟨rfl, hs, hg⟩; rw [show pickK 10 = 1 from by first | decide | (unfold pickK; rw [if_pos (by omega)])] at hs; have z3 := hg.size; (try simp [World.setCell] at z3); replace BR : Hid (Blk _ _ _ _) := (BR.out.alloc _).grown hg (by omega); replace HG : Hid (w.grownBy w4 (some g)) := grownBy_trans (grownBy_alloc' HG.out _) hg; have BV : Hid (Blk _ _ _ _) := (Blk.new w3 _ _).grown hg (by omega); replace HS : Hid (Src w4 g v l ((k + 1 + 1 + 1) + 1)) := hs; clear hs hg; have cV3 := BV.out.cell; have fV3 := BV.out.free)
    | (go_at_call 23; clear g4; refine Calls.mono (l1pick_any g _ v l ((k + 1 + 1 + 1) + 1) 4 hL (by omega) (by omega) (by omega) (HS.out.setB BV.out (by omega) 1 (by simp) (noU8_of rfl) _)) ?_; rintro r w5 ⟨rfl, hs, hg⟩; rw [show pickK 4 = 1 from by first | decide | (unfold pickK; rw [if_pos (by omega)])] at hs; have z4 := hg.size; (try simp [World.setCell] at z4); replace BR : Hid (Blk _ _ _ _) := (BR.out.set_other (p := ⟨w3.heap.size, 1, none⟩) _ (show w.heap.size ≠ w3.heap.size by omega)).grown hg (by omega); replace HG : Hid (w.grownBy w5 (some g)) := grownBy_trans (grownBy_set_new HG.out (by omega) _ _) hg; replace BV : Hid (Blk _ _ _ _) := (show Blk _ _ #[.int .i64 (1 + (pickV l k 8 : Nat)), .int .i64 1073741824, .int .i64 1, .int .i64 0, .string ⟨#[]⟩, .int .i64 0] _ from by simpa using BV.out.set 1 (.int .i64 1073741824)).grown hg (by omega); replace HS : Hid (Src w5 g v l (((k + 1 + 1 + 1) + 1) + 1)) := hs; clear hs hg; have cV4 := BV.out.cell; have fV4 := BV.out.free)
    | (go_at_call 56; clear g5; refine Calls.mono (l1word_any g _ v l (((k + 1 + 1 + 1) + 1) + 1) true hL (by omega) (HS.out.setB BV.out (by omega) 3 (by simp) (noU8_of rfl) _)) ?_; rintro r w6 ⟨rfl, hs, hg⟩; have z5 := hg.size; (try simp [World.setCell] at z5); replace BR : Hid (Blk _ _ _ _) := (BR.out.set_other (p := ⟨w3.heap.size, 3, none⟩) _ (show w.heap.size ≠ w3.heap.size by omega)).grown hg (by omega); replace HG : Hid (w.grownBy w6 (some g)) := grownBy_trans (grownBy_set_new HG.out (by omega) _ _) hg; replace BV : Hid (Blk _ _ _ _) := (show Blk _ _ #[.int .i64 (1 + (pickV l k 8 : Nat)), .int .i64 1073741824, .int .i64 1, .int .i64 (1 + (pickV l ((k + 1 + 1 + 1) + 1) 4 : Nat)), .string ⟨#[]⟩, .int .i64 0] _ from by simpa using BV.out.set 3 (.int .i64 (1 + (pickV l ((k + 1 + 1 + 1) + 1) 4 : Nat)))).grown hg (by omega); replace HS : Hid (Src w6 g v l (wordV l (((k + 1 + 1 + 1) + 1) + 1) true).2) := hs; clear hs hg; have cV5 := BV.out.cell; have fV5 := BV.out.free)
    | (have hBA := HS; refine gate_ld 38 (.tmp 3) rfl ?_; clear hBA; refine wpl_load_blk rfl 38 (.tmp 3) rfl (w3.heap.size) rfl (show Blk _ _ #[.int .i64 (1 + (pickV l k 8 : Nat)), .int .i64 1073741824, .int .i64 1, .int .i64 (1 + (pickV l ((k + 1 + 1 + 1) + 1) 4 : Nat)), .string (wordV l (((k + 1 + 1 + 1) + 1) + 1) true).1, .int .i64 0] _ from by simpa using BV.out.set 4 (.string (wordV l (((k + 1 + 1 + 1) + 1) + 1) true).1)) Tryz.underlying38 rfl sizeRepD rfl ?_)
    | (have hBA := HS; refine gate_st 38 (.tmp 2) _ rfl ?_; clear hBA; refine wpl_store_blk rfl 38 (.tmp 2) _ rfl (w.heap.size) rfl rfl (BR.out.set_other (p := ⟨w3.heap.size, 4, none⟩) _ (show w.heap.size ≠ w3.heap.size by omega)) sizeRepD rfl rfl (by simp [Value.oneCell']) ?_))
  all_goals first
    | exact bodyPost_ret (v := .agg #[.int .i64 (1 + (pickV l k 8 : Nat)), .int .i64 1073741824, .int .i64 1, .int .i64 (1 + (pickV l ((k + 1 + 1 + 1) + 1) 4 : Nat)), .string (wordV l (((k + 1 + 1 + 1) + 1) + 1) true).1, .int .i64 0]) (results_blk Tryz.results32 rfl ((BR.out.set_other (p := ⟨w3.heap.size, 4, none⟩) _ (show w.heap.size ≠ w3.heap.size by omega)).row _) Tryz.underlying38 rfl sizeRepD rfl) rfl ⟨rfl, (HS.out.setB BV.out (by omega) 4 (by simp) (noU8_of rfl) _).row (BR.out.set_other (p := ⟨w3.heap.size, 4, none⟩) _ (show w.heap.size ≠ w3.heap.size by omega)) (by omega) (noU8_of rfl) _, grownBy_row_new (grownBy_set_new HG.out (by omega) _ _) (BR.out.set_other (p := ⟨w3.heap.size, 4, none⟩) _ (show w.heap.size ≠ w3.heap.size by omega)) (Nat.le_refl _) _⟩
    | (exfalso; omega)
    | (exfalso; simp only [beq_iff_eq] at *; omega)

set_option maxHeartbeats 4000000 in
set_option maxRecDepth 100000 in
theorem l1drawReply_12 (g : Nat) (w : World) (v : Value) (l : List Int) (k : Nat) (hL : l.length ≤ 1048576) (hk : k ≤ 700000000) (h : Src w g v l k) (hs : pickV l (k + 1 + 1) 2 = 1) (hp : pickV l (k + 1 + 1 + 1) 10 = 0) :
    Calls Tryz.prog 32 #[.pointer (some ⟨g, 0, none⟩)] w fun r w' => r = .returned (.agg #[.int .i64 (1 + (pickV l k 8 : Nat)), .int .i64 1073741824, .int .i64 2, .int .i64 0, .string ⟨#[]⟩, .int .i64 (pickV l ((k + 1 + 1 + 1) + 1) 8 : Nat)]) ∧ Src w' g v l (((k + 1 + 1 + 1) + 1) + 1) ∧ w.grownBy w' (some g) := by
  have HS : Hid (Src w g v l k) := h
  have hg0 : g < w.heap.size := h.lt
  clear h
  have b0 := pickV_lt l k 8 (by omega)
  have b1 := pickV_lt l (k + 1) 6 (by omega)
  have b2 := pickV_lt l (k + 1 + 1) 2 (by omega)
  have b3 := pickV_lt l (k + 1 + 1 + 1) 10 (by omega)
  have b4 := pickV_lt l ((k + 1 + 1 + 1) + 1) 8 (by omega)
  have g0 : True := trivial
  have g1 : True := trivial
  have g2 : True := trivial
  have g3 : True := trivial
  have g4 : True := trivial
  have fa0 : (1 + (pickV l (k + 1 + 1) 2 : Nat) : Int) = 2 := by omega
  have fa1 : ((pickV l (k + 1 + 1 + 1) 10 : Nat) : Int) = 0 := by omega
  go_enter Tryz.func32, Tryz.ntmps32
  go_wp2_with (first
    | (go_at_call 23; clear g0; refine Calls.mono (l1pick_any g _ v l k 8 hL (by omega) (by omega) (by omega) (HS.out.alloc _)) ?_; rintro r w1 ⟨rfl, hs, hg⟩; rw [show pickK 8 = 1 from by first | decide | (unfold pickK; rw [if_pos (by omega)])] at hs; have z0 := hg.size; (try simp [World.setCell] at z0); have BR : Hid (Blk _ _ _ _) := (Blk.new w _ _).grown hg (by omega); have HG : Hid (w.grownBy w1 (some g)) := grownBy_trans (World.grownBy_alloc _ _ _) hg; replace HS : Hid (Src w1 g v l (k + 1)) := hs; clear hs hg)
    | (go_at_call 23; clear g1; refine Calls.mono (l1pick_any g _ v l (k + 1) 6 hL (by omega) (by omega) (by omega) HS.out) ?_; rintro r w2 ⟨rfl, hs, hg⟩; rw [show pickK 6 = 1 from by first | decide | (unfold pickK; rw [if_pos (by omega)])] at hs; have z1 := hg.size; (try simp [World.setCell] at z1); replace BR : Hid (Blk _ _ _ _) := BR.out.grown hg (by omega); replace HG : Hid (w.grownBy w2 (some g)) := grownBy_trans HG.out hg; replace HS : Hid (Src w2 g v l ((k + 1) + 1)) := hs; clear hs hg)
    | (go_at_call 23; clear g2; refine Calls.mono (l1pick_any g _ v l (k + 1 + 1) 2 hL (by omega) (by omega) (by omega) HS.out) ?_; rintro r w3 ⟨rfl, hs, hg⟩; rw [show pickK 2 = 1 from by first | decide | (unfold pickK; rw [if_pos (by omega)])] at hs; have z2 := hg.size; (try simp [World.setCell] at z2); replace BR : Hid (Blk _ _ _ _) := BR.out.grown hg (by omega); replace HG : Hid (w.grownBy w3 (some g)) := grownBy_trans HG.out hg; replace HS : Hid (Src w3 g v l ((k + 1 + 1) + 1)) := hs; clear hs hg)
    | (have hBA := HS; refine gate_st 38 (.tmp 3) _ rfl ?_; clear hBA; refine wpl_store_last rfl 38 (.tmp 3) _ rfl (w3.heap.size) rfl rfl rfl sizeRepD rfl rfl (by simp [Value.oneCell']) ?_)
    | (go_at_call 23; clear g3; refine Calls.mono (l1pick_any g _ v l (k + 1 + 1 + 1) 10 hL (by omega) (by omega) (by omega) (HS.out.alloc _)) ?_; rintro r w4 ⟨rfl, hs, hg⟩; rw [show pickK 10 = 1 from by first | decide | (unfold pickK; rw [if_pos (by omega)])] at hs; have z3 := hg.size; (try simp [World.setCell] at z3); replace BR : Hid (Blk _ _ _ _) := (BR.out.alloc _).grown hg (by omega); replace HG : Hid (w.grownBy w4 (some g)) := grownBy_trans (grownBy_alloc' HG.out _) hg; have BV : Hid (Blk _ _ _ _) := (Blk.new w3 _ _).grown hg (by omega); replace HS : Hid (Src w4 g v l ((k + 1 + 1 + 1) + 1)) := hs; clear hs hg; have cV3 := BV.out.cell; have fV3 := BV.out.free)
    | (go_at_call 23; clear g4; refine Calls.mono (l1pick_any g _ v l ((k + 1 + 1 + 1) + 1) 8 hL (by omega) (by omega) (by omega) (HS.out.setB BV.out (by omega) 1 (by simp) (noU8_of rfl) _)) ?_; rintro r w5 ⟨rfl, hs, hg⟩; rw [show pickK 8 = 1 from by first | decide | (unfold pickK; rw [if_pos (by omega)])] at hs; have z4 := hg.size; (try simp [World.setCell] at z4); replace BR : Hid (Blk _ _ _ _) := (BR.out.set_other (p := ⟨w3.heap.size, 1, none⟩) _ (show w.heap.size ≠ w3.heap.size by omega)).grown hg (by omega); replace HG : Hid (w.grownBy w5 (some g)) := grownBy_trans (grownBy_set_new HG.out (by omega) _ _) hg; replace BV : Hid (Blk _ _ _ _) := (show Blk _ _ #[.int .i64 (1 + (pickV l k 8 : Nat)), .int .i64 1073741824, .int .i64 2, .int .i64 0, .string ⟨#[]⟩, .int .i64 0] _ from by simpa using BV.out.set 1 (.int .i64 1073741824)).grown hg (by omega); replace HS : Hid (Src w5 g v l (((k + 1 + 1 + 1) + 1) + 1)) := hs; clear hs hg; have cV4 := BV.out.cell; have fV4 := BV.out.free)
    | (have hBA := HS; refine gate_ld 38 (.tmp 3) rfl ?_; clear hBA; refine wpl_load_blk rfl 38 (.tmp 3) rfl (w3.heap.size) rfl (show Blk _ _ #[.int .i64 (1 + (pickV l k 8 : Nat)), .int .i64 1073741824, .int .i64 2, .int .i64 0, .string ⟨#[]⟩, .int .i64 (pickV l ((k + 1 + 1 + 1) + 1) 8 : Nat)] _ from by simpa using BV.out.set 5 (.int .i64 (pickV l ((k + 1 + 1 + 1) + 1) 8 : Nat))) Tryz.underlying38 rfl sizeRepD rfl ?_)
    | (have hBA := HS; refine gate_st 38 (.tmp 2) _ rfl ?_; clear hBA; refine wpl_store_blk rfl 38 (.tmp 2) _ rfl (w.heap.size) rfl rfl (BR.out.set_other (p := ⟨w3.heap.size, 5, none⟩) _ (show w.heap.size ≠ w3.heap.size by omega)) sizeRepD rfl rfl (by simp [Value.oneCell']) ?_))
  all_goals first
    | exact bodyPost_ret (v := .agg #[.int .i64 (1 + (pickV l k 8 : Nat)), .int .i64 1073741824, .int .i64 2, .int .i64 0, .string ⟨#[]⟩, .int .i64 (pickV l ((k + 1 + 1 + 1) + 1) 8 : Nat)]) (results_blk Tryz.results32 rfl ((BR.out.set_other (p := ⟨w3.heap.size, 5, none⟩) _ (show w.heap.size ≠ w3.heap.size by omega)).row _) Tryz.underlying38 rfl sizeRepD rfl) rfl ⟨rfl, (HS.out.setB BV.out (by omega) 5 (by simp) (noU8_of rfl) _).row (BR.out.set_other (p := ⟨w3.heap.size, 5, none⟩) _ (show w.heap.size ≠ w3.heap.size by omega)) (by omega) (noU8_of rfl) _, grownBy_row_new (grownBy_set_new HG.out (by omega) _ _) (BR.out.set_other (p := ⟨w3.heap.size, 5, none⟩) _ (show w.heap.size ≠ w3.heap.size by omega)) (Nat.le_refl _) _⟩
    | (exfalso; omega)
    | (exfalso; simp only [beq_iff_eq] at *; omega)


/-- the fields of a drawn reply -/
def repSt (l : List Int) (k : Nat) : Int := 1 + (pickV l (k + 1 + 1) 2 : Nat)
def repCd (l : List Int) (k : Nat) : Int := if pickV l (k + 1 + 1) 2 = 0 then 1 + (pickV l (k + 1 + 1 + 1 + 1) 4 : Nat) else 0
def repVl (l : List Int) (k : Nat) : ByteArray := if pickV l (k + 1 + 1) 2 = 0 then (wordV l (k + 1 + 1 + 1 + 1 + 1) true).1 else ⟨#[]⟩
def repLd (l : List Int) (k : Nat) : Int := if pickV l (k + 1 + 1) 2 = 0 then 0 else (pickV l (k + 1 + 1 + 1 + 1) 8 : Nat)
def repK (l : List Int) (k : Nat) : Nat := if pickV l (k + 1 + 1) 2 = 0 then (wordV l (k + 1 + 1 + 1 + 1 + 1) true).2 else k + 1 + 1 + 1 + 1 + 1
def repCl (l : List Int) (k : Nat) : Int := 1 + (pickV l k 8 : Nat)
def repSq (l : List Int) (k : Nat) : Int := if pickV l (k + 1 + 1 + 1) 10 = 0 then 1073741824 else 1 + (pickV l (k + 1) 6 : Nat)
theorem repK_le (l : List Int) (k : Nat) : k < repK l k ∧ repK l k ≤ k + 8 := by
  have h := wordV_size l (k + 1 + 1 + 1 + 1 + 1) true
  unfold repK; split <;> omega
theorem rep_facts (l : List Int) (k : Nat) : (repSt l k = 1 ∧ 1 ≤ repCd l k ∧ repCd l k ≤ 4 ∧ (repVl l k).size ≤ 64 ∧ repLd l k = 0) ∨ (repSt l k = 2 ∧ repCd l k = 0 ∧ (repVl l k).size = 0 ∧ 0 ≤ repLd l k ∧ repLd l k ≤ 7) := by
  have h := wordV_size l (k + 1 + 1 + 1 + 1 + 1) true
  have p2 := pickV_lt l (k + 1 + 1) 2 (by omega)
  have p4 := pickV_lt l (k + 1 + 1 + 1 + 1) 4 (by omega)
  have p8 := pickV_lt l (k + 1 + 1 + 1 + 1) 8 (by omega)
  unfold repSt repCd repVl repLd
  by_cases e : pickV l (k + 1 + 1) 2 = 0
  · left
    rw [if_pos e, if_pos e, if_pos e]
    refine ⟨by omega, by omega, by omega, h.1, rfl⟩
  · right
    rw [if_neg e, if_neg e, if_neg e]
    refine ⟨by omega, rfl, rfl, by omega, by omega⟩

set_option maxHeartbeats 1000000 in
theorem l1drawReply_any (g : Nat) (w : World) (v : Value) (l : List Int) (k : Nat) (hL : l.length ≤ 1048576) (hk : k ≤ 700000000) (h : Src w g v l k) :
    Calls Tryz.prog 32 #[.pointer (some ⟨g, 0, none⟩)] w fun r w' => r = .returned (.agg #[.int .i64 (repCl l k), .int .i64 (repSq l k), .int .i64 (repSt l k), .int .i64 (repCd l k), .string (repVl l k), .int .i64 (repLd l k)]) ∧ Src w' g v l (repK l k) ∧ w.grownBy w' (some g) := by
  have p2 := pickV_lt l (k + 1 + 1) 2 (by omega)
  by_cases hp : pickV l (k + 1 + 1 + 1) 10 = 0
  · have e1 : repSq l k = 1073741824 := by unfold repSq; rw [if_pos hp]
    by_cases hs : pickV l (k + 1 + 1) 2 = 0
    · have e2 : repSt l k = 1 := by unfold repSt; omega
      unfold repCd repVl repLd repK
      rw [e1, e2, if_pos hs, if_pos hs, if_pos hs, if_pos hs]
      exact l1drawReply_11 g w v l k hL hk h hs hp
    · have e2 : repSt l k = 2 := by unfold repSt; omega
      unfold repCd repVl repLd repK
      rw [e1, e2, if_neg hs, if_neg hs, if_neg hs, if_neg hs]
      exact l1drawReply_12 g w v l k hL hk h (by omega) hp
  · have e1 : repSq l k = 1 + (pickV l (k + 1) 6 : Nat) := by unfold repSq; rw [if_neg hp]
    replace hp : 0 < pickV l (k + 1 + 1 + 1) 10 := by omega
    by_cases hs : pickV l (k + 1 + 1) 2 = 0
    · have e2 : repSt l k = 1 := by unfold repSt; omega
      unfold repCd repVl repLd repK
      rw [e1, e2, if_pos hs, if_pos hs, if_pos hs, if_pos hs]
      exact l1drawReply_01 g w v l k hL hk h hs hp
    · have e2 : repSt l k = 2 := by unfold repSt; omega
      unfold repCd repVl repLd repK
      rw [e1, e2, if_neg hs, if_neg hs, if_neg hs, if_neg hs]
      exact l1drawReply_02 g w v l k hL hk h (by omega) hp
end Go.Proofs.YtafmjckpbcijoaaGreatDoor
