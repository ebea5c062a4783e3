/-
  spec.l1drawCmd, spec.l1drawReply: what is drawn, and where the source stands behind it.
-/
import Derived.Test.YtfcmffdljfljkaaDrawB
namespace Go.Proofs.Ytfcmffdljfljkaa
open Go.RowKit
set_option linter.unusedVariables false
set_option linter.unusedSimpArgs false

theorem sizeCmdD : (Try.prog.info? 89).map (·.size) = some 6 := by kernel_rfl

set_option maxHeartbeats 4000000 in
set_option maxRecDepth 100000 in
theorem l1drawCmd_00 (g : Nat) (w : World) (v : Value) (l : List Int) (k : Nat) (hL : l.length ≤ 1048576) (hk : k ≤ 700000000) (h : Src w g v l k) (hp : 0 < pickV l (wordV l (k + 1 + 1 + 1) false).2 12) (ho : pickV l (k + 1 + 1) 4 ≠ 1 ∧ pickV l (k + 1 + 1) 4 ≠ 3) :
    Calls Try.prog 124 #[.pointer (some ⟨g, 0, none⟩)] w fun r w' => r = .returned (.agg #[.int .i64 (1 + (pickV l k 8 : Nat)), .int .i64 (1 + (pickV l (k + 1) 6 : Nat)), .int .i64 (1 + (pickV l (k + 1 + 1) 4 : Nat)), .string (wordV l (k + 1 + 1 + 1) false).1, .string ⟨#[]⟩, .string ⟨#[]⟩]) ∧ Src w' g v l ((wordV l (k + 1 + 1 + 1) false).2 + 1) ∧ w.grownBy w' (some g) := by
  have HS : Hid (Src w g v l k) := h
  have hg0 : g < w.heap.size := h.lt
  clear h
  have b0 := pickV_lt l k 8 (by omega)
  have b1 := pickV_lt l (k + 1) 6 (by omega)
  have b2 := pickV_lt l (k + 1 + 1) 4 (by omega)
  have b3 := wordV_size l (k + 1 + 1 + 1) false
  have b4 := pickV_lt l (wordV l (k + 1 + 1 + 1) false).2 12 (by omega)
  have g0 : True := trivial
  have g1 : True := trivial
  have g2 : True := trivial
  have g3 : True := trivial
  have g4 : True := trivial
  have fa0 : ¬ (1 + (pickV l (k + 1 + 1) 4 : Nat) : Int) = 2 := by omega
  have fa1 : ¬ (1 + (pickV l (k + 1 + 1) 4 : Nat) : Int) = 4 := by omega
  have fa2 : ¬ ((pickV l (wordV l (k + 1 + 1 + 1) false).2 12 : Nat) : Int) = 0 := by omega
  go_enter Try.func124, Try.ntmps124
  go_wp2_with (first
    | (go_at_call 71; clear g0; refine Calls.mono (l1pick_any g _ v l k 8 hL (by omega) (by omega) (by omega) (HS.out.alloc _)) ?_; rintro r w1 ⟨rfl, hs, hg⟩; rw [show pickK 8 = 1 from by first | decide | (unfold pickK; rw [if_pos (by omega)])] at hs; have z0 := hg.size; (try simp [World.setCell] at z0); have BR : Hid (Blk _ _ _ _) := (Blk.new w _ _).grown hg (by omega); have HG : Hid (w.grownBy w1 (some g)) := grownBy_trans (World.grownBy_alloc _ _ _) hg; replace HS : Hid (Src w1 g v l (k + 1)) := hs; clear hs hg)
    | (go_at_call 71; clear g1; refine Calls.mono (l1pick_any g _ v l (k + 1) 6 hL (by omega) (by omega) (by omega) HS.out) ?_; rintro r w2 ⟨rfl, hs, hg⟩; rw [show pickK 6 = 1 from by first | decide | (unfold pickK; rw [if_pos (by omega)])] at hs; have z1 := hg.size; (try simp [World.setCell] at z1); replace BR : Hid (Blk _ _ _ _) := BR.out.grown hg (by omega); replace HG : Hid (w.grownBy w2 (some g)) := grownBy_trans HG.out hg; replace HS : Hid (Src w2 g v l ((k + 1) + 1)) := hs; clear hs hg)
    | (go_at_call 71; clear g2; refine Calls.mono (l1pick_any g _ v l (k + 1 + 1) 4 hL (by omega) (by omega) (by omega) HS.out) ?_; rintro r w3 ⟨rfl, hs, hg⟩; rw [show pickK 4 = 1 from by first | decide | (unfold pickK; rw [if_pos (by omega)])] at hs; have z2 := hg.size; (try simp [World.setCell] at z2); replace BR : Hid (Blk _ _ _ _) := BR.out.grown hg (by omega); replace HG : Hid (w.grownBy w3 (some g)) := grownBy_trans HG.out hg; replace HS : Hid (Src w3 g v l ((k + 1 + 1) + 1)) := hs; clear hs hg)
    | (go_at_call 136; clear g3; refine Calls.mono (l1word_any g _ v l (k + 1 + 1 + 1) false hL (by omega) HS.out) ?_; rintro r w4 ⟨rfl, hs, hg⟩; have z3 := hg.size; (try simp [World.setCell] at z3); replace BR : Hid (Blk _ _ _ _) := BR.out.grown hg (by omega); replace HG : Hid (w.grownBy w4 (some g)) := grownBy_trans HG.out hg; replace HS : Hid (Src w4 g v l (wordV l (k + 1 + 1 + 1) false).2) := hs; clear hs hg)
    | (have hBA := HS; refine gate_st 89 (.tmp 3) _ rfl ?_; clear hBA; refine wpl_store_last rfl 89 (.tmp 3) _ rfl (w4.heap.size) rfl rfl rfl sizeCmdD rfl rfl (by simp [Value.oneCell']) ?_)
    | (go_at_call 71; clear g4; refine Calls.mono (l1pick_any g _ v l (wordV l (k + 1 + 1 + 1) false).2 12 hL (by omega) (by omega) (by omega) (HS.out.alloc _)) ?_; rintro r w5 ⟨rfl, hs, hg⟩; rw [show pickK 12 = 1 from by first | decide | (unfold pickK; rw [if_pos (by omega)])] at hs; have z4 := hg.size; (try simp [World.setCell] at z4); replace BR : Hid (Blk _ _ _ _) := (BR.out.alloc _).grown hg (by omega); replace HG : Hid (w.grownBy w5 (some g)) := grownBy_trans (grownBy_alloc' HG.out _) hg; have BV : Hid (Blk _ _ _ _) := (Blk.new w4 _ _).grown hg (by omega); replace HS : Hid (Src w5 g v l ((wordV l (k + 1 + 1 + 1) false).2 + 1)) := hs; clear hs hg; have cV4 := BV.out.cell; have fV4 := BV.out.free)
    | (have hBA := HS; refine gate_ld 89 (.tmp 3) rfl ?_; clear hBA; refine wpl_load_blk rfl 89 (.tmp 3) rfl (w4.heap.size) rfl BV.out Try.underlying89 rfl sizeCmdD rfl ?_)
    | (have hBA := HS; refine gate_st 89 (.tmp 2) _ rfl ?_; clear hBA; refine wpl_store_blk rfl 89 (.tmp 2) _ rfl (w.heap.size) rfl rfl BR.out sizeCmdD rfl rfl (by simp [Value.oneCell']) ?_))
  all_goals first
    | exact bodyPost_ret (v := .agg #[.int .i64 (1 + (pickV l k 8 : Nat)), .int .i64 (1 + (pickV l (k + 1) 6 : Nat)), .int .i64 (1 + (pickV l (k + 1 + 1) 4 : Nat)), .string (wordV l (k + 1 + 1 + 1) false).1, .string ⟨#[]⟩, .string ⟨#[]⟩]) (results_blk Try.results124 rfl (BR.out.row _) Try.underlying89 rfl sizeCmdD rfl) rfl ⟨rfl, HS.out.row BR.out (by omega) (noU8_of rfl) _, grownBy_row_new HG.out BR.out (Nat.le_refl _) _⟩
    | (exfalso; omega)
    | (exfalso; simp only [beq_iff_eq] at *; omega)

set_option maxHeartbeats 4000000 in
set_option maxRecDepth 100000 in
theorem l1drawCmd_01 (g : Nat) (w : World) (v : Value) (l : List Int) (k : Nat) (hL : l.length ≤ 1048576) (hk : k ≤ 700000000) (h : Src w g v l k) (hp : 0 < pickV l (wordV l (k + 1 + 1 + 1) false).2 12) (ho : pickV l (k + 1 + 1) 4 = 1) :
    Calls Try.prog 124 #[.pointer (some ⟨g, 0, none⟩)] w fun r w' => r = .returned (.agg #[.int .i64 (1 + (pickV l k 8 : Nat)), .int .i64 (1 + (pickV l (k + 1) 6 : Nat)), .int .i64 2, .string (wordV l (k + 1 + 1 + 1) false).1, .string (wordV l ((wordV l (k + 1 + 1 + 1) false).2 + 1) true).1, .string ⟨#[]⟩]) ∧ Src w' g v l (wordV l ((wordV l (k + 1 + 1 + 1) false).2 + 1) true).2 ∧ w.grownBy w' (some g) := by
  have HS : Hid (Src w g v l k) := h
  have hg0 : g < w.heap.size := h.lt
  clear h
  have b0 := pickV_lt l k 8 (by omega)
  have b1 := pickV_lt l (k + 1) 6 (by omega)
  have b2 := pickV_lt l (k + 1 + 1) 4 (by omega)
  have b3 := wordV_size l (k + 1 + 1 + 1) false
  have b4 := pickV_lt l (wordV l (k + 1 + 1 + 1) false).2 12 (by omega)
  have b5 := wordV_size l ((wordV l (k + 1 + 1 + 1) false).2 + 1) true
  have g0 : True := trivial
  have g1 : True := trivial
  have g2 : True := trivial
  have g3 : True := trivial
  have g4 : True := trivial
  have g5 : True := trivial
  have fa0 : (1 + (pickV l (k + 1 + 1) 4 : Nat) : Int) = 2 := by omega
  have fa1 : ¬ (1 + (pickV l (k + 1 + 1) 4 : Nat) : Int) = 4 := by omega
  have fa2 : ¬ ((pickV l (wordV l (k + 1 + 1 + 1) false).2 12 : Nat) : Int) = 0 := by omega
  go_enter Try.func124, Try.ntmps124
  go_wp2_with (first
    | (go_at_call 71; clear g0; refine Calls.mono (l1pick_any g _ v l k 8 hL (by omega) (by omega) (by omega) (HS.out.alloc _)) ?_; rintro r w1 ⟨rfl, hs, hg⟩; rw [show pickK 8 = 1 from by first | decide | (unfold pickK; rw [if_pos (by omega)])] at hs; have z0 := hg.size; (try simp [World.setCell] at z0); have BR : Hid (Blk _ _ _ _) := (Blk.new w _ _).grown hg (by omega); have HG : Hid (w.grownBy w1 (some g)) := grownBy_trans (World.grownBy_alloc _ _ _) hg; replace HS : Hid (Src w1 g v l (k + 1)) := hs; clear hs hg)
    | (go_at_call 71; clear g1; refine Calls.mono (l1pick_any g _ v l (k + 1) 6 hL (by omega) (by omega) (by omega) HS.out) ?_; rintro r w2 ⟨rfl, hs, hg⟩; rw [show pickK 6 = 1 from by first | decide | (unfold pickK; rw [if_pos (by omega)])] at hs; have z1 := hg.size; (try simp [World.setCell] at z1); replace BR : Hid (Blk _ _ _ _) := BR.out.grown hg (by omega); replace HG : Hid (w.grownBy w2 (some g)) := grownBy_trans HG.out hg; replace HS : Hid (Src w2 g v l ((k + 1) + 1)) := hs; clear hs hg)
    | (go_at_call 71; clear g2; refine Calls.mono (l1pick_any g _ v l (k + 1 + 1) 4 hL (by omega) (by omega) (by omega) HS.out) ?_; rintro r w3 ⟨rfl, hs, hg⟩; rw [show pickK 4 = 1 from by first | decide | (unfold pickK; rw [if_pos (by omega)])] at hs; have z2 := hg.size; (try simp [World.setCell] at z2); replace BR : Hid (Blk _ _ _ _) := BR.out.grown hg (by omega); replace HG : Hid (w.grownBy w3 (some g)) := grownBy_trans HG.out hg; replace HS : Hid (Src w3 g v l ((k + 1 + 1) + 1)) := hs; clear hs hg)
    | (go_at_call 136; clear g3; refine Calls.mono (l1word_any g _ v l (k + 1 + 1 + 1) false hL (by omega) HS.out) ?_; rintro r w4 ⟨rfl, hs, hg⟩; have z3 := hg.size; (try simp [World.setCell] at z3); replace BR : Hid (Blk _ _ _ _) := BR.out.grown hg (by omega); replace HG : Hid (w.grownBy w4 (some g)) := grownBy_trans HG.out hg; replace HS : Hid (Src w4 g v l (wordV l (k + 1 + 1 + 1) false).2) := hs; clear hs hg)
    | (have hBA := HS; refine gate_st 89 (.tmp 3) _ rfl ?_; clear hBA; refine wpl_store_last rfl 89 (.tmp 3) _ rfl (w4.heap.size) rfl rfl rfl sizeCmdD rfl rfl (by simp [Value.oneCell']) ?_)
    | (go_at_call 71; clear g4; refine Calls.mono (l1pick_any g _ v l (wordV l (k + 1 + 1 + 1) false).2 12 hL (by omega) (by omega) (by omega) (HS.out.alloc _)) ?_; rintro r w5 ⟨rfl, hs, hg⟩; rw [show pickK 12 = 1 from by first | decide | (unfold pickK; rw [if_pos (by omega)])] at hs; have z4 := hg.size; (try simp [World.setCell] at z4); replace BR : Hid (Blk _ _ _ _) := (BR.out.alloc _).grown hg (by omega); replace HG : Hid (w.grownBy w5 (some g)) := grownBy_trans (grownBy_alloc' HG.out _) hg; have BV : Hid (Blk _ _ _ _) := (Blk.new w4 _ _).grown hg (by omega); replace HS : Hid (Src w5 g v l ((wordV l (k + 1 + 1 + 1) false).2 + 1)) := hs; clear hs hg; have cV4 := BV.out.cell; have fV4 := BV.out.free)
    | (go_at_call 136; clear g5; refine Calls.mono (l1word_any g _ v l ((wordV l (k + 1 + 1 + 1) false).2 + 1) true hL (by omega) HS.out) ?_; rintro r w6 ⟨rfl, hs, hg⟩; have z5 := hg.size; (try simp [World.setCell] at z5); replace BR : Hid (Blk _ _ _ _) := BR.out.grown hg (by omega); replace HG : Hid (w.grownBy w6 (some g)) := grownBy_trans HG.out hg; replace BV : Hid (Blk _ _ _ _) := BV.out.grown hg (by omega); replace HS : Hid (Src w6 g v l (wordV l ((wordV l (k + 1 + 1 + 1) false).2 + 1) true).2) := hs; clear hs hg; have cV5 := BV.out.cell; have fV5 := BV.out.free)
    | (have hBA := HS; refine gate_ld 89 (.tmp 3) rfl ?_; clear hBA; refine wpl_load_blk rfl 89 (.tmp 3) rfl (w4.heap.size) rfl (show Blk _ _ #[.int .i64 (1 + (pickV l k 8 : Nat)), .int .i64 (1 + (pickV l (k + 1) 6 : Nat)), .int .i64 2, .string (wordV l (k + 1 + 1 + 1) false).1, .string (wordV l ((wordV l (k + 1 + 1 + 1) false).2 + 1) true).1, .string ⟨#[]⟩] _ from by simpa using BV.out.set 4 (.string (wordV l ((wordV l (k + 1 + 1 + 1) false).2 + 1) true).1)) Try.underlying89 rfl sizeCmdD rfl ?_)
    | (have hBA := HS; refine gate_st 89 (.tmp 2) _ rfl ?_; clear hBA; refine wpl_store_blk rfl 89 (.tmp 2) _ rfl (w.heap.size) rfl rfl (BR.out.set_other (p := ⟨w4.heap.size, 4, none⟩) _ (show w.heap.size ≠ w4.heap.size by omega)) sizeCmdD rfl rfl (by simp [Value.oneCell']) ?_))
  all_goals first
    | exact bodyPost_ret (v := .agg #[.int .i64 (1 + (pickV l k 8 : Nat)), .int .i64 (1 + (pickV l (k + 1) 6 : Nat)), .int .i64 2, .string (wordV l (k + 1 + 1 + 1) false).1, .string (wordV l ((wordV l (k + 1 + 1 + 1) false).2 + 1) true).1, .string ⟨#[]⟩]) (results_blk Try.results124 rfl ((BR.out.set_other (p := ⟨w4.heap.size, 4, none⟩) _ (show w.heap.size ≠ w4.heap.size by omega)).row _) Try.underlying89 rfl sizeCmdD rfl) rfl ⟨rfl, (HS.out.setB BV.out (by omega) 4 (by simp) (noU8_of rfl) _).row (BR.out.set_other (p := ⟨w4.heap.size, 4, none⟩) _ (show w.heap.size ≠ w4.heap.size by omega)) (by omega) (noU8_of rfl) _, grownBy_row_new (grownBy_set_new HG.out (by omega) _ _) (BR.out.set_other (p := ⟨w4.heap.size, 4, none⟩) _ (show w.heap.size ≠ w4.heap.size by omega)) (Nat.le_refl _) _⟩
    | (exfalso; omega)
    | (exfalso; simp only [beq_iff_eq] at *; omega)

set_option maxHeartbeats 4000000 in
set_option maxRecDepth 100000 in
theorem l1drawCmd_02 (g : Nat) (w : World) (v : Value) (l : List Int) (k : Nat) (hL : l.length ≤ 1048576) (hk : k ≤ 700000000) (h : Src w g v l k) (hp : 0 < pickV l (wordV l (k + 1 + 1 + 1) false).2 12) (ho : pickV l (k + 1 + 1) 4 = 3) :
    Calls Try.prog 124 #[.pointer (some ⟨g, 0, none⟩)] w fun r w' => r = .returned (.agg #[.int .i64 (1 + (pickV l k 8 : Nat)), .int .i64 (1 + (pickV l (k + 1) 6 : Nat)), .int .i64 4, .string (wordV l (k + 1 + 1 + 1) false).1, .string (wordV l ((wordV l (k + 1 + 1 + 1) false).2 + 1) true).1, .string (wordV l (wordV l ((wordV l (k + 1 + 1 + 1) false).2 + 1) true).2 true).1]) ∧ Src w' g v l (wordV l (wordV l ((wordV l (k + 1 + 1 + 1) false).2 + 1) true).2 true).2 ∧ w.grownBy w' (some g) := by
  have HS : Hid (Src w g v l k) := h
  have hg0 : g < w.heap.size := h.lt
  clear h
  have b0 := pickV_lt l k 8 (by omega)
  have b1 := pickV_lt l (k + 1) 6 (by omega)
  have b2 := pickV_lt l (k + 1 + 1) 4 (by omega)
  have b3 := wordV_size l (k + 1 + 1 + 1) false
  have b4 := pickV_lt l (wordV l (k + 1 + 1 + 1) false).2 12 (by omega)
  have b5 := wordV_size l ((wordV l (k + 1 + 1 + 1) false).2 + 1) true
  have b6 := wordV_size l (wordV l ((wordV l (k + 1 + 1 + 1) false).2 + 1) true).2 true
  have g0 : True := trivial
  have g1 : True := trivial
  have g2 : True := trivial
  have g3 : True := trivial
  have g4 : True := trivial
  have g5 : True := trivial
  have g6 : True := trivial
  have fa0 : ¬ (1 + (pickV l (k + 1 + 1) 4 : Nat) : Int) = 2 := by omega
  have fa1 : (1 + (pickV l (k + 1 + 1) 4 : Nat) : Int) = 4 := by omega
  have fa2 : ¬ ((pickV l (wordV l (k + 1 + 1 + 1) false).2 12 : Nat) : Int) = 0 := by omega
  go_enter Try.func124, Try.ntmps124
  go_wp2_with (first
    | (go_at_call 71; clear g0; refine Calls.mono (l1pick_any g _ v l k 8 hL (by omega) (by omega) (by omega) (HS.out.alloc _)) ?_; rintro r w1 ⟨rfl, hs, hg⟩; rw [show pickK 8 = 1 from by first | decide | (unfold pickK; rw [if_pos (by omega)])] at hs; have z0 := hg.size; (try simp [World.setCell] at z0); have BR : Hid (Blk _ _ _ _) := (Blk.new w _ _).grown hg (by omega); have HG : Hid (w.grownBy w1 (some g)) := grownBy_trans (World.grownBy_alloc _ _ _) hg; replace HS : Hid (Src w1 g v l (k + 1)) := hs; clear hs hg)
    | (go_at_call 71; clear g1; refine Calls.mono (l1pick_any g _ v l (k + 1) 6 hL (by omega) (by omega) (by omega) HS.out) ?_; rintro r w2 ⟨rfl, hs, hg⟩; rw [show pickK 6 = 1 from by first | decide | (unfold pickK; rw [if_pos (by omega)])] at hs; have z1 := hg.size; (try simp [World.setCell] at z1); replace BR : Hid (Blk _ _ _ _) := BR.out.grown hg (by omega); replace HG : Hid (w.grownBy w2 (some g)) := grownBy_trans HG.out hg; replace HS : Hid (Src w2 g v l ((k + 1) + 1)) := hs; clear hs hg)
    | (go_at_call 71; clear g2; refine Calls.mono (l1pick_any g _ v l (k + 1 + 1) 4 hL (by omega) (by omega) (by omega) HS.out) ?_; rintro r w3 ⟨rfl, hs, hg⟩; rw [show pickK 4 = 1 from by first | decide | (unfold pickK; rw [if_pos (by omega)])] at hs; have z2 := hg.size; (try simp [World.setCell] at z2); replace BR : Hid (Blk _ _ _ _) := BR.out.grown hg (by omega); replace HG : Hid (w.grownBy w3 (some g)) := grownBy_trans HG.out hg; replace HS : Hid (Src w3 g v l ((k + 1 + 1) + 1)) := hs; clear hs hg)
    | (go_at_call 136; clear g3; refine Calls.mono (l1word_any g _ v l (k + 1 + 1 + 1) false hL (by omega) HS.out) ?_; rintro r w4 ⟨rfl, hs, hg⟩; have z3 := hg.size; (try simp [World.setCell] at z3); replace BR : Hid (Blk _ _ _ _) := BR.out.grown hg (by omega); replace HG : Hid (w.grownBy w4 (some g)) := grownBy_trans HG.out hg; replace HS : Hid (Src w4 g v l (wordV l (k + 1 + 1 + 1) false).2) := hs; clear hs hg)
    | (have hBA := HS; refine gate_st 89 (.tmp 3) _ rfl ?_; clear hBA; refine wpl_store_last rfl 89 (.tmp 3) _ rfl (w4.heap.size) rfl rfl rfl sizeCmdD rfl rfl (by simp [Value.oneCell']) ?_)
    | (go_at_call 71; clear g4; refine Calls.mono (l1pick_any g _ v l (wordV l (k + 1 + 1 + 1) false).2 12 hL (by omega) (by omega) (by omega) (HS.out.alloc _)) ?_; rintro r w5 ⟨rfl, hs, hg⟩; rw [show pickK 12 = 1 from by first | decide | (unfold pickK; rw [if_pos (by omega)])] at hs; have z4 := hg.size; (try simp [World.setCell] at z4); replace BR : Hid (Blk _ _ _ _) := (BR.out.alloc _).grown hg (by omega); replace HG : Hid (w.grownBy w5 (some g)) := grownBy_trans (grownBy_alloc' HG.out _) hg; have BV : Hid (Blk _ _ _ _) := (Blk.new w4 _ _).grown hg (by omega); replace HS : Hid (Src w5 g v l ((wordV l (k + 1 + 1 + 1) false).2 + 1)) := hs; clear hs hg; have cV4 := BV.out.cell; have fV4 := BV.out.free)
    | (go_at_call 136; clear g5; refine Calls.mono (l1word_any g _ v l ((wordV l (k + 1 + 1 + 1) false).2 + 1) true hL (by omega) HS.out) ?_; rintro r w6 ⟨rfl, hs, hg⟩; have z5 := hg.size; (try simp [World.setCell] at z5); replace BR : Hid (Blk _ _ _ _) := BR.out.grown hg (by omega); replace HG : Hid (w.grownBy w6 (some g)) := grownBy_trans HG.out hg; replace BV : Hid (Blk _ _ _ _) := BV.out.grown hg (by omega); replace HS : Hid (Src w6 g v l (wordV l ((wordV l (k + 1 + 1 + 1) false).2 + 1) true).2) := hs; clear hs hg; have cV5 := BV.out.cell; have fV5 := BV.out.free)
    | (go_at_call 136; clear g6; refine Calls.mono (l1word_any g _ v l (wordV l ((wordV l (k + 1 + 1 + 1) false).2 + 1) true).2 true hL (by omega) (HS.out.setB BV.out (by omega) 4 (by simp) (noU8_of rfl) _)) ?_; rintro r w7 ⟨rfl, hs, hg⟩; have z6 := hg.size; (try simp [World.setCell] at z6); replace BR : Hid (Blk _ _ _ _) := (BR.out.set_other (p := ⟨w4.heap.size, 4, none⟩) _ (show w.heap.size ≠ w4.heap.size by omega)).grown hg (by omega); replace HG : Hid (w.grownBy w7 (some g)) := grownBy_trans (grownBy_set_new HG.out (by omega) _ _) hg; replace BV : Hid (Blk _ _ _ _) := (show Blk _ _ #[.int .i64 (1 + (pickV l k 8 : Nat)), .int .i64 (1 + (pickV l (k + 1) 6 : Nat)), .int .i64 4, .string (wordV l (k + 1 + 1 + 1) false).1, .string (wordV l ((wordV l (k + 1 + 1 + 1) false).2 + 1) true).1, .string ⟨#[]⟩] _ from by simpa using BV.out.set 4 (.string (wordV l ((wordV l (k + 1 + 1 + 1) false).2 + 1) true).1)).grown hg (by omega); replace HS : Hid (Src w7 g v l (wordV l (wordV l ((wordV l (k + 1 + 1 + 1) false).2 + 1) true).2 true).2) := hs; clear hs hg; have cV6 := BV.out.cell; have fV6 := BV.out.free)
    | (have hBA := HS; refine gate_ld 89 (.tmp 3) rfl ?_; clear hBA; refine wpl_load_blk rfl 89 (.tmp 3) rfl (w4.heap.size) rfl (show Blk _ _ #[.int .i64 (1 + (pickV l k 8 : Nat)), .int .i64 (1 + (pickV l (k + 1) 6 : Nat)), .int .i64 4, .string (wordV l (k + 1 + 1 + 1) false).1, .string (wordV l ((wordV l (k + 1 + 1 + 1) false).2 + 1) true).1, .string (wordV l (wordV l ((wordV l (k + 1 + 1 + 1) false).2 + 1) true).2 true).1] _ from by simpa using BV.out.set 5 (.string (wordV l (wordV l ((wordV l (k + 1 + 1 + 1) false).2 + 1) true).2 true).1)) Try.underlying89 rfl sizeCmdD rfl ?_)
    | (have hBA := HS; refine gate_st 89 (.tmp 2) _ rfl ?_; clear hBA; refine wpl_store_blk rfl 89 (.tmp 2) _ rfl (w.heap.size) rfl rfl (BR.out.set_other (p := ⟨w4.heap.size, 5, none⟩) _ (show w.heap.size ≠ w4.heap.size by omega)) sizeCmdD rfl rfl (by simp [Value.oneCell']) ?_))
  all_goals first
    | exact bodyPost_ret (v := .agg #[.int .i64 (1 + (pickV l k 8 : Nat)), .int .i64 (1 + (pickV l (k + 1) 6 : Nat)), .int .i64 4, .string (wordV l (k + 1 + 1 + 1) false).1, .string (wordV l ((wordV l (k + 1 + 1 + 1) false).2 + 1) true).1, .string (wordV l (wordV l ((wordV l (k + 1 + 1 + 1) false).2 + 1) true).2 true).1]) (results_blk Try.results124 rfl ((BR.out.set_other (p := ⟨w4.heap.size, 5, none⟩) _ (show w.heap.size ≠ w4.heap.size by omega)).row _) Try.underlying89 rfl sizeCmdD rfl) rfl ⟨rfl, (HS.out.setB BV.out (by omega) 5 (by simp) (noU8_of rfl) _).row (BR.out.set_other (p := ⟨w4.heap.size, 5, none⟩) _ (show w.heap.size ≠ w4.heap.size by omega)) (by omega) (noU8_of rfl) _, grownBy_row_new (grownBy_set_new HG.out (by omega) _ _) (BR.out.set_other (p := ⟨w4.heap.size, 5, none⟩) _ (show w.heap.size ≠ w4.heap.size by omega)) (Nat.le_refl _) _⟩
    | (exfalso; omega)
    | (exfalso; simp only [beq_iff_eq] at *; omega)

set_option maxHeartbeats 4000000 in
set_option maxRecDepth 100000 in
theorem l1drawCmd_10 (g : Nat) (w : World) (v : Value) (l : List Int) (k : Nat) (hL : l.length ≤ 1048576) (hk : k ≤ 700000000) (h : Src w g v l k) (hp : pickV l (wordV l (k + 1 + 1 + 1) false).2 12 = 0) (ho : pickV l (k + 1 + 1) 4 ≠ 1 ∧ pickV l (k + 1 + 1) 4 ≠ 3) :
    Calls Try.prog 124 #[.pointer (some ⟨g, 0, none⟩)] w fun r w' => r = .returned (.agg #[.int .i64 (1 + (pickV l k 8 : Nat)), .int .i64 (1073741824 - (pickV l ((wordV l (k + 1 + 1 + 1) false).2 + 1) 2 : Nat)), .int .i64 (1 + (pickV l (k + 1 + 1) 4 : Nat)), .string (wordV l (k + 1 + 1 + 1) false).1, .string ⟨#[]⟩, .string ⟨#[]⟩]) ∧ Src w' g v l (((wordV l (k + 1 + 1 + 1) false).2 + 1) + 1) ∧ w.grownBy w' (some g) := by
  have HS : Hid (Src w g v l k) := h
  have hg0 : g < w.heap.size := h.lt
  clear h
  have b0 := pickV_lt l k 8 (by omega)
  have b1 := pickV_lt l (k + 1) 6 (by omega)
  have b2 := pickV_lt l (k + 1 + 1) 4 (by omega)
  have b3 := wordV_size l (k + 1 + 1 + 1) false
  have b4 := pickV_lt l (wordV l (k + 1 + 1 + 1) false).2 12 (by omega)
  have b5 := pickV_lt l ((wordV l (k + 1 + 1 + 1) false).2 + 1) 2 (by omega)
  have g0 : True := trivial
  have g1 : True := trivial
  have g2 : True := trivial
  have g3 : True := trivial
  have g4 : True := trivial
  have g5 : True := trivial
  have fa0 : ¬ (1 + (pickV l (k + 1 + 1) 4 : Nat) : Int) = 2 := by omega
  have fa1 : ¬ (1 + (pickV l (k + 1 + 1) 4 : Nat) : Int) = 4 := by omega
  have fa2 : ((pickV l (wordV l (k + 1 + 1 + 1) false).2 12 : Nat) : Int) = 0 := by omega
  go_enter Try.func124, Try.ntmps124
  go_wp2_with (first
    | (go_at_call 71; clear g0; refine Calls.mono (l1pick_any g _ v l k 8 hL (by omega) (by omega) (by omega) (HS.out.alloc _)) ?_; rintro r w1 ⟨rfl, hs, hg⟩; rw [show pickK 8 = 1 from by first | decide | (unfold pickK; rw [if_pos (by omega)])] at hs; have z0 := hg.size; (try simp [World.setCell] at z0); have BR : Hid (Blk _ _ _ _) := (Blk.new w _ _).grown hg (by omega); have HG : Hid (w.grownBy w1 (some g)) := grownBy_trans (World.grownBy_alloc _ _ _) hg; replace HS : Hid (Src w1 g v l (k + 1)) := hs; clear hs hg)
    | (go_at_call 71; clear g1; refine Calls.mono (l1pick_any g _ v l (k + 1) 6 hL (by omega) (by omega) (by omega) HS.out) ?_; rintro r w2 ⟨rfl, hs, hg⟩; rw [show pickK 6 = 1 from by first | decide | (unfold pickK; rw [if_pos (by omega)])] at hs; have z1 := hg.size; (try simp [World.setCell] at z1); replace BR : Hid (Blk _ _ _ _) := BR.out.grown hg (by omega); replace HG : Hid (w.grownBy w2 (some g)) := grownBy_trans HG.out hg; replace HS : Hid (Src w2 g v l ((k + 1) + 1)) := hs; clear hs hg)
    | (go_at_call 71; clear g2; refine Calls.mono (l1pick_any g _ v l (k + 1 + 1) 4 hL (by omega) (by omega) (by omega) HS.out) ?_; rintro r w3 ⟨rfl, hs, hg⟩; rw [show pickK 4 = 1 from by first | decide | (unfold pickK; rw [if_pos (by omega)])] at hs; have z2 := hg.size; (try simp [World.setCell] at z2); replace BR : Hid (Blk _ _ _ _) := BR.out.grown hg (by omega); replace HG : Hid (w.grownBy w3 (some g)) := grownBy_trans HG.out hg; replace HS : Hid (Src w3 g v l ((k + 1 + 1) + 1)) := hs; clear hs hg)
    | (go_at_call 136; clear g3; refine Calls.mono (l1word_any g _ v l (k + 1 + 1 + 1) false hL (by omega) HS.out) ?_; rintro r w4 ⟨rfl, hs, hg⟩; have z3 := hg.size; (try simp [World.setCell] at z3); replace BR : Hid (Blk _ _ _ _) := BR.out.grown hg (by omega); replace HG : Hid (w.grownBy w4 (some g)) := grownBy_trans HG.out hg; replace HS : Hid (Src w4 g v l (wordV l (k + 1 + 1 + 1) false).2) := hs; clear hs hg)
    | (have hBA := HS; refine gate_st 89 (.tmp 3) _ rfl ?_; clear hBA; refine wpl_store_last rfl 89 (.tmp 3) _ rfl (w4.heap.size) rfl rfl rfl sizeCmdD rfl rfl (by simp [Value.oneCell']) ?_)
    | (go_at_call 71; clear g4; refine Calls.mono (l1pick_any g _ v l (wordV l (k + 1 + 1 + 1) false).2 12 hL (by omega) (by omega) (by omega) (HS.out.alloc _)) ?_; rintro r w5 ⟨rfl, hs, hg⟩; rw [show pickK 12 = 1 from by first | decide | (unfold pickK; rw [if_pos (by omega)])] at hs; have z4 := hg.size; (try simp [World.setCell] at z4); replace BR : Hid (Blk _ _ _ _) := (BR.out.alloc _).grown hg (by omega); replace HG : Hid (w.grownBy w5 (some g)) := grownBy_trans (grownBy_alloc' HG.out _) hg; have BV : Hid (Blk _ _ _ _) := (Blk.new w4 _ _).grown hg (by omega); replace HS : Hid (Src w5 g v l ((wordV l (k + 1 + 1 + 1) false).2 + 1)) := hs; clear hs hg; have cV4 := BV.out.cell; have fV4 := BV.out.free)
    | (go_at_call 71; clear g5; refine Calls.mono (l1pick_any g _ v l ((wordV l (k + 1 + 1 + 1) false).2 + 1) 2 hL (by omega) (by omega) (by omega) HS.out) ?_; rintro r w6 ⟨rfl, hs, hg⟩; rw [show pickK 2 = 1 from by first | decide | (unfold pickK; rw [if_pos (by omega)])] at hs; have z5 := hg.size; (try simp [World.setCell] at z5); replace BR : Hid (Blk _ _ _ _) := BR.out.grown hg (by omega); replace HG : Hid (w.grownBy w6 (some g)) := grownBy_trans HG.out hg; replace BV : Hid (Blk _ _ _ _) := BV.out.grown hg (by omega); replace HS : Hid (Src w6 g v l (((wordV l (k + 1 + 1 + 1) false).2 + 1) + 1)) := hs; clear hs hg; have cV5 := BV.out.cell; have fV5 := BV.out.free)
    | (have hBA := HS; refine gate_ld 89 (.tmp 3) rfl ?_; clear hBA; refine wpl_load_blk rfl 89 (.tmp 3) rfl (w4.heap.size) rfl (show Blk _ _ #[.int .i64 (1 + (pickV l k 8 : Nat)), .int .i64 (1073741824 - (pickV l ((wordV l (k + 1 + 1 + 1) false).2 + 1) 2 : Nat)), .int .i64 (1 + (pickV l (k + 1 + 1) 4 : Nat)), .string (wordV l (k + 1 + 1 + 1) false).1, .string ⟨#[]⟩, .string ⟨#[]⟩] _ from by simpa using BV.out.set 1 (.int .i64 (1073741824 - (pickV l ((wordV l (k + 1 + 1 + 1) false).2 + 1) 2 : Nat)))) Try.underlying89 rfl sizeCmdD rfl ?_)
    | (have hBA := HS; refine gate_st 89 (.tmp 2) _ rfl ?_; clear hBA; refine wpl_store_blk rfl 89 (.tmp 2) _ rfl (w.heap.size) rfl rfl (BR.out.set_other (p := ⟨w4.heap.size, 1, none⟩) _ (show w.heap.size ≠ w4.heap.size by omega)) sizeCmdD rfl rfl (by simp [Value.oneCell']) ?_))
  all_goals first
    | exact bodyPost_ret (v := .agg #[.int .i64 (1 + (pickV l k 8 : Nat)), .int .i64 (1073741824 - (pickV l ((wordV l (k + 1 + 1 + 1) false).2 + 1) 2 : Nat)), .int .i64 (1 + (pickV l (k + 1 + 1) 4 : Nat)), .string (wordV l (k + 1 + 1 + 1) false).1, .string ⟨#[]⟩, .string ⟨#[]⟩]) (results_blk Try.results124 rfl ((BR.out.set_other (p := ⟨w4.heap.size, 1, none⟩) _ (show w.heap.size ≠ w4.heap.size by omega)).row _) Try.underlying89 rfl sizeCmdD rfl) rfl ⟨rfl, (HS.out.setB BV.out (by omega) 1 (by simp) (noU8_of rfl) _).row (BR.out.set_other (p := ⟨w4.heap.size, 1, none⟩) _ (show w.heap.size ≠ w4.heap.size by omega)) (by omega) (noU8_of rfl) _, grownBy_row_new (grownBy_set_new HG.out (by omega) _ _) (BR.out.set_other (p := ⟨w4.heap.size, 1, none⟩) _ (show w.heap.size ≠ w4.heap.size by omega)) (Nat.le_refl _) _⟩
    | (exfalso; omega)
    | (exfalso; simp only [beq_iff_eq] at *; omega)

set_option maxHeartbeats 4000000 in
set_option maxRecDepth 100000 in
theorem l1drawCmd_11 (g : Nat) (w : World) (v : Value) (l : List Int) (k : Nat) (hL : l.length ≤ 1048576) (hk : k ≤ 700000000) (h : Src w g v l k) (hp : pickV l (wordV l (k + 1 + 1 + 1) false).2 12 = 0) (ho : pickV l (k + 1 + 1) 4 = 1) :
    Calls Try.prog 124 #[.pointer (some ⟨g, 0, none⟩)] w fun r w' => r = .returned (.agg #[.int .i64 (1 + (pickV l k 8 : Nat)), .int .i64 (1073741824 - (pickV l ((wordV l (k + 1 + 1 + 1) false).2 + 1) 2 : Nat)), .int .i64 2, .string (wordV l (k + 1 + 1 + 1) false).1, .string (wordV l (((wordV l (k + 1 + 1 + 1) false).2 + 1) + 1) true).1, .string ⟨#[]⟩]) ∧ Src w' g v l (wordV l (((wordV l (k + 1 + 1 + 1) false).2 + 1) + 1) true).2 ∧ w.grownBy w' (some g) := by
  have HS : Hid (Src w g v l k) := h
  have hg0 : g < w.heap.size := h.lt
  clear h
  have b0 := pickV_lt l k 8 (by omega)
  have b1 := pickV_lt l (k + 1) 6 (by omega)
  have b2 := pickV_lt l (k + 1 + 1) 4 (by omega)
  have b3 := wordV_size l (k + 1 + 1 + 1) false
  have b4 := pickV_lt l (wordV l (k + 1 + 1 + 1) false).2 12 (by omega)
  have b5 := pickV_lt l ((wordV l (k + 1 + 1 + 1) false).2 + 1) 2 (by omega)
  have b6 := wordV_size l (((wordV l (k + 1 + 1 + 1) false).2 + 1) + 1) true
  have g0 : True := trivial
  have g1 : True := trivial
  have g2 : True := trivial
  have g3 : True := trivial
  have g4 : True := trivial
  have g5 : True := trivial
  have g6 : True := trivial
  have fa0 : (1 + (pickV l (k + 1 + 1) 4 : Nat) : Int) = 2 := by omega
  have fa1 : ¬ (1 + (pickV l (k + 1 + 1) 4 : Nat) : Int) = 4 := by omega
  have fa2 : ((pickV l (wordV l (k + 1 + 1 + 1) false).2 12 : Nat) : Int) = 0 := by omega
  go_enter Try.func124, Try.ntmps124
  go_wp2_with (first
    | (go_at_call 71; clear g0; refine Calls.mono (l1pick_any g _ v l k 8 hL (by omega) (by omega) (by omega) (HS.out.alloc _)) ?_; rintro r w1 ⟨rfl, hs, hg⟩; rw [show pickK 8 = 1 from by first | decide | (unfold pickK; rw [if_pos (by omega)])] at hs; have z0 := hg.size; (try simp [World.setCell] at z0); have BR : Hid (Blk _ _ _ _) := (Blk.new w _ _).grown hg (by omega); have HG : Hid (w.grownBy w1 (some g)) := grownBy_trans (World.grownBy_alloc _ _ _) hg; replace HS : Hid (Src w1 g v l (k + 1)) := hs; clear hs hg)
    | (go_at_call 71; clear g1; refine Calls.mono (l1pick_any g _ v l (k + 1) 6 hL (by omega) (by omega) (by omega) HS.out) ?_; rintro r w2 ⟨rfl, hs, hg⟩; rw [show pickK 6 = 1 from by first | decide | (unfold pickK; rw [if_pos (by omega)])] at hs; have z1 := hg.size; (try simp [World.setCell] at z1); replace BR : Hid (Blk _ _ _ _) := BR.out.grown hg (by omega); replace HG : Hid (w.grownBy w2 (some g)) := grownBy_trans HG.out hg; replace HS : Hid (Src w2 g v l ((k + 1) + 1)) := hs; clear hs hg)
    | (go_at_call 71; clear g2; refine Calls.mono (l1pick_any g _ v l (k + 1 + 1) 4 hL (by omega) (by omega) (by omega) HS.out) ?_; rintro r w3 ⟨rfl, hs, hg⟩; rw [show pickK 4 = 1 from by first | decide | (unfold pickK; rw [if_pos (by omega)])] at hs; have z2 := hg.size; (try simp [World.setCell] at z2); replace BR : Hid (Blk _ _ _ _) := BR.out.grown hg (by omega); replace HG : Hid (w.grownBy w3 (some g)) := grownBy_trans HG.out hg; replace HS : Hid (Src w3 g v l ((k + 1 + 1) + 1)) := hs; clear hs hg)
    | (go_at_call 136; clear g3; refine Calls.mono (l1word_any g _ v l (k + 1 + 1 + 1) false hL (by omega) HS.out) ?_; rintro r w4 ⟨rfl, hs, hg⟩; have z3 := hg.size; (try simp [World.setCell] at z3); replace BR : Hid (Blk _ _ _ _) := BR.out.grown hg (by omega); replace HG : Hid (w.grownBy w4 (some g)) := grownBy_trans HG.out hg; replace HS : Hid (Src w4 g v l (wordV l (k + 1 + 1 + 1) false).2) := hs; clear hs hg)
    | (have hBA := HS; refine gate_st 89 (.tmp 3) _ rfl ?_; clear hBA; refine wpl_store_last rfl 89 (.tmp 3) _ rfl (w4.heap.size) rfl rfl rfl sizeCmdD rfl rfl (by simp [Value.oneCell']) ?_)
    | (go_at_call 71; clear g4; refine Calls.mono (l1pick_any g _ v l (wordV l (k + 1 + 1 + 1) false).2 12 hL (by omega) (by omega) (by omega) (HS.out.alloc _)) ?_; rintro r w5 ⟨rfl, hs, hg⟩; rw [show pickK 12 = 1 from by first | decide | (unfold pickK; rw [if_pos (by omega)])] at hs; have z4 := hg.size; (try simp [World.setCell] at z4); replace BR : Hid (Blk _ _ _ _) := (BR.out.alloc _).grown hg (by omega); replace HG : Hid (w.grownBy w5 (some g)) := grownBy_trans (grownBy_alloc' HG.out _) hg; have BV : Hid (Blk _ _ _ _) := (Blk.new w4 _ _).grown hg (by omega); replace HS : Hid (Src w5 g v l ((wordV l (k + 1 + 1 + 1) false).2 + 1)) := hs; clear hs hg; have cV4 := BV.out.cell; have fV4 := BV.out.free)
    | (go_at_call 71; clear g5; refine Calls.mono (l1pick_any g _ v l ((wordV l (k + 1 + 1 + 1) false).2 + 1) 2 hL (by omega) (by omega) (by omega) HS.out) ?_; rintro r w6 ⟨rfl, hs, hg⟩; rw [show pickK 2 = 1 from by first | decide | (unfold pickK; rw [if_pos (by omega)])] at hs; have z5 := hg.size; (try simp [World.setCell] at z5); replace BR : Hid (Blk _ _ _ _) := BR.out.grown hg (by omega); replace HG : Hid (w.grownBy w6 (some g)) := grownBy_trans HG.out hg; replace BV : Hid (Blk _ _ _ _) := BV.out.grown hg (by omega); replace HS : Hid (Src w6 g v l (((wordV l (k + 1 + 1 + 1) false).2 + 1) + 1)) := hs; clear hs hg; have cV5 := BV.out.cell; have fV5 := BV.out.free)
    | (go_at_call 136; clear g6; refine Calls.mono (l1word_any g _ v l (((wordV l (k + 1 + 1 + 1) false).2 + 1) + 1) true hL (by omega) (HS.out.setB BV.out (by omega) 1 (by simp) (noU8_of rfl) _)) ?_; rintro r w7 ⟨rfl, hs, hg⟩; have z6 := hg.size; (try simp [World.setCell] at z6); replace BR : Hid (Blk _ _ _ _) := (BR.out.set_other (p := ⟨w4.heap.size, 1, none⟩) _ (show w.heap.size ≠ w4.heap.size by omega)).grown hg (by omega); replace HG : Hid (w.grownBy w7 (some g)) := grownBy_trans (grownBy_set_new HG.out (by omega) _ _) hg; replace BV : Hid (Blk _ _ _ _) := (show Blk _ _ #[.int .i64 (1 + (pickV l k 8 : Nat)), .int .i64 (1073741824 - (pickV l ((wordV l (k + 1 + 1 + 1) false).2 + 1) 2 : Nat)), .int .i64 2, .string (wordV l (k + 1 + 1 + 1) false).1, .string ⟨#[]⟩, .string ⟨#[]⟩] _ from by simpa using BV.out.set 1 (.int .i64 (1073741824 - (pickV l ((wordV l (k + 1 + 1 + 1) false).2 + 1) 2 : Nat)))).grown hg (by omega); replace HS : Hid (Src w7 g v l (wordV l (((wordV l (k + 1 + 1 + 1) false).2 + 1) + 1) true).2) := hs; clear hs hg; have cV6 := BV.out.cell; have fV6 := BV.out.free)
    | (have hBA := HS; refine gate_ld 89 (.tmp 3) rfl ?_; clear hBA; refine wpl_load_blk rfl 89 (.tmp 3) rfl (w4.heap.size) rfl (show Blk _ _ #[.int .i64 (1 + (pickV l k 8 : Nat)), .int .i64 (1073741824 - (pickV l ((wordV l (k + 1 + 1 + 1) false).2 + 1) 2 : Nat)), .int .i64 2, .string (wordV l (k + 1 + 1 + 1) false).1, .string (wordV l (((wordV l (k + 1 + 1 + 1) false).2 + 1) + 1) true).1, .string ⟨#[]⟩] _ from by simpa using BV.out.set 4 (.string (wordV l (((wordV l (k + 1 + 1 + 1) false).2 + 1) + 1) true).1)) Try.underlying89 rfl sizeCmdD rfl ?_)
    | (have hBA := HS; refine gate_st 89 (.tmp 2) _ rfl ?_; clear hBA; refine wpl_store_blk rfl 89 (.tmp 2) _ rfl (w.heap.size) rfl rfl (BR.out.set_other (p := ⟨w4.heap.size, 4, none⟩) _ (show w.heap.size ≠ w4.heap.size by omega)) sizeCmdD rfl rfl (by simp [Value.oneCell']) ?_))
  all_goals first
    | exact bodyPost_ret (v := .agg #[.int .i64 (1 + (pickV l k 8 : Nat)), .int .i64 (1073741824 - (pickV l ((wordV l (k + 1 + 1 + 1) false).2 + 1) 2 : Nat)), .int .i64 2, .string (wordV l (k + 1 + 1 + 1) false).1, .string (wordV l (((wordV l (k + 1 + 1 + 1) false).2 + 1) + 1) true).1, .string ⟨#[]⟩]) (results_blk Try.results124 rfl ((BR.out.set_other (p := ⟨w4.heap.size, 4, none⟩) _ (show w.heap.size ≠ w4.heap.size by omega)).row _) Try.underlying89 rfl sizeCmdD rfl) rfl ⟨rfl, (HS.out.setB BV.out (by omega) 4 (by simp) (noU8_of rfl) _).row (BR.out.set_other (p := ⟨w4.heap.size, 4, none⟩) _ (show w.heap.size ≠ w4.heap.size by omega)) (by omega) (noU8_of rfl) _, grownBy_row_new (grownBy_set_new HG.out (by omega) _ _) (BR.out.set_other (p := ⟨w4.heap.size, 4, none⟩) _ (show w.heap.size ≠ w4.heap.size by omega)) (Nat.le_refl _) _⟩
    | (exfalso; omega)
    | (exfalso; simp only [beq_iff_eq] at *; omega)

set_option maxHeartbeats 4000000 in
set_option maxRecDepth 100000 in
theorem l1drawCmd_12 (g : Nat) (w : World) (v : Value) (l : List Int) (k : Nat) (hL : l.length ≤ 1048576) (hk : k ≤ 700000000) (h : Src w g v l k) (hp : pickV l (wordV l (k + 1 + 1 + 1) false).2 12 = 0) (ho : pickV l (k + 1 + 1) 4 = 3) :
    Calls Try.prog 124 #[.pointer (some ⟨g, 0, none⟩)] w fun r w' => r = .returned (.agg #[.int .i64 (1 + (pickV l k 8 : Nat)), .int .i64 (1073741824 - (pickV l ((wordV l (k + 1 + 1 + 1) false).2 + 1) 2 : Nat)), .int .i64 4, .string (wordV l (k + 1 + 1 + 1) false).1, .string (wordV l (((wordV l (k + 1 + 1 + 1) false).2 + 1) + 1) true).1, .string (wordV l (wordV l (((wordV l (k + 1 + 1 + 1) false).2 + 1) + 1) true).2 true).1]) ∧ Src w' g v l (wordV l (wordV l (((wordV l (k + 1 + 1 + 1) false).2 + 1) + 1) true).2 true).2 ∧ w.grownBy w' (some g) := by
  have HS : Hid (Src w g v l k) := h
  have hg0 : g < w.heap.size := h.lt
  clear h
  have b0 := pickV_lt l k 8 (by omega)
  have b1 := pickV_lt l (k + 1) 6 (by omega)
  have b2 := pickV_lt l (k + 1 + 1) 4 (by omega)
  have b3 := wordV_size l (k + 1 + 1 + 1) false
  have b4 := pickV_lt l (wordV l (k + 1 + 1 + 1) false).2 12 (by omega)
  have b5 := pickV_lt l ((wordV l (k + 1 + 1 + 1) false).2 + 1) 2 (by omega)
  have b6 := wordV_size l (((wordV l (k + 1 + 1 + 1) false).2 + 1) + 1) true
  have b7 := wordV_size l (wordV l (((wordV l (k + 1 + 1 + 1) false).2 + 1) + 1) true).2 true
  have g0 : True := trivial
  have g1 : True := trivial
  have g2 : True := trivial
  have g3 : True := trivial
  have g4 : True := trivial
  have g5 : True := trivial
  have g6 : True := trivial
  have g7 : True := trivial
  have fa0 : ¬ (1 + (pickV l (k + 1 + 1) 4 : Nat) : Int) = 2 := by omega
  have fa1 : (1 + (pickV l (k + 1 + 1) 4 : Nat) : Int) = 4 := by omega
  have fa2 : ((pickV l (wordV l (k + 1 + 1 + 1) false).2 12 : Nat) : Int) = 0 := by omega
  go_enter Try.func124, Try.ntmps124
  go_wp2_with (first
    | (go_at_call 71; clear g0; refine Calls.mono (l1pick_any g _ v l k 8 hL (by omega) (by omega) (by omega) (HS.out.alloc _)) ?_; rintro r w1 ⟨rfl, hs, hg⟩; rw [show pickK 8 = 1 from by first | decide | (unfold pickK; rw [if_pos (by omega)])] at hs; have z0 := hg.size; (try simp [World.setCell] at z0); have BR : Hid (Blk _ _ _ _) := (Blk.new w _ _).grown hg (by omega); have HG : Hid (w.grownBy w1 (some g)) := grownBy_trans (World.grownBy_alloc _ _ _) hg; replace HS : Hid (Src w1 g v l (k + 1)) := hs; clear hs hg)
    | (go_at_call 71; clear g1; refine Calls.mono (l1pick_any g _ v l (k + 1) 6 hL (by omega) (by omega) (by omega) HS.out) ?_; rintro r w2 ⟨rfl, hs, hg⟩; rw [show pickK 6 = 1 from by first | decide | (unfold pickK; rw [if_pos (by omega)])] at hs; have z1 := hg.size; (try simp [World.setCell] at z1); replace BR : Hid (Blk _ _ _ _) := BR.out.grown hg (by omega); replace HG : Hid (w.grownBy w2 (some g)) := grownBy_trans HG.out hg; replace HS : Hid (Src w2 g v l ((k + 1) + 1)) := hs; clear hs hg)
    | (go_at_call 71; clear g2; refine Calls.mono (l1pick_any g _ v l (k + 1 + 1) 4 hL (by omega) (by omega) (by omega) HS.out) ?_; rintro r w3 ⟨rfl, hs, hg⟩; rw [show pickK 4 = 1 from by first | decide | (unfold pickK; rw [if_pos (by omega)])] at hs; have z2 := hg.size; (try simp [World.setCell] at z2); replace BR : Hid (Blk _ _ _ _) := BR.out.grown hg (by omega); replace HG : Hid (w.grownBy w3 (some g)) := grownBy_trans HG.out hg; replace HS : Hid (Src w3 g v l ((k + 1 + 1) + 1)) := hs; clear hs hg)
    | (go_at_call 136; clear g3; refine Calls.mono (l1word_any g _ v l (k + 1 + 1 + 1) false hL (by omega) HS.out) ?_; rintro r w4 ⟨rfl, hs, hg⟩; have z3 := hg.size; (try simp [World.setCell] at z3); replace BR : Hid (Blk _ _ _ _) := BR.out.grown hg (by omega); replace HG : Hid (w.grownBy w4 (some g)) := grownBy_trans HG.out hg; replace HS : Hid (Src w4 g v l (wordV l (k + 1 + 1 + 1) false).2) := hs; clear hs hg)
    | (have hBA := HS; refine gate_st 89 (.tmp 3) _ rfl ?_; clear hBA; refine wpl_store_last rfl 89 (.tmp 3) _ rfl (w4.heap.size) rfl rfl rfl sizeCmdD rfl rfl (by simp [Value.oneCell']) ?_)
    | (go_at_call 71; clear g4; refine Calls.mono (l1pick_any g _ v l (wordV l (k + 1 + 1 + 1) false).2 12 hL (by omega) (by omega) (by omega) (HS.out.alloc _)) ?_; rintro r w5 ⟨rfl, hs, hg⟩; rw [show pickK 12 = 1 from by first | decide | (unfold pickK; rw [if_pos (by omega)])] at hs; have z4 := hg.size; (try simp [World.setCell] at z4); replace BR : Hid (Blk _ _ _ _) := (BR.out.alloc _).grown hg (by omega); replace HG : Hid (w.grownBy w5 (some g)) := grownBy_trans (grownBy_alloc' HG.out _) hg; have BV : Hid (Blk _ _ _ _) := (Blk.new w4 _ _).grown hg (by omega); replace HS : Hid (Src w5 g v l ((wordV l (k + 1 + 1 + 1) false).2 + 1)) := hs; clear hs hg; have cV4 := BV.out.cell; have fV4 := BV.out.free)
    | (go_at_call 71; clear g5; refine Calls.mono (l1pick_any g _ v l ((wordV l (k + 1 + 1 + 1) false).2 + 1) 2 hL (by omega) (by omega) (by omega) HS.out) ?_; rintro r w6 ⟨rfl, hs, hg⟩; rw [show pickK 2 = 1 from by first | decide | (unfold pickK; rw [if_pos (by omega)])] at hs; have z5 := hg.size; (try simp [World.setCell] at z5); replace BR : Hid (Blk _ _ _ _) := BR.out.grown hg (by omega); replace HG : Hid (w.grownBy w6 (some g)) := grownBy_trans HG.out hg; replace BV : Hid (Blk _ _ _ _) := BV.out.grown hg (by omega); replace HS : Hid (Src w6 g v l (((wordV l (k + 1 + 1 + 1) false).2 + 1) + 1)) := hs; clear hs hg; have cV5 := BV.out.cell; have fV5 := BV.out.free)
    | (go_at_call 136; clear g6; refine Calls.mono (l1word_any g _ v l (((wordV l (k + 1 + 1 + 1) false).2 + 1) + 1) true hL (by omega) (HS.out.setB BV.out (by omega) 1 (by simp) (noU8_of rfl) _)) ?_; rintro r w7 ⟨rfl, hs, hg⟩; have z6 := hg.size; (try simp [World.setCell] at z6); replace BR : Hid (Blk _ _ _ _) := (BR.out.set_other (p := ⟨w4.heap.size, 1, none⟩) _ (show w.heap.size ≠ w4.heap.size by omega)).grown hg (by omega); replace HG : Hid (w.grownBy w7 (some g)) := grownBy_trans (grownBy_set_new HG.out (by omega) _ _) hg; replace BV : Hid (Blk _ _ _ _) := (show Blk _ _ #[.int .i64 (1 + (pickV l k 8 : Nat)), .int .i64 (1073741824 - (pickV l ((wordV l (k + 1 + 1 + 1) false).2 + 1) 2 : Nat)), .int .i64 4, .string (wordV l (k + 1 + 1 + 1) false).1, .string ⟨#[]⟩, .string ⟨#[]⟩] _ from by simpa using BV.out.set 1 (.int .i64 (1073741824 - (pickV l ((wordV l (k + 1 + 1 + 1) false).2 + 1) 2 : Nat)))).grown hg (by omega); replace HS : Hid (Src w7 g v l (wordV l (((wordV l (k + 1 + 1 + 1) false).2 + 1) + 1) true).2) := hs; clear hs hg; have cV6 := BV.out.cell; have fV6 := BV.out.free)
    | (go_at_call 136; clear g7; refine Calls.mono (l1word_any g _ v l (wordV l (((wordV l (k + 1 + 1 + 1) false).2 + 1) + 1) true).2 true hL (by omega) (HS.out.setB BV.out (by omega) 4 (by simp) (noU8_of rfl) _)) ?_; rintro r w8 ⟨rfl, hs, hg⟩; have z7 := hg.size; (try simp [World.setCell] at z7); replace BR : Hid (Blk _ _ _ _) := (BR.out.set_other (p := ⟨w4.heap.size, 4, none⟩) _ (show w.heap.size ≠ w4.heap.size by omega)).grown hg (by omega); replace HG : Hid (w.grownBy w8 (some g)) := grownBy_trans (grownBy_set_new HG.out (by omega) _ _) hg; replace BV : Hid (Blk _ _ _ _) := (show Blk _ _ #[.int .i64 (1 + (pickV l k 8 : Nat)), .int .i64 (1073741824 - (pickV l ((wordV l (k + 1 + 1 + 1) false).2 + 1) 2 : Nat)), .int .i64 4, .string (wordV l (k + 1 + 1 + 1) false).1, .string (wordV l (((wordV l (k + 1 + 1 + 1) false).2 + 1) + 1) true).1, .string ⟨#[]⟩] _ from by simpa using BV.out.set 4 (.string (wordV l (((wordV l (k + 1 + 1 + 1) false).2 + 1) + 1) true).1)).grown hg (by omega); replace HS : Hid (Src w8 g v l (wordV l (wordV l (((wordV l (k + 1 + 1 + 1) false).2 + 1) + 1) true).2 true).2) := hs; clear hs hg; have cV7 := BV.out.cell; have fV7 := BV.out.free)
    | (have hBA := HS; refine gate_ld 89 (.tmp 3) rfl ?_; clear hBA; refine wpl_load_blk rfl 89 (.tmp 3) rfl (w4.heap.size) rfl (show Blk _ _ #[.int .i64 (1 + (pickV l k 8 : Nat)), .int .i64 (1073741824 - (pickV l ((wordV l (k + 1 + 1 + 1) false).2 + 1) 2 : Nat)), .int .i64 4, .string (wordV l (k + 1 + 1 + 1) false).1, .string (wordV l (((wordV l (k + 1 + 1 + 1) false).2 + 1) + 1) true).1, .string (wordV l (wordV l (((wordV l (k + 1 + 1 + 1) false).2 + 1) + 1) true).2 true).1] _ from by simpa using BV.out.set 5 (.string (wordV l (wordV l (((wordV l (k + 1 + 1 + 1) false).2 + 1) + 1) true).2 true).1)) Try.underlying89 rfl sizeCmdD rfl ?_)
    | (have hBA := HS; refine gate_st 89 (.tmp 2) _ rfl ?_; clear hBA; refine wpl_store_blk rfl 89 (.tmp 2) _ rfl (w.heap.size) rfl rfl (BR.out.set_other (p := ⟨w4.heap.size, 5, none⟩) _ (show w.heap.size ≠ w4.heap.size by omega)) sizeCmdD rfl rfl (by simp [Value.oneCell']) ?_))
  all_goals first
    | exact bodyPost_ret (v := .agg #[.int .i64 (1 + (pickV l k 8 : Nat)), .int .i64 (1073741824 - (pickV l ((wordV l (k + 1 + 1 + 1) false).2 + 1) 2 : Nat)), .int .i64 4, .string (wordV l (k + 1 + 1 + 1) false).1, .string (wordV l (((wordV l (k + 1 + 1 + 1) false).2 + 1) + 1) true).1, .string (wordV l (wordV l (((wordV l (k + 1 + 1 + 1) false).2 + 1) + 1) true).2 true).1]) (results_blk Try.results124 rfl ((BR.out.set_other (p := ⟨w4.heap.size, 5, none⟩) _ (show w.heap.size ≠ w4.heap.size by omega)).row _) Try.underlying89 rfl sizeCmdD rfl) rfl ⟨rfl, (HS.out.setB BV.out (by omega) 5 (by simp) (noU8_of rfl) _).row (BR.out.set_other (p := ⟨w4.heap.size, 5, none⟩) _ (show w.heap.size ≠ w4.heap.size by omega)) (by omega) (noU8_of rfl) _, grownBy_row_new (grownBy_set_new HG.out (by omega) _ _) (BR.out.set_other (p := ⟨w4.heap.size, 5, none⟩) _ (show w.heap.size ≠ w4.heap.size by omega)) (Nat.le_refl _) _⟩
    | (exfalso; omega)
    | (exfalso; simp only [beq_iff_eq] at *; omega)


/-- the fields of a drawn command, and where the source stands behind it -/
def cmdSq (l : List Int) (k : Nat) : Int := if pickV l (wordV l (k + 1 + 1 + 1) false).2 12 = 0 then 1073741824 - (pickV l ((wordV l (k + 1 + 1 + 1) false).2 + 1) 2 : Nat) else 1 + (pickV l (k + 1) 6 : Nat)
def cmdK2 (l : List Int) (k : Nat) : Nat := if pickV l (wordV l (k + 1 + 1 + 1) false).2 12 = 0 then (wordV l (k + 1 + 1 + 1) false).2 + 1 + 1 else (wordV l (k + 1 + 1 + 1) false).2 + 1
def cmdVl (l : List Int) (k : Nat) : ByteArray := if pickV l (k + 1 + 1) 4 = 1 ∨ pickV l (k + 1 + 1) 4 = 3 then (wordV l (cmdK2 l k) true).1 else ⟨#[]⟩
def cmdK3 (l : List Int) (k : Nat) : Nat := if pickV l (k + 1 + 1) 4 = 1 ∨ pickV l (k + 1 + 1) 4 = 3 then (wordV l (cmdK2 l k) true).2 else cmdK2 l k
def cmdOl (l : List Int) (k : Nat) : ByteArray := if pickV l (k + 1 + 1) 4 = 3 then (wordV l (cmdK3 l k) true).1 else ⟨#[]⟩
def cmdK (l : List Int) (k : Nat) : Nat := if pickV l (k + 1 + 1) 4 = 3 then (wordV l (cmdK3 l k) true).2 else cmdK3 l k
def cmdCl (l : List Int) (k : Nat) : Int := 1 + (pickV l k 8 : Nat)
def cmdOp (l : List Int) (k : Nat) : Int := 1 + (pickV l (k + 1 + 1) 4 : Nat)
def cmdKy (l : List Int) (k : Nat) : ByteArray := (wordV l (k + 1 + 1 + 1) false).1

theorem cmdK_le (l : List Int) (k : Nat) : k < cmdK l k ∧ cmdK l k ≤ k + 14 := by
  have h0 := wordV_size l (k + 1 + 1 + 1) false
  have h1 := wordV_size l (cmdK2 l k) true
  have h2 := wordV_size l (cmdK3 l k) true
  have e2 : (wordV l (k + 1 + 1 + 1) false).2 < cmdK2 l k ∧ cmdK2 l k ≤ (wordV l (k + 1 + 1 + 1) false).2 + 2 := by unfold cmdK2; split <;> omega
  have e3 : cmdK2 l k ≤ cmdK3 l k ∧ cmdK3 l k ≤ cmdK2 l k + 3 := by unfold cmdK3; split <;> omega
  unfold cmdK
  split <;> omega
theorem cmd_facts (l : List Int) (k : Nat) : 1 ≤ cmdCl l k ∧ cmdCl l k ≤ 8 ∧ 1 ≤ cmdSq l k ∧ cmdSq l k ≤ 1073741824 ∧ 1 ≤ cmdOp l k ∧ cmdOp l k ≤ 4 ∧ 1 ≤ (cmdKy l k).size ∧ (cmdKy l k).size ≤ 64 ∧ (cmdVl l k).size ≤ 64 ∧ (cmdOl l k).size ≤ 64 ∧ (cmdOp l k ≠ 2 ∧ cmdOp l k ≠ 4 → (cmdVl l k).size = 0) ∧ (cmdOp l k ≠ 4 → (cmdOl l k).size = 0) := by
  have p0 := pickV_lt l k 8 (by omega)
  have p1 := pickV_lt l (k + 1) 6 (by omega)
  have p2 := pickV_lt l (k + 1 + 1) 4 (by omega)
  have p3 := pickV_lt l ((wordV l (k + 1 + 1 + 1) false).2 + 1) 2 (by omega)
  have h0 := wordV_size l (k + 1 + 1 + 1) false
  have h1 := wordV_size l (cmdK2 l k) true
  have h2 := wordV_size l (cmdK3 l k) true
  have hq : 1 ≤ cmdSq l k ∧ cmdSq l k ≤ 1073741824 := by unfold cmdSq; split <;> omega
  have hv : (cmdVl l k).size ≤ 64 ∧ (cmdOp l k ≠ 2 ∧ cmdOp l k ≠ 4 → (cmdVl l k).size = 0) := by
    unfold cmdVl cmdOp
    split
    · next h => exact ⟨h1.1, fun h' => by omega⟩
    · exact ⟨by simp [ByteArray.size], fun _ => rfl⟩
  have ho : (cmdOl l k).size ≤ 64 ∧ (cmdOp l k ≠ 4 → (cmdOl l k).size = 0) := by
    unfold cmdOl cmdOp
    split
    · next h => exact ⟨h2.1, fun h' => by omega⟩
    · exact ⟨by simp [ByteArray.size], fun _ => rfl⟩
  have hk : 1 ≤ (cmdKy l k).size ∧ (cmdKy l k).size ≤ 64 := by unfold cmdKy; exact ⟨h0.2.1 rfl, h0.1⟩
  refine ⟨?_, ?_, hq.1, hq.2, ?_, ?_, hk.1, hk.2, hv.1, ho.1, hv.2, ho.2⟩ <;> (first | unfold cmdCl | unfold cmdOp) <;> omega

set_option maxHeartbeats 1000000 in
theorem l1drawCmd_any (g : Nat) (w : World) (v : Value) (l : List Int) (k : Nat) (hL : l.length ≤ 1048576) (hk : k ≤ 700000000) (h : Src w g v l k) :
    Calls Try.prog 124 #[.pointer (some ⟨g, 0, none⟩)] w fun r w' => r = .returned (.agg #[.int .i64 (cmdCl l k), .int .i64 (cmdSq l k), .int .i64 (cmdOp l k), .string (cmdKy l k), .string (cmdVl l k), .string (cmdOl l k)]) ∧ Src w' g v l (cmdK l k) ∧ w.grownBy w' (some g) := by
  by_cases hp : pickV l (wordV l (k + 1 + 1 + 1) false).2 12 = 0
  · have e1 : cmdSq l k = 1073741824 - (pickV l ((wordV l (k + 1 + 1 + 1) false).2 + 1) 2 : Nat) := by unfold cmdSq; rw [if_pos hp]
    have e2 : cmdK2 l k = (wordV l (k + 1 + 1 + 1) false).2 + 1 + 1 := by unfold cmdK2; rw [if_pos hp]
    by_cases h1 : pickV l (k + 1 + 1) 4 = 1
    · have e3 : cmdVl l k = (wordV l (cmdK2 l k) true).1 := by unfold cmdVl; rw [if_pos (.inl h1)]
      have e4 : cmdK3 l k = (wordV l (cmdK2 l k) true).2 := by unfold cmdK3; rw [if_pos (.inl h1)]
      have e5 : cmdOl l k = ⟨#[]⟩ := by unfold cmdOl; rw [if_neg (by omega)]
      have e6 : cmdK l k = cmdK3 l k := by unfold cmdK; rw [if_neg (by omega)]
      have e7 : cmdOp l k = 2 := by unfold cmdOp; omega
      rw [e6, e4, e3, e5, e2, e1, e7]
      exact l1drawCmd_11 g w v l k hL hk h hp h1
    by_cases h3 : pickV l (k + 1 + 1) 4 = 3
    · have e3 : cmdVl l k = (wordV l (cmdK2 l k) true).1 := by unfold cmdVl; rw [if_pos (.inr h3)]
      have e4 : cmdK3 l k = (wordV l (cmdK2 l k) true).2 := by unfold cmdK3; rw [if_pos (.inr h3)]
      have e5 : cmdOl l k = (wordV l (cmdK3 l k) true).1 := by unfold cmdOl; rw [if_pos h3]
      have e6 : cmdK l k = (wordV l (cmdK3 l k) true).2 := by unfold cmdK; rw [if_pos h3]
      have e7 : cmdOp l k = 4 := by unfold cmdOp; omega
      rw [e6, e5, e4, e3, e2, e1, e7]
      exact l1drawCmd_12 g w v l k hL hk h hp h3
    · have e3 : cmdVl l k = ⟨#[]⟩ := by unfold cmdVl; rw [if_neg (by omega)]
      have e4 : cmdK3 l k = cmdK2 l k := by unfold cmdK3; rw [if_neg (by omega)]
      have e5 : cmdOl l k = ⟨#[]⟩ := by unfold cmdOl; rw [if_neg (by omega)]
      have e6 : cmdK l k = cmdK3 l k := by unfold cmdK; rw [if_neg (by omega)]
      rw [e6, e5, e4, e3, e2, e1]
      exact l1drawCmd_10 g w v l k hL hk h hp ⟨h1, h3⟩
  · have e1 : cmdSq l k = 1 + (pickV l (k + 1) 6 : Nat) := by unfold cmdSq; rw [if_neg hp]
    have e2 : cmdK2 l k = (wordV l (k + 1 + 1 + 1) false).2 + 1 := by unfold cmdK2; rw [if_neg hp]
    replace hp : 0 < pickV l (wordV l (k + 1 + 1 + 1) false).2 12 := by omega
    by_cases h1 : pickV l (k + 1 + 1) 4 = 1
    · have e3 : cmdVl l k = (wordV l (cmdK2 l k) true).1 := by unfold cmdVl; rw [if_pos (.inl h1)]
      have e4 : cmdK3 l k = (wordV l (cmdK2 l k) true).2 := by unfold cmdK3; rw [if_pos (.inl h1)]
      have e5 : cmdOl l k = ⟨#[]⟩ := by unfold cmdOl; rw [if_neg (by omega)]
      have e6 : cmdK l k = cmdK3 l k := by unfold cmdK; rw [if_neg (by omega)]
      have e7 : cmdOp l k = 2 := by unfold cmdOp; omega
      rw [e6, e4, e3, e5, e2, e1, e7]
      exact l1drawCmd_01 g w v l k hL hk h hp h1
    by_cases h3 : pickV l (k + 1 + 1) 4 = 3
    · have e3 : cmdVl l k = (wordV l (cmdK2 l k) true).1 := by unfold cmdVl; rw [if_pos (.inr h3)]
      have e4 : cmdK3 l k = (wordV l (cmdK2 l k) true).2 := by unfold cmdK3; rw [if_pos (.inr h3)]
      have e5 : cmdOl l k = (wordV l (cmdK3 l k) true).1 := by unfold cmdOl; rw [if_pos h3]
      have e6 : cmdK l k = (wordV l (cmdK3 l k) true).2 := by unfold cmdK; rw [if_pos h3]
      have e7 : cmdOp l k = 4 := by unfold cmdOp; omega
      rw [e6, e5, e4, e3, e2, e1, e7]
      exact l1drawCmd_02 g w v l k hL hk h hp h3
    · have e3 : cmdVl l k = ⟨#[]⟩ := by unfold cmdVl; rw [if_neg (by omega)]
      have e4 : cmdK3 l k = cmdK2 l k := by unfold cmdK3; rw [if_neg (by omega)]
      have e5 : cmdOl l k = ⟨#[]⟩ := by unfold cmdOl; rw [if_neg (by omega)]
      have e6 : cmdK l k = cmdK3 l k := by unfold cmdK; rw [if_neg (by omega)]
      rw [e6, e5, e4, e3, e2, e1]
      exact l1drawCmd_00 g w v l k hL hk h hp ⟨h1, h3⟩
end Go.Proofs.Ytfcmffdljfljkaa
