/-
  spec.l1rdCmd.
-/
import Derived.Test.YtafmjckpbcijoaaGreatDoorSBase
import Derived.Test.YtafmjckpbcijoaaGreatDoorGround3
namespace Go.Proofs.YtafmjckpbcijoaaGreatDoor
open Go.RowKit
set_option linter.unusedVariables false
set_option linter.unusedSimpArgs false

theorem infoCmdS : (Tryz.prog.info? 33).map (·.size) = some 6 := by kernel_rfl

set_option maxHeartbeats 4000000 in
set_option maxRecDepth 100000 in
theorem l1rdCmd_any (b : Nat) (w : World) (v : Value) (L : List Int) (D : Nat) (st : RSt) (hL : L.length ≤ 1048576) (h : SRd w b v L D st) :
    Calls Tryz.prog 71 #[.pointer (some ⟨b, 0, none⟩)] w fun e w' => e = .returned (cmdV (rdCmd st)) ∧ SRd w' b v L D (rdCmd st).left ∧ w.grownBy w' (some b) := by
  have HN : ∀ w' st, SRd w' b v L D st → Hid (Calls Tryz.prog 69 #[.pointer (some ⟨b, 0, none⟩)] w' fun e w'' => e = .returned (.int .i64 ((rdNum st).1 : Nat)) ∧ SRd w'' b v L D (rdNum st).2 ∧ w'.grownBy w'' (some b)) := fun w' st h => l1rdNum_any b w' v L D st hL h
  have HT : ∀ w' st, SRd w' b v L D st → Hid (Calls Tryz.prog 72 #[.pointer (some ⟨b, 0, none⟩)] w' fun e w'' => e = .returned (.string (rdText st).1) ∧ SRd w'' b v L D (rdText st).2 ∧ w'.grownBy w'' (some b)) := fun w' st h => l1rdText_any b w' v L D st hL h
  have hbD := h.1
  have hDw := h.2.1
  have hr0 : SRd (w.alloc (.cells #[.int .i64 0, .int .i64 0, .int .i64 0, .string ⟨#[]⟩, .string ⟨#[]⟩, .string ⟨#[]⟩] 33)) b v L D st := h.below ((Below.refl _ _).alloc hDw _)
  have hT0 : (w.alloc (.cells #[.int .i64 0, .int .i64 0, .int .i64 0, .string ⟨#[]⟩, .string ⟨#[]⟩, .string ⟨#[]⟩] 33)).there w.heap.size 0 6 := fun j hj => by rw [Nat.zero_add]; simp [World.cell?_alloc_new, hj]
  have hG0 : (w.alloc (.cells #[.int .i64 0, .int .i64 0, .int .i64 0, .string ⟨#[]⟩, .string ⟨#[]⟩, .string ⟨#[]⟩] 33)).grownBy (w.alloc (.cells #[.int .i64 0, .int .i64 0, .int .i64 0, .string ⟨#[]⟩, .string ⟨#[]⟩, .string ⟨#[]⟩] 33)) (some b) := grownBy_refl _ _
  clear h
  have y1 : True := trivial
  have y2 : True := trivial
  have y3 : True := trivial
  have y4 : True := trivial
  have y5 : True := trivial
  have y6 : True := trivial
  go_enter Tryz.func71, Tryz.ntmps71
  go_wp2_with (first
    | (go_at_call 69; clear y1; refine Calls.mono (HN _ _ hr0).out ?_; rintro e v1 ⟨rfl, hr1, hg⟩; have hG1 := grownBy_trans hG0 hg; clear hg hr0 hG0)
    | (go_at_call 69; clear y2; refine Calls.mono (HN _ _ hr1).out ?_; rintro e v2 ⟨rfl, hr2, hg⟩; have hG2 := grownBy_trans hG1 hg; clear hg hr1 hG1)
    | (go_at_call 69; clear y3; refine Calls.mono (HN _ _ hr2).out ?_; rintro e v3 ⟨rfl, hr3, hg⟩; have hG3 := grownBy_trans hG2 hg; clear hg hr2 hG2)
    | (go_at_call 72; clear y4; refine Calls.mono (HT _ _ hr3).out ?_; rintro e v4 ⟨rfl, hr4, hg⟩; have hG4 := grownBy_trans hG3 hg; clear hg hr3 hG3)
    | (go_at_call 72; clear y5; refine Calls.mono (HT _ _ hr4).out ?_; rintro e v5 ⟨rfl, hr5, hg⟩; have hG5 := grownBy_trans hG4 hg; clear hg hr4 hG4)
    | (go_at_call 72; clear y6; refine Calls.mono (HT _ _ hr5).out ?_; rintro e v6 ⟨rfl, hr6, hg⟩; have hG6 := grownBy_trans hG5 hg; clear hg hr5 hG5; have hT6 : v6.there w.heap.size 0 6 := there_of_block (hG6.block w.heap.size (by simp) (by intro e; injection e with e; omega)) hT0)
    | (refine gate_store 33 (.tmp 2) (.tmp 27) rfl ?_; refine wpList_store_mid rfl 33 (.tmp 2) (.tmp 27) rfl w.heap.size 0 #[.int .i64 ((rdCmd st).cl : Nat), .int .i64 ((rdCmd st).sq : Nat), .int .i64 ((rdCmd st).op : Nat), .string (rdCmd st).k, .string (rdCmd st).v, .string (rdCmd st).o] rfl rfl hT6 infoCmdS (by simp [Value.oneCell']) ?_; have hra4 := World.rangeAt_setCells_same _ w.heap.size 0 [.int .i64 ((rdCmd st).cl : Nat), .int .i64 ((rdCmd st).sq : Nat), .int .i64 ((rdCmd st).op : Nat), .string (rdCmd st).k, .string (rdCmd st).v, .string (rdCmd st).o] hT6; have hld := run_loadVar_mid (P := Tryz.prog) _ w.heap.size 0 33 _ _ hra4 Tryz.underlying33 rfl infoCmdS; have hB4 := below_setCells (Nat.le_refl w.heap.size) [.int .i64 ((rdCmd st).cl : Nat), .int .i64 ((rdCmd st).sq : Nat), .int .i64 ((rdCmd st).op : Nat), .string (rdCmd st).k, .string (rdCmd st).v, .string (rdCmd st).o] 0 _ (Below.refl w.heap.size v6); clear hra4; generalize (World.setCells _ w.heap.size 0 _) = W4 at hld hB4 ⊢))
  have hG := grownBy_trans (grown_alloc (grownBy_refl w (some b)) (.cells #[.int .i64 0, .int .i64 0, .int .i64 0, .string ⟨#[]⟩, .string ⟨#[]⟩, .string ⟨#[]⟩] 33)) hG6
  refine bodyPost_ret (v := cmdV (rdCmd st)) ?_ rfl ⟨rfl, SRd.below hr6 (hB4.mono hDw), ⟨hB4.os.trans hG.os, hB4.tape.trans hG.tape, hB4.output.trans hG.output, Nat.le_trans hG.size hB4.size, fun k hk hne => (hB4.block k hk).trans (hG.block k hk hne)⟩⟩
  exact results_cell Tryz.results71 rfl hld
end Go.Proofs.YtafmjckpbcijoaaGreatDoor
