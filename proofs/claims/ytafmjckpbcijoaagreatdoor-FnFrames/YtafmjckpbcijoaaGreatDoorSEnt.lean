/-
  spec.l1rdEntry.
-/
import Derived.Test.YtafmjckpbcijoaaGreatDoorSCmd
import Derived.Test.YtafmjckpbcijoaaGreatDoorGround3
namespace Go.Proofs.YtafmjckpbcijoaaGreatDoor
open Go.RowKit
set_option linter.unusedVariables false
set_option linter.unusedSimpArgs false

set_option maxHeartbeats 4000000 in
set_option maxRecDepth 100000 in
theorem l1rdEntry_any (b : Nat) (w : World) (v : Value) (L : List Int) (D : Nat) (st : RSt) (hL : L.length ≤ 1048576) (h : SRd w b v L D st) :
    Calls Tryz.prog 70 #[.pointer (some ⟨b, 0, none⟩)] w fun e w' => e = .returned (.agg #[.int .i64 (rdEnt st).1.t, .int .i64 (rdEnt st).1.cl, .int .i64 (rdEnt st).1.sq, .int .i64 (rdEnt st).1.op, .string (rdEnt st).1.k, .string (rdEnt st).1.v, .string (rdEnt st).1.o]) ∧ SRd w' b v L D (rdEnt st).2 ∧ w.grownBy w' (some b) := by
  have HN : ∀ w' st, SRd w' b v L D st → Hid (Calls Tryz.prog 69 #[.pointer (some ⟨b, 0, none⟩)] w' fun e w'' => e = .returned (.int .i64 ((rdNum st).1 : Nat)) ∧ SRd w'' b v L D (rdNum st).2 ∧ w'.grownBy w'' (some b)) := fun w' st h => l1rdNum_any b w' v L D st hL h
  have HC : ∀ w', SRd w' b v L D (rdNum st).2 → Hid (Calls Tryz.prog 71 #[.pointer (some ⟨b, 0, none⟩)] w' fun e w'' => e = .returned (.agg #[.int .i64 (rdEnt st).1.cl, .int .i64 (rdEnt st).1.sq, .int .i64 (rdEnt st).1.op, .string (rdEnt st).1.k, .string (rdEnt st).1.v, .string (rdEnt st).1.o]) ∧ SRd w'' b v L D (rdEnt st).2 ∧ w'.grownBy w'' (some b)) := fun w' h => l1rdCmd_any b w' v L D _ hL h
  have hbD := h.1
  have hDw := h.2.1
  have hr0 : SRd (w.alloc (.cells #[.int .i64 0, .int .i64 0, .int .i64 0, .int .i64 0, .string ⟨#[]⟩, .string ⟨#[]⟩, .string ⟨#[]⟩] 87)) b v L D st := h.below ((Below.refl _ _).alloc hDw _)
  have hT0 : (w.alloc (.cells #[.int .i64 0, .int .i64 0, .int .i64 0, .int .i64 0, .string ⟨#[]⟩, .string ⟨#[]⟩, .string ⟨#[]⟩] 87)).there w.heap.size 0 7 := fun j hj => by rw [Nat.zero_add]; simp [World.cell?_alloc_new, hj]
  clear h
  go_enter Tryz.func70, Tryz.ntmps70
  go_wp2_with (first
    | (go_at_call 69; refine Calls.mono (HN _ _ hr0).out ?_; rintro e w1 ⟨rfl, hr1, hg1⟩)
    | (go_at_call 71; refine Calls.mono (HC _ hr1).out ?_; rintro e w2 ⟨rfl, hr2, hg2⟩; have hG := grownBy_trans hg1 hg2; have hz2 : w.heap.size < w2.heap.size := (by have := hG.size; simp at this; omega); have hT2 := World.there_alloc (there_of_block (hG.block w.heap.size (by simp) (by intro e; injection e with e; omega)) hT0) (.cells #[.int .i64 (rdEnt st).1.cl, .int .i64 (rdEnt st).1.sq, .int .i64 (rdEnt st).1.op, .string (rdEnt st).1.k, .string (rdEnt st).1.v, .string (rdEnt st).1.o] 33); have hrg := range_new w2 [.int .i64 (rdEnt st).1.cl, .int .i64 (rdEnt st).1.sq, .int .i64 (rdEnt st).1.op, .string (rdEnt st).1.k, .string (rdEnt st).1.v, .string (rdEnt st).1.o] 33)
    | (refine gate_store 33 (.tmp 4) (.tmp 8) rfl ?_; refine wpl_store_new rfl 33 (.tmp 4) (.tmp 8) rfl #[.int .i64 0, .int .i64 0, .int .i64 0, .string ⟨#[]⟩, .string ⟨#[]⟩, .string ⟨#[]⟩] #[.int .i64 (rdEnt st).1.cl, .int .i64 (rdEnt st).1.sq, .int .i64 (rdEnt st).1.op, .string (rdEnt st).1.k, .string (rdEnt st).1.v, .string (rdEnt st).1.o] rfl rfl infoCmdS rfl (by simp [Value.oneCell']) ?_)
    | (refine gate_load 33 (.tmp 4) rfl ?_; refine wpList_load_mid rfl 33 (.tmp 4) rfl w2.heap.size 0 rfl [.int .i64 (rdEnt st).1.cl, .int .i64 (rdEnt st).1.sq, .int .i64 (rdEnt st).1.op, .string (rdEnt st).1.k, .string (rdEnt st).1.v, .string (rdEnt st).1.o] _ hrg Tryz.underlying33 rfl infoCmdS ?_)
    | (refine gate_store 87 (.tmp 2) (.tmp 11) rfl ?_; refine wpList_store_mid rfl 87 (.tmp 2) (.tmp 11) rfl w.heap.size 0 #[.int .i64 (rdEnt st).1.t, .int .i64 (rdEnt st).1.cl, .int .i64 (rdEnt st).1.sq, .int .i64 (rdEnt st).1.op, .string (rdEnt st).1.k, .string (rdEnt st).1.v, .string (rdEnt st).1.o] rfl rfl hT2 infoEntS (by simp [Value.oneCell']) ?_; have hra4 := World.rangeAt_setCells_same _ w.heap.size 0 [.int .i64 (rdEnt st).1.t, .int .i64 (rdEnt st).1.cl, .int .i64 (rdEnt st).1.sq, .int .i64 (rdEnt st).1.op, .string (rdEnt st).1.k, .string (rdEnt st).1.v, .string (rdEnt st).1.o] hT2; have hld := run_loadVar_mid (P := Tryz.prog) _ w.heap.size 0 87 _ _ hra4 Tryz.underlying87 rfl infoEntS; have hB4 := below_setCells (Nat.le_refl w.heap.size) [.int .i64 (rdEnt st).1.t, .int .i64 (rdEnt st).1.cl, .int .i64 (rdEnt st).1.sq, .int .i64 (rdEnt st).1.op, .string (rdEnt st).1.k, .string (rdEnt st).1.v, .string (rdEnt st).1.o] 0 _ ((Below.refl w.heap.size w2).alloc (Nat.le_of_lt hz2) (.cells #[.int .i64 (rdEnt st).1.cl, .int .i64 (rdEnt st).1.sq, .int .i64 (rdEnt st).1.op, .string (rdEnt st).1.k, .string (rdEnt st).1.v, .string (rdEnt st).1.o] 33)); clear hra4; generalize (World.setCells _ w.heap.size 0 _) = W4 at hld hB4 ⊢))
  have hGw := grownBy_trans (grown_alloc (grownBy_refl w (some b)) (.cells #[.int .i64 0, .int .i64 0, .int .i64 0, .int .i64 0, .string ⟨#[]⟩, .string ⟨#[]⟩, .string ⟨#[]⟩] 87)) hG
  refine bodyPost_ret (v := .agg #[.int .i64 (rdEnt st).1.t, .int .i64 (rdEnt st).1.cl, .int .i64 (rdEnt st).1.sq, .int .i64 (rdEnt st).1.op, .string (rdEnt st).1.k, .string (rdEnt st).1.v, .string (rdEnt st).1.o]) ?_ rfl ⟨rfl, SRd.below hr2 (hB4.mono hDw), grown_then hGw hB4⟩
  exact results_cell Tryz.results70 rfl hld
end Go.Proofs.YtafmjckpbcijoaaGreatDoor
