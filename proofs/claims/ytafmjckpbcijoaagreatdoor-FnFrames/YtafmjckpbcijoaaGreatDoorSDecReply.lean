/-
  spec.DecodeReply: what its walks use; a frame that is none.
-/
import Derived.Test.YtafmjckpbcijoaaGreatDoorSBase
import Derived.Test.YtafmjckpbcijoaaGreatDoorImplDecReply
namespace Go.Proofs.YtafmjckpbcijoaaGreatDoor
open Go.RowKit
set_option linter.unusedVariables false
set_option linter.unusedSimpArgs false

set_option maxHeartbeats 4000000 in
set_option maxRecDepth 100000 in
theorem specDecReply_closed (a : Option Addr) (c : Nat) (l : List Int) (w : World) (hv : Bs w (.slice a l.length c) l) (hc : l.length ≤ c) (h0 : openC l 8 8 ≠ 0) :
    Calls Tryz.prog 46 #[.slice a l.length c] w fun e w' => e = .returned (.agg #[.int .i64 (openC l 8 8 : Nat), .int .i64 0, .int .i64 0, .int .i64 0, .int .i64 0, .int .i64 0, .string ⟨#[]⟩, .int .i64 0]) ∧ Below w.heap.size w w' := by
  have HO : Hid (∀ w', Below w.heap.size w w' → Calls Tryz.prog 68 #[.slice a l.length c, .int .i64 8, .int .i64 8] w' fun e w'' => e = .returned (.int .i64 (openC l 8 8 : Nat)) ∧ Below w'.heap.size w' w'') :=
    fun w' hb => l1open_any a l.length c l 8 8 w' (hv.below hb) hc _ hv.lt
  have h4 := openC_le l 8 8
  generalize openC l 8 8 = oc at *
  have hn : ((oc : Int) != 0) = true := by simpa using h0
  clear hv
  go_enter Tryz.func46, Tryz.ntmps46
  go_wp2_with (first
    | (go_at_call 68; refine Calls.mono (HO.out _ (Below.alloc (Below.refl _ _) (Nat.le_refl _) _)) ?_; rintro e w1 ⟨rfl, hb1⟩; have hB1 : Below w.heap.size w w1 := ((Below.refl _ _).alloc (Nat.le_refl _) _).trans (hb1.mono (by simp)); have hz1 : w.heap.size < w1.heap.size := (by have := hb1.size; simp at this; omega); have hT : w1.there w.heap.size 0 8 := there_at hb1)
    | (refine gate_store 50 (.tmp 2) (.tmp 18) rfl ?_; refine wpList_store_mid rfl 50 (.tmp 2) (.tmp 18) rfl w.heap.size 0 #[.int .i64 (oc : Nat), .int .i64 0, .int .i64 0, .int .i64 0, .int .i64 0, .int .i64 0, .string ⟨#[]⟩, .int .i64 0] rfl rfl hT infoRAns (by simp [Value.oneCell']) ?_; have hra4 := World.rangeAt_setCells_same _ w.heap.size 0 [.int .i64 (oc : Nat), .int .i64 0, .int .i64 0, .int .i64 0, .int .i64 0, .int .i64 0, .string ⟨#[]⟩, .int .i64 0] hT; have hld := run_loadVar_mid (P := Tryz.prog) _ w.heap.size 0 50 _ _ hra4 Tryz.underlying50 rfl infoRAns; have hB4 := below_setCells (Nat.le_refl _) [.int .i64 (oc : Nat), .int .i64 0, .int .i64 0, .int .i64 0, .int .i64 0, .int .i64 0, .string ⟨#[]⟩, .int .i64 0] 0 _ hB1; clear hra4; generalize (World.setCells _ w.heap.size 0 _) = W4 at hld hB4 ⊢))
  refine bodyPost_ret (v := .agg #[.int .i64 (oc : Nat), .int .i64 0, .int .i64 0, .int .i64 0, .int .i64 0, .int .i64 0, .string ⟨#[]⟩, .int .i64 0]) ?_ rfl ⟨rfl, hB4⟩
  exact results_cell Tryz.results46 rfl hld
end Go.Proofs.YtafmjckpbcijoaaGreatDoor
