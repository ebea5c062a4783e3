/-
  The decoders refuse what has a wrong length or check sum.
-/
import Derived.Test.YtafmjckpbcijoaaGreatDoorGround4
import Derived.Test.YtafmjckpbcijoaaGreatDoorImplDecReply
import Derived.Test.YtafmjckpbcijoaaGreatDoorImplDecCall
import Derived.Test.YtafmjckpbcijoaaGreatDoorImplDecMsg
namespace Go.Proofs.YtafmjckpbcijoaaGreatDoor
open Go.RowKit
set_option linter.unusedVariables false
set_option linter.unusedSimpArgs false

theorem decMsg_ref (a : Option Addr) (len c : Nat) (m : List Int) (k : Nat) (w : World) (A : Nat → Addr) (B : Nat) (hs : Sents w A B) (hv : Bs w (.slice a len c) m) (hc : len ≤ c) (hk : sumC m = k) (h0 : k ≠ 0) :
    Calls Tryz.prog 16 #[.slice a len c] w fun e w' => ∃ ev, e = .returned (.agg #[.int .i64 (k : Nat), .int .i64 0, .int .i64 0, .int .i64 0, .int .i64 0, .int .i64 0, .int .i64 0, .int .i64 0, .int .i64 0, .int .i64 0, .int .i64 0, ev]) ∧ Below w.heap.size w w' := by
  have hC : msgC m = (k, 0) := by unfold msgC; rw [decC_sum (by omega), hk]
  refine (implDecMsg_any a len c m w A B hs hv hc).mono ?_
  rintro e w' ⟨ev, rfl, _, hb⟩
  refine ⟨ev, ?_, hb⟩
  rw [hC]
  unfold msgAns
  rw [if_neg h0]
theorem decCall_ref (a : Option Addr) (len c : Nat) (m : List Int) (k : Nat) (w : World) (A : Nat → Addr) (B : Nat) (hs : Sents w A B) (hv : Bs w (.slice a len c) m) (hc : len ≤ c) (hk : sumC m = k) (h0 : k ≠ 0) :
    Calls Tryz.prog 18 #[.slice a len c] w fun e w' => e = .returned (.agg #[.int .i64 (k : Nat), .int .i64 0, .int .i64 0, .int .i64 0, .int .i64 0, .string ⟨#[]⟩, .string ⟨#[]⟩, .string ⟨#[]⟩]) ∧ Below w.heap.size w w' := by
  have hC : callC m = (k, 0) := by unfold callC; rw [decC_sum (by omega), hk]
  refine (implDecCall_any a len c m w A B hs hv hc).mono ?_
  rintro e w' ⟨rfl, hb⟩
  refine ⟨?_, hb⟩
  rw [hC]
  unfold callAns
  rw [if_neg h0]
theorem decReply_ref (a : Option Addr) (len c : Nat) (m : List Int) (k : Nat) (w : World) (A : Nat → Addr) (B : Nat) (hs : Sents w A B) (hv : Bs w (.slice a len c) m) (hc : len ≤ c) (hk : sumC m = k) (h0 : k ≠ 0) :
    Calls Tryz.prog 19 #[.slice a len c] w fun e w' => e = .returned (.agg #[.int .i64 (k : Nat), .int .i64 0, .int .i64 0, .int .i64 0, .int .i64 0, .int .i64 0, .string ⟨#[]⟩, .int .i64 0]) ∧ Below w.heap.size w w' := by
  have hC : repC m = (k, 0) := by unfold repC; rw [decC_sum (by omega), hk]
  refine (implDecReply_any a len c m w A B hs hv hc).mono ?_
  rintro e w' ⟨rfl, hb⟩
  refine ⟨?_, hb⟩
  rw [hC]
  unfold repAns
  rw [if_neg h0]
theorem fldM (x0 x1 x2 x3 x4 x5 x6 x7 x8 x9 x10 x11 : Value) (u : World) : Sem.run Tryz.prog (Instr.field 43 (.agg #[x0, x1, x2, x3, x4, x5, x6, x7, x8, x9, x10, x11]) 0) u = .ok x0 u := by
  simp [Instr.field, go_sem, asAgg]
theorem fldC (x0 x1 x2 x3 x4 x5 x6 x7 : Value) (u : World) : Sem.run Tryz.prog (Instr.field 47 (.agg #[x0, x1, x2, x3, x4, x5, x6, x7]) 0) u = .ok x0 u := by
  simp [Instr.field, go_sem, asAgg]
theorem fldR (x0 x1 x2 x3 x4 x5 x6 x7 : Value) (u : World) : Sem.run Tryz.prog (Instr.field 50 (.agg #[x0, x1, x2, x3, x4, x5, x6, x7]) 0) u = .ok x0 u := by
  simp [Instr.field, go_sem, asAgg]
end Go.Proofs.YtafmjckpbcijoaaGreatDoor
