/-
  The type switch of impl.answerOf; errors.
-/
import Derived.Test.YtafmjckpbcijoaaGreatDoorCodes
import Derived.Test.YtafmjckpbcijoaaGreatDoorGround
namespace Go.Proofs.YtafmjckpbcijoaaGreatDoor
open Go.RowKit
set_option linter.unusedVariables false
set_option linter.unusedSimpArgs false

abbrev zeroMsgV : Value := .agg #[.int .i64 0, .int .i64 0, .int .i64 0, .int .i64 0, .int .i64 0, .int .i64 0, .int .i64 0, .int .i64 0, .int .i64 0, .slice none 0 0]
abbrev zeroCmdV : Value := .agg #[.int .i64 0, .int .i64 0, .int .i64 0, .string ⟨#[]⟩, .string ⟨#[]⟩, .string ⟨#[]⟩]
abbrev zeroReplyV : Value := .agg #[.int .i64 0, .int .i64 0, .int .i64 0, .int .i64 0, .string ⟨#[]⟩, .int .i64 0]
theorem ta_nil_msg (w : World) : (Instr.typeAssert .nilIface 78 63 true).run Tryz.prog w = .ok (.tuple #[zeroMsgV, .bool false]) w := by kernel_rfl
theorem ta_nil_call (w : World) : (Instr.typeAssert .nilIface 78 66 true).run Tryz.prog w = .ok (.tuple #[zeroCmdV, .bool false]) w := by kernel_rfl
theorem ta_nil_reply (w : World) : (Instr.typeAssert .nilIface 78 73 true).run Tryz.prog w = .ok (.tuple #[zeroReplyV, .bool false]) w := by kernel_rfl
theorem ta_msg_msg (X : Value) (w : World) : (Instr.typeAssert (.iface 63 X) 78 63 true).run Tryz.prog w = .ok (.tuple #[X, .bool true]) w := by kernel_rfl
theorem ta_call_msg (X : Value) (w : World) : (Instr.typeAssert (.iface 66 X) 78 63 true).run Tryz.prog w = .ok (.tuple #[zeroMsgV, .bool false]) w := by kernel_rfl
theorem ta_reply_msg (X : Value) (w : World) : (Instr.typeAssert (.iface 73 X) 78 63 true).run Tryz.prog w = .ok (.tuple #[zeroMsgV, .bool false]) w := by kernel_rfl
theorem ta_call_call (X : Value) (w : World) : (Instr.typeAssert (.iface 66 X) 78 66 true).run Tryz.prog w = .ok (.tuple #[X, .bool true]) w := by kernel_rfl
theorem ta_reply_call (X : Value) (w : World) : (Instr.typeAssert (.iface 73 X) 78 66 true).run Tryz.prog w = .ok (.tuple #[zeroCmdV, .bool false]) w := by kernel_rfl
theorem ta_reply_reply (X : Value) (w : World) : (Instr.typeAssert (.iface 73 X) 78 73 true).run Tryz.prog w = .ok (.tuple #[X, .bool true]) w := by kernel_rfl

theorem infoAns : (Tryz.prog.info? 75).map (·.size) = some 24 := by kernel_rfl

set_option maxHeartbeats 4000000 in
set_option maxRecDepth 100000 in
theorem answerOf_err (i : Nat) (f : Int) (w : World) (A : Nat → Addr) (B : Nat) (hs : Sents w A B) (h1 : 1 ≤ i) (h6 : i ≤ 6) :
    Calls Tryz.prog 38 #[.nilIface, refV (A i) f] w fun e w' =>
      e = .returned (.agg #[.int .i64 i, .int .i64 f, .int .i64 0, .int .i64 0, .int .i64 0, .int .i64 0, .int .i64 0, .int .i64 0, .int .i64 0, .int .i64 0, .int .i64 0, .slice none 0 0, .int .i64 0, .int .i64 0, .int .i64 0, .string ⟨#[]⟩, .string ⟨#[]⟩, .string ⟨#[]⟩, .int .i64 0, .int .i64 0, .int .i64 0, .int .i64 0, .string ⟨#[]⟩, .int .i64 0]) ∧ Below w.heap.size w w' := by
  have t1 := ta_nil_msg
  have t2 := ta_nil_call
  have t3 := ta_nil_reply
  go_enter Tryz.func38, Tryz.ntmps38
  go_wp2_with (first
    | (go_at_call 60; refine (codeOf_ref i f _ A B (hs.below ((Below.refl _ _).alloc (Nat.le_refl _) _)) h1 h6).mono ?_; rintro e w1 ⟨rfl, hb1⟩; have hB1 : Below w.heap.size w w1 := ((Below.refl _ _).alloc (Nat.le_refl _) _).trans (hb1.mono (by simp)); have hz1 : w.heap.size < w1.heap.size := (by have := hb1.size; simp at this; omega))
    | (go_at_call 61; refine (faultOf_ref i f _ A B (hs.below hB1)).mono ?_; rintro e w2 ⟨rfl, hb⟩; have hz : w.heap.size < w2.heap.size := (by have := hb.size; omega); have hB2 := hB1.trans (hb.mono hB1.size); have hth := there_new (hb1.trans (hb.mono hb1.size)) hz (.cells #[.int .i64 i, .int .i64 f, .int .i64 0, .int .i64 0, .int .i64 0, .int .i64 0, .int .i64 0, .int .i64 0, .int .i64 0, .int .i64 0, .int .i64 0, .slice none 0 0, .int .i64 0, .int .i64 0, .int .i64 0, .string ⟨#[]⟩, .string ⟨#[]⟩, .string ⟨#[]⟩, .int .i64 0, .int .i64 0, .int .i64 0, .int .i64 0, .string ⟨#[]⟩, .int .i64 0] 75))
    | (refine wpl_store_new rfl 75 (.tmp 5) (.tmp 13) rfl #[.int .i64 0, .int .i64 0, .int .i64 0, .int .i64 0, .int .i64 0, .int .i64 0, .int .i64 0, .int .i64 0, .int .i64 0, .int .i64 0, .int .i64 0, .slice none 0 0, .int .i64 0, .int .i64 0, .int .i64 0, .string ⟨#[]⟩, .string ⟨#[]⟩, .string ⟨#[]⟩, .int .i64 0, .int .i64 0, .int .i64 0, .int .i64 0, .string ⟨#[]⟩, .int .i64 0] #[.int .i64 i, .int .i64 f, .int .i64 0, .int .i64 0, .int .i64 0, .int .i64 0, .int .i64 0, .int .i64 0, .int .i64 0, .int .i64 0, .int .i64 0, .slice none 0 0, .int .i64 0, .int .i64 0, .int .i64 0, .string ⟨#[]⟩, .string ⟨#[]⟩, .string ⟨#[]⟩, .int .i64 0, .int .i64 0, .int .i64 0, .int .i64 0, .string ⟨#[]⟩, .int .i64 0] rfl rfl infoAns rfl (by simp [Value.oneCell']) ?_)
    | (refine wpList_load_mid rfl 75 (.tmp 5) rfl w2.heap.size 0 rfl [.int .i64 i, .int .i64 f, .int .i64 0, .int .i64 0, .int .i64 0, .int .i64 0, .int .i64 0, .int .i64 0, .int .i64 0, .int .i64 0, .int .i64 0, .slice none 0 0, .int .i64 0, .int .i64 0, .int .i64 0, .string ⟨#[]⟩, .string ⟨#[]⟩, .string ⟨#[]⟩, .int .i64 0, .int .i64 0, .int .i64 0, .int .i64 0, .string ⟨#[]⟩, .int .i64 0] _ (range_new w2 [.int .i64 i, .int .i64 f, .int .i64 0, .int .i64 0, .int .i64 0, .int .i64 0, .int .i64 0, .int .i64 0, .int .i64 0, .int .i64 0, .int .i64 0, .slice none 0 0, .int .i64 0, .int .i64 0, .int .i64 0, .string ⟨#[]⟩, .string ⟨#[]⟩, .string ⟨#[]⟩, .int .i64 0, .int .i64 0, .int .i64 0, .int .i64 0, .string ⟨#[]⟩, .int .i64 0] 75) Tryz.underlying75 rfl infoAns ?_)
    | (refine wpList_store_mid rfl 75 (.tmp 4) (.tmp 30) rfl w.heap.size 0 #[.int .i64 i, .int .i64 f, .int .i64 0, .int .i64 0, .int .i64 0, .int .i64 0, .int .i64 0, .int .i64 0, .int .i64 0, .int .i64 0, .int .i64 0, .slice none 0 0, .int .i64 0, .int .i64 0, .int .i64 0, .string ⟨#[]⟩, .string ⟨#[]⟩, .string ⟨#[]⟩, .int .i64 0, .int .i64 0, .int .i64 0, .int .i64 0, .string ⟨#[]⟩, .int .i64 0] rfl rfl hth infoAns (by simp [Value.oneCell']) ?_; have hra := World.rangeAt_setCells_same _ w.heap.size 0 ([.int .i64 i, .int .i64 f, .int .i64 0, .int .i64 0, .int .i64 0, .int .i64 0, .int .i64 0, .int .i64 0, .int .i64 0, .int .i64 0, .int .i64 0, .slice none 0 0, .int .i64 0, .int .i64 0, .int .i64 0, .string ⟨#[]⟩, .string ⟨#[]⟩, .string ⟨#[]⟩, .int .i64 0, .int .i64 0, .int .i64 0, .int .i64 0, .string ⟨#[]⟩, .int .i64 0] : List Value) hth; have hld := run_loadVar_mid (P := Tryz.prog) _ w.heap.size 0 75 _ _ hra Tryz.underlying75 rfl infoAns; have hB4 := below_setCells (Nat.le_refl _) ([.int .i64 i, .int .i64 f, .int .i64 0, .int .i64 0, .int .i64 0, .int .i64 0, .int .i64 0, .int .i64 0, .int .i64 0, .int .i64 0, .int .i64 0, .slice none 0 0, .int .i64 0, .int .i64 0, .int .i64 0, .string ⟨#[]⟩, .string ⟨#[]⟩, .string ⟨#[]⟩, .int .i64 0, .int .i64 0, .int .i64 0, .int .i64 0, .string ⟨#[]⟩, .int .i64 0] : List Value) 0 _ (hB2.alloc (Nat.le_of_lt hz) (.cells #[.int .i64 i, .int .i64 f, .int .i64 0, .int .i64 0, .int .i64 0, .int .i64 0, .int .i64 0, .int .i64 0, .int .i64 0, .int .i64 0, .int .i64 0, .slice none 0 0, .int .i64 0, .int .i64 0, .int .i64 0, .string ⟨#[]⟩, .string ⟨#[]⟩, .string ⟨#[]⟩, .int .i64 0, .int .i64 0, .int .i64 0, .int .i64 0, .string ⟨#[]⟩, .int .i64 0] 75)); clear hra hth; generalize (World.setCells _ w.heap.size 0 _) = W4 at hld hB4 ⊢))
  refine bodyPost_ret (v := .agg #[.int .i64 i, .int .i64 f, .int .i64 0, .int .i64 0, .int .i64 0, .int .i64 0, .int .i64 0, .int .i64 0, .int .i64 0, .int .i64 0, .int .i64 0, .slice none 0 0, .int .i64 0, .int .i64 0, .int .i64 0, .string ⟨#[]⟩, .string ⟨#[]⟩, .string ⟨#[]⟩, .int .i64 0, .int .i64 0, .int .i64 0, .int .i64 0, .string ⟨#[]⟩, .int .i64 0]) ?_ rfl ⟨rfl, hB4⟩
  exact results_cell Tryz.results38 rfl hld
end Go.Proofs.YtafmjckpbcijoaaGreatDoor
