/-
  The type switch of impl.answerOf; errors.
-/
import Derived.Test.YtmbiccmndcchhaeDoorCodes
import Derived.Deep.MidRow
import Derived.Deep.WholeRow
namespace Go.Proofs.YtmbiccmndcchhaeDoor
open Go.RowKit
set_option linter.unusedVariables false
set_option linter.unusedSimpArgs false

abbrev zeroMsgV : Value := .agg #[.int .i64 0, .int .i64 0, .int .i64 0, .int .i64 0, .int .i64 0, .int .i64 0, .int .i64 0, .int .i64 0, .int .i64 0, .slice none 0 0]
abbrev zeroCmdV : Value := .agg #[.int .i64 0, .int .i64 0, .int .i64 0, .string ⟨#[]⟩, .string ⟨#[]⟩, .string ⟨#[]⟩]
abbrev zeroReplyV : Value := .agg #[.int .i64 0, .int .i64 0, .int .i64 0, .int .i64 0, .string ⟨#[]⟩, .int .i64 0]
theorem ta_nil_msg (w : World) : (Instr.typeAssert .nilIface 61 90 true).run Tryd.prog w = .ok (.tuple #[zeroMsgV, .bool false]) w := by kernel_rfl
theorem ta_nil_call (w : World) : (Instr.typeAssert .nilIface 61 91 true).run Tryd.prog w = .ok (.tuple #[zeroCmdV, .bool false]) w := by kernel_rfl
theorem ta_nil_reply (w : World) : (Instr.typeAssert .nilIface 61 92 true).run Tryd.prog w = .ok (.tuple #[zeroReplyV, .bool false]) w := by kernel_rfl
theorem ta_msg_msg (X : Value) (w : World) : (Instr.typeAssert (.iface 90 X) 61 90 true).run Tryd.prog w = .ok (.tuple #[X, .bool true]) w := by kernel_rfl
theorem ta_call_msg (X : Value) (w : World) : (Instr.typeAssert (.iface 91 X) 61 90 true).run Tryd.prog w = .ok (.tuple #[zeroMsgV, .bool false]) w := by kernel_rfl
theorem ta_reply_msg (X : Value) (w : World) : (Instr.typeAssert (.iface 92 X) 61 90 true).run Tryd.prog w = .ok (.tuple #[zeroMsgV, .bool false]) w := by kernel_rfl
theorem ta_call_call (X : Value) (w : World) : (Instr.typeAssert (.iface 91 X) 61 91 true).run Tryd.prog w = .ok (.tuple #[X, .bool true]) w := by kernel_rfl
theorem ta_reply_call (X : Value) (w : World) : (Instr.typeAssert (.iface 92 X) 61 91 true).run Tryd.prog w = .ok (.tuple #[zeroCmdV, .bool false]) w := by kernel_rfl
theorem ta_reply_reply (X : Value) (w : World) : (Instr.typeAssert (.iface 92 X) 61 92 true).run Tryd.prog w = .ok (.tuple #[X, .bool true]) w := by kernel_rfl

theorem below_setCells {B g : Nat} {w0 : World} (hg : B ≤ g) : ∀ (vs : List Value) (o : Nat) (w : World), Below B w0 w → Below B w0 (w.setCells g o vs)
  | [], _, _, h => h
  | v :: vs, o, w, h => below_setCells hg vs (o + 1) _ (h.setCell (show B ≤ (⟨g, o, none⟩ : Addr).block from hg) v)

theorem wpl_store_new {w : World} {ops : Array Oper} {rest : List Oper} {o : Oper} {a : Act} {Q : Exit → Act → World → Prop} (hgd : o.guard = none) (ty : TypeId) (x y : Operand) (ho : o.op = .store ty x y)
    (c c' : Array Value) (hx : a.eval x = .pointer (some ⟨w.heap.size, 0, none⟩)) (hy : a.eval y = .agg c') (hi : (Tryd.prog.info? ty).map (·.size) = some c'.size) (hc : c.size = c'.size) (h1 : c'.all (·.oneCell') = true)
    (h : wpList Tryd.prog ops Q rest (a.put o.dst undef) (w.alloc (.cells c' ty))) : wpList Tryd.prog ops Q (o :: rest) a (w.alloc (.cells c ty)) :=
  wpList_plain hgd fun K hK => by
    unfold Oper.wp execOp
    simp only [ho, hx, hy, Sem.run_bind, Sem.run_pure, Result.andThen_ok, run_storeAt_new w ty c c' hi hc h1]
    exact hK _ _ h

theorem range_new (w : World) (cs : List Value) (t : TypeId) : (w.alloc (.cells cs.toArray t)).rangeAt w.heap.size 0 cs := by
  intro j v hj
  rw [Nat.zero_add, World.cell?_alloc_new]
  simpa using hj

theorem results_cell {fn : Func} {t : Tmp} {ty : TypeId} {tmps : Array Value} {a : Addr} {w : World} {v : Value} (hr : fn.results = #[.cell t ty]) (ht : tmps.getD t undef = .pointer (some a))
    (hl : (loadVar ty a).run Tryd.prog w = .ok v w) : (results fn tmps).run Tryd.prog w = .ok v w := by
  have e : tmps[t]?.getD undef = .pointer (some a) := by rw [← ht]; simp
  simp [results, hr, e, hl, asAddr]

theorem infoAns : (Tryd.prog.info? 58).map (·.size) = some 24 := by kernel_rfl

/-- a variable that the call itself made is there still -/
theorem there_new {w w2 : World} {cs : Array Value} {t : TypeId} (hb : Below (w.alloc (.cells cs t)).heap.size (w.alloc (.cells cs t)) w2) (hlt : w.heap.size < w2.heap.size) (o : Obj) : (w2.alloc o).there w.heap.size 0 cs.size := by
  intro j hj
  have c := hb.cell (p := ⟨w.heap.size, 0 + j, none⟩) (by simp)
  have f := hb.frozen (p := ⟨w.heap.size, 0 + j, none⟩) (by simp)
  rw [World.cell?_alloc_lt _ _ ⟨w.heap.size, 0 + j, none⟩ hlt, World.frozen?_alloc_old _ _ ⟨w.heap.size, 0 + j, none⟩ (Nat.ne_of_lt hlt), c, f]
  simp [hj]

set_option maxHeartbeats 4000000 in
set_option maxRecDepth 100000 in
theorem answerOf_err (i : Nat) (f : Int) (w : World) (A : Nat → Addr) (B : Nat) (hs : Sents w A B) (h1 : 1 ≤ i) (h6 : i ≤ 6) :
    Calls Tryd.prog 24 #[.nilIface, refV (A i) f] w fun e w' =>
      e = .returned (.agg #[.int .i64 i, .int .i64 f, .int .i64 0, .int .i64 0, .int .i64 0, .int .i64 0, .int .i64 0, .int .i64 0, .int .i64 0, .int .i64 0, .int .i64 0, .slice none 0 0, .int .i64 0, .int .i64 0, .int .i64 0, .string ⟨#[]⟩, .string ⟨#[]⟩, .string ⟨#[]⟩, .int .i64 0, .int .i64 0, .int .i64 0, .int .i64 0, .string ⟨#[]⟩, .int .i64 0]) ∧ Below w.heap.size w w' := by
  have t1 := ta_nil_msg
  have t2 := ta_nil_call
  have t3 := ta_nil_reply
  go_enter Tryd.func24, Tryd.ntmps24
  go_wp2_with (first
    | (go_at_call 41; refine (codeOf_ref i f _ A B (hs.below ((Below.refl _ _).alloc (Nat.le_refl _) _)) h1 h6).mono ?_; rintro e w1 ⟨rfl, hb1⟩; have hB1 : Below w.heap.size w w1 := ((Below.refl _ _).alloc (Nat.le_refl _) _).trans (hb1.mono (by simp)); have hz1 : w.heap.size < w1.heap.size := (by have := hb1.size; simp at this; omega))
    | (go_at_call 42; refine (faultOf_ref i f _ A B (hs.below hB1)).mono ?_; rintro e w2 ⟨rfl, hb⟩; have hz : w.heap.size < w2.heap.size := (by have := hb.size; omega); have hB2 := hB1.trans (hb.mono hB1.size); have hth := there_new (hb1.trans (hb.mono hb1.size)) hz (.cells #[.int .i64 i, .int .i64 f, .int .i64 0, .int .i64 0, .int .i64 0, .int .i64 0, .int .i64 0, .int .i64 0, .int .i64 0, .int .i64 0, .int .i64 0, .slice none 0 0, .int .i64 0, .int .i64 0, .int .i64 0, .string ⟨#[]⟩, .string ⟨#[]⟩, .string ⟨#[]⟩, .int .i64 0, .int .i64 0, .int .i64 0, .int .i64 0, .string ⟨#[]⟩, .int .i64 0] 58))
    | (refine wpl_store_new rfl 58 (.tmp 5) (.tmp 13) rfl #[.int .i64 0, .int .i64 0, .int .i64 0, .int .i64 0, .int .i64 0, .int .i64 0, .int .i64 0, .int .i64 0, .int .i64 0, .int .i64 0, .int .i64 0, .slice none 0 0, .int .i64 0, .int .i64 0, .int .i64 0, .string ⟨#[]⟩, .string ⟨#[]⟩, .string ⟨#[]⟩, .int .i64 0, .int .i64 0, .int .i64 0, .int .i64 0, .string ⟨#[]⟩, .int .i64 0] #[.int .i64 i, .int .i64 f, .int .i64 0, .int .i64 0, .int .i64 0, .int .i64 0, .int .i64 0, .int .i64 0, .int .i64 0, .int .i64 0, .int .i64 0, .slice none 0 0, .int .i64 0, .int .i64 0, .int .i64 0, .string ⟨#[]⟩, .string ⟨#[]⟩, .string ⟨#[]⟩, .int .i64 0, .int .i64 0, .int .i64 0, .int .i64 0, .string ⟨#[]⟩, .int .i64 0] rfl rfl infoAns rfl (by simp [Value.oneCell']) ?_)
    | (refine wpList_load_mid rfl 58 (.tmp 5) rfl w2.heap.size 0 rfl [.int .i64 i, .int .i64 f, .int .i64 0, .int .i64 0, .int .i64 0, .int .i64 0, .int .i64 0, .int .i64 0, .int .i64 0, .int .i64 0, .int .i64 0, .slice none 0 0, .int .i64 0, .int .i64 0, .int .i64 0, .string ⟨#[]⟩, .string ⟨#[]⟩, .string ⟨#[]⟩, .int .i64 0, .int .i64 0, .int .i64 0, .int .i64 0, .string ⟨#[]⟩, .int .i64 0] _ (range_new w2 [.int .i64 i, .int .i64 f, .int .i64 0, .int .i64 0, .int .i64 0, .int .i64 0, .int .i64 0, .int .i64 0, .int .i64 0, .int .i64 0, .int .i64 0, .slice none 0 0, .int .i64 0, .int .i64 0, .int .i64 0, .string ⟨#[]⟩, .string ⟨#[]⟩, .string ⟨#[]⟩, .int .i64 0, .int .i64 0, .int .i64 0, .int .i64 0, .string ⟨#[]⟩, .int .i64 0] 58) Tryd.underlying58 rfl infoAns ?_)
    | (refine wpList_store_mid rfl 58 (.tmp 4) (.tmp 30) rfl w.heap.size 0 #[.int .i64 i, .int .i64 f, .int .i64 0, .int .i64 0, .int .i64 0, .int .i64 0, .int .i64 0, .int .i64 0, .int .i64 0, .int .i64 0, .int .i64 0, .slice none 0 0, .int .i64 0, .int .i64 0, .int .i64 0, .string ⟨#[]⟩, .string ⟨#[]⟩, .string ⟨#[]⟩, .int .i64 0, .int .i64 0, .int .i64 0, .int .i64 0, .string ⟨#[]⟩, .int .i64 0] rfl rfl hth infoAns (by simp [Value.oneCell']) ?_; have hra := World.rangeAt_setCells_same _ w.heap.size 0 ([.int .i64 i, .int .i64 f, .int .i64 0, .int .i64 0, .int .i64 0, .int .i64 0, .int .i64 0, .int .i64 0, .int .i64 0, .int .i64 0, .int .i64 0, .slice none 0 0, .int .i64 0, .int .i64 0, .int .i64 0, .string ⟨#[]⟩, .string ⟨#[]⟩, .string ⟨#[]⟩, .int .i64 0, .int .i64 0, .int .i64 0, .int .i64 0, .string ⟨#[]⟩, .int .i64 0] : List Value) hth; have hld := run_loadVar_mid (P := Tryd.prog) _ w.heap.size 0 58 _ _ hra Tryd.underlying58 rfl infoAns; have hB4 := below_setCells (Nat.le_refl _) ([.int .i64 i, .int .i64 f, .int .i64 0, .int .i64 0, .int .i64 0, .int .i64 0, .int .i64 0, .int .i64 0, .int .i64 0, .int .i64 0, .int .i64 0, .slice none 0 0, .int .i64 0, .int .i64 0, .int .i64 0, .string ⟨#[]⟩, .string ⟨#[]⟩, .string ⟨#[]⟩, .int .i64 0, .int .i64 0, .int .i64 0, .int .i64 0, .string ⟨#[]⟩, .int .i64 0] : List Value) 0 _ (hB2.alloc (Nat.le_of_lt hz) (.cells #[.int .i64 i, .int .i64 f, .int .i64 0, .int .i64 0, .int .i64 0, .int .i64 0, .int .i64 0, .int .i64 0, .int .i64 0, .int .i64 0, .int .i64 0, .slice none 0 0, .int .i64 0, .int .i64 0, .int .i64 0, .string ⟨#[]⟩, .string ⟨#[]⟩, .string ⟨#[]⟩, .int .i64 0, .int .i64 0, .int .i64 0, .int .i64 0, .string ⟨#[]⟩, .int .i64 0] 58)); clear hra hth; generalize (World.setCells _ w.heap.size 0 _) = W4 at hld hB4 ⊢))
  refine bodyPost_ret (v := .agg #[.int .i64 i, .int .i64 f, .int .i64 0, .int .i64 0, .int .i64 0, .int .i64 0, .int .i64 0, .int .i64 0, .int .i64 0, .int .i64 0, .int .i64 0, .slice none 0 0, .int .i64 0, .int .i64 0, .int .i64 0, .string ⟨#[]⟩, .string ⟨#[]⟩, .string ⟨#[]⟩, .int .i64 0, .int .i64 0, .int .i64 0, .int .i64 0, .string ⟨#[]⟩, .int .i64 0]) ?_ rfl ⟨rfl, hB4⟩
  exact results_cell Tryd.results24 rfl hld
end Go.Proofs.YtmbiccmndcchhaeDoor
