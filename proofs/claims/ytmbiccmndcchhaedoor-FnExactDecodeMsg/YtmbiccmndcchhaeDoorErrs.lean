/-
  errors.Is and errors.As at the errors of the wire: nil, and a refusal that wraps a sentinel.
-/
import Derived.Test.YtmbiccmndcchhaeDoorGround
import Derived.LaidEql
import Derived.Stop.Asserts
import Derived.RowKitTokens
namespace Go.Proofs.YtmbiccmndcchhaeDoor
open Go.RowKit Go.Extern.Stop Go.Stop Go.Extern
set_option linter.unusedVariables false

/-- the value of a sentinel -/
abbrev sentV (a : Addr) : Value := .iface 171 (.pointer (some a))
/-- an error that wraps the sentinel at a, with a fault -/
abbrev refV (a : Addr) (f : Int) : Value := .iface 95 (.agg #[sentV a, .int .i64 f])

theorem isTypeOf (v : Value) (w : World) : (Extern.ReflectliteType.typeOf #[.iface 171 v]).run Tryd.prog w = .ok (.iface 156 (.agg #[.pointer (some ⟨8, 171, none⟩)])) w := by kernel_rfl
def cmpM : Array Value → Sem Value := Extern.ReflectliteType.method fun t => do Rtype.noPackHeld "Comparable" t; pure (.bool (← typeInfo t).comparable)
theorem isComparable (w : World) : (cmpM #[.agg #[.pointer (some ⟨8, 171, none⟩)]]).run Tryd.prog w = .ok (.bool true) w := by kernel_rfl
theorem isMethodComparable (v : Value) (w : World) : (Go.method 316 156 v "Comparable").run Tryd.prog w = .ok (146, v) w := by kernel_rfl
theorem isComp : (Tryd.prog.info? 171).map (·.comparable) = some true := by kernel_rfl
theorem isSize : (Tryd.prog.info? 201).map (·.size) = some 1 := by kernel_rfl
theorem noIsE (v : Value) (xT : TypeId) (w : World) : (Instr.typeAssert (.iface 171 v) xT 158 true).run Tryd.prog w = .ok (.tuple #[.nilIface, .bool false]) w := run_typeAssert_lacksB Tryd.underlying158 (by kernel_rfl) (by kernel_rfl) v xT w
theorem noUnwrapE (v : Value) (xT : TypeId) (w : World) : (Instr.typeAssert (.iface 171 v) xT 161 true).run Tryd.prog w = .ok (.tuple #[.nilIface, .bool false]) w := run_typeAssert_lacksB Tryd.underlying161 (by kernel_rfl) (by kernel_rfl) v xT w
theorem noUnwrapsE (v : Value) (xT : TypeId) (w : World) : (Instr.typeAssert (.iface 171 v) xT 162 true).run Tryd.prog w = .ok (.tuple #[.nilIface, .bool false]) w := run_typeAssert_lacksB Tryd.underlying162 (by kernel_rfl) (by kernel_rfl) v xT w
theorem noIsW (v : Value) (xT : TypeId) (w : World) : (Instr.typeAssert (.iface 95 v) xT 158 true).run Tryd.prog w = .ok (.tuple #[.nilIface, .bool false]) w := run_typeAssert_lacksB Tryd.underlying158 (by kernel_rfl) (by kernel_rfl) v xT w
theorem hasUnwrapW (v : Value) (xT : TypeId) (w : World) : (Instr.typeAssert (.iface 95 v) xT 161 true).run Tryd.prog w = .ok (.tuple #[.iface 95 v, .bool true]) w := run_typeAssert_hasB Tryd.underlying161 (by kernel_rfl) v xT w
theorem methodUnwrap (v : Value) (w : World) : (Go.method 316 95 v "Unwrap").run Tryd.prog w = .ok (123, v) w := by kernel_rfl

theorem refusal_unwrap (a : Addr) (f : Int) (w : World) :
    Calls Tryd.prog 123 #[.agg #[sentV a, .int .i64 f]] w fun e w' => e = .returned (sentV a) ∧ w' = w.alloc (.cells #[sentV a, .int .i64 f] 95) := by
  go_enter Tryd.func123, Tryd.ntmps123
  go_wp2
  go_ret
  exact ⟨rfl, rfl⟩

/-- errors.Is(nil, x). -/
theorem is_nil (b : Addr) (w : World) :
    Calls Tryd.prog 61 #[.nilIface, sentV b] w fun e w' => e = .returned (.bool false) ∧ w' = w := by
  have hn := run_eql_iface_nil_left (P := Tryd.prog) w 171 (.pointer (some b)) Tryd.underlying63
  go_enter Tryd.func61, Tryd.ntmps61
  go_wp2
  go_ret
  exact ⟨rfl, rfl⟩

/-- errors.Is(e, x), e a refusal that wraps x itself: one Unwrap, then equal. -/
theorem is_same (b : Addr) (f : Int) (w : World) :
    Calls Tryd.prog 61 #[refV b f, sentV b] w fun e w' => e = .returned (.bool true) ∧ Below w.heap.size w w' := by
  obtain ⟨i, hi, hcmp⟩ := Option.map_eq_some_iff.1 isComp
  obtain ⟨j, hj, hjs⟩ := Option.map_eq_some_iff.1 isSize
  have h8 := @run_callFunc_extern Tryd.prog 75 _ Extern.ReflectliteType.typeOf Tryd.func75 (by kernel_rfl) (by kernel_rfl) (by kernel_rfl) (by kernel_rfl)
  have h32 := @run_callFunc_extern Tryd.prog 146 _ cmpM Tryd.func146 (by kernel_rfl) (by kernel_rfl) (by kernel_rfl) (by kernel_rfl)
  have tT := isTypeOf
  have cT := isComparable
  have mR := isMethodComparable
  have nW := noIsW
  have uW := hasUnwrapW
  have mU := methodUnwrap
  have heq := run_eql_iface_ptr_same (P := Tryd.prog) (w.alloc (.cells #[sentV b, .int .i64 f] 95)) b Tryd.underlying63 Tryd.underlying171 hi hcmp hj
  have hty := run_eql_iface_types (P := Tryd.prog) 95 171 (.agg #[sentV b, .int .i64 f]) (.pointer (some b)) Tryd.underlying63 (by decide) w
  go_enter Tryd.func61, Tryd.ntmps61
  go_wp2
  refine wp_loop_rounds 2 ?_
  rw [rounds_succ]
  go_wp2
  rw [rounds_succ]
  go_wp2
  go_ret
  exact ⟨rfl, (Below.refl _ _).alloc (Nat.le_refl _) _⟩

/-- errors.Is(e, x), e a refusal that wraps another sentinel. -/
theorem is_other (a b : Addr) (f : Int) (ca cb : Array Value) (ta tb : TypeId) (w : World) (hne : a ≠ b) (ha : w.heap[a.block]? = some (.cells ca ta (0, 0))) (hb : w.heap[b.block]? = some (.cells cb tb (0, 0))) :
    Calls Tryd.prog 61 #[refV a f, sentV b] w fun e w' => e = .returned (.bool false) ∧ Below w.heap.size w w' := by
  obtain ⟨i, hi, hcmp⟩ := Option.map_eq_some_iff.1 isComp
  obtain ⟨j, hj, hjs⟩ := Option.map_eq_some_iff.1 isSize
  have h8 := @run_callFunc_extern Tryd.prog 75 _ Extern.ReflectliteType.typeOf Tryd.func75 (by kernel_rfl) (by kernel_rfl) (by kernel_rfl) (by kernel_rfl)
  have h32 := @run_callFunc_extern Tryd.prog 146 _ cmpM Tryd.func146 (by kernel_rfl) (by kernel_rfl) (by kernel_rfl) (by kernel_rfl)
  have tT := isTypeOf
  have cT := isComparable
  have mR := isMethodComparable
  have nE := noIsE
  have uE := noUnwrapE
  have vE := noUnwrapsE
  have nW := noIsW
  have uW := hasUnwrapW
  have mU := methodUnwrap
  have al : ∀ (k : Nat) (o : Obj), w.heap[k]? = some o → (w.alloc (.cells #[sentV a, .int .i64 f] 95)).heap[k]? = some o := fun k o h => by
    have hlt : k < w.heap.size := by
      rcases Nat.lt_or_ge k w.heap.size with h' | h'
      · exact h'
      · rw [Array.getElem?_eq_none h'] at h; cases h
    show (w.heap.push _)[k]? = _
    rw [Array.getElem?_push, if_neg (Nat.ne_of_lt hlt)]
    exact h
  have heq := run_eql_iface_ptr_other (P := Tryd.prog) (w.alloc (.cells #[sentV a, .int .i64 f] 95)) Tryd.underlying63 Tryd.underlying171 hi hcmp hj (by rw [hjs]; decide) hne (al _ _ ha) (al _ _ hb)
  have hty := run_eql_iface_types (P := Tryd.prog) 95 171 (.agg #[sentV a, .int .i64 f]) (.pointer (some b)) Tryd.underlying63 (by decide) w
  go_enter Tryd.func61, Tryd.ntmps61
  go_wp2
  refine wp_loop_rounds 2 ?_
  rw [rounds_succ]
  go_wp2
  rw [rounds_succ]
  go_wp2
  go_ret
  exact ⟨rfl, (Below.refl _ _).alloc (Nat.le_refl _) _⟩
end Go.Proofs.YtmbiccmndcchhaeDoor
