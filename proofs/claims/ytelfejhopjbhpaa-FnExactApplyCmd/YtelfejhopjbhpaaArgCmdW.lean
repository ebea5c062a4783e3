/-
  An argument of type laws.Cmd, opened.
-/
import Derived.Test.YtelfejhopjbhpaaArgBase
namespace Go.Proofs.Ytelfejhopjbhpaa
open Go.ChangeShapes Go.WideShapes Go.ChangeAt Go.RowKit
set_option linter.unusedVariables false
set_option linter.unusedSimpArgs false

namespace argCmdW
theorem cells_3 : Try.prog.cellsOf 3 = 1 := by kernel_rfl
theorem cells_9 : Try.prog.cellsOf 9 = 1 := by kernel_rfl
theorem wf_int {n : Int} (h : (Lit.int .i64 n).wf = true) : -(2 ^ 63) ≤ n ∧ n < 2 ^ 63 := int_wf h
section
variable {H : Type} {enc : TypeId × Value → H} {W : World} {base : Nat} {spare : Nat → Bool} {held : Bool}

theorem cells_Cmd : Try.prog.cellsOf 51 = 6 := by kernel_rfl
set_option maxRecDepth 100000 in
theorem cs_Cmd {fuel : Nat} {cs : List Value} {x : DataW H × List MemPlace} (h : DataW.trod enc Try.prog W base spare held fuel 51 cs = some x) :
    ∃ (cl : Int) (sq : Int) (op : Int) (k : ByteArray) (vl : ByteArray) (o : ByteArray), cs = [.int .i64 cl, .int .i64 sq, .int .i64 op, .string k, .string vl, .string o] ∧ (-(2 ^ 63) ≤ cl ∧ cl < 2 ^ 63) ∧ (-(2 ^ 63) ≤ sq ∧ sq < 2 ^ 63) ∧ (-(2 ^ 63) ≤ op ∧ op < 2 ^ 63) ∧ k.size ≤ maxLen ∧ vl.size ≤ maxLen ∧ o.size ≤ maxLen := by
  obtain ⟨xs, n, _, hx, hl, hlen, hg⟩ := DataW.trod_struct Try.underlying51 h
  have hln : cs.length = 6 := hl.trans cells_Cmd
  match cs, hln with
  | [c0, c1, c2, c3, c4, c5], _ =>
    have hlen' : xs.length = 6 := hlen
    have g0 := hg 0 _ rfl
    have g1 := hg 1 _ rfl
    have g2 := hg 2 _ rfl
    have g3 := hg 3 _ rfl
    have g4 := hg 4 _ rfl
    have g5 := hg 5 _ rfl
    rw [List.getElem?_eq_getElem (by omega)] at g0 g1 g2 g3 g4 g5
    obtain ⟨a0, e0, _, m0⟩ := DataW.trod_int Try.underlying3 g0
    obtain ⟨a1, e1, _, m1⟩ := DataW.trod_int Try.underlying3 g1
    obtain ⟨a2, e2, _, m2⟩ := DataW.trod_int Try.underlying3 g2
    obtain ⟨a3, e3, _, m3⟩ := DataW.trod_string Try.underlying9 g3
    obtain ⟨a4, e4, _, m4⟩ := DataW.trod_string Try.underlying9 g4
    obtain ⟨a5, e5, _, m5⟩ := DataW.trod_string Try.underlying9 g5
    simp [cells_3, cells_9] at e0 e1 e2 e3 e4 e5
    exact ⟨a0, a1, a2, a3, a4, a5, by rw [e0, e1, e2, e3, e4, e5], wf_int m0, wf_int m1, wf_int m2, m3, m4, m5⟩

set_option maxRecDepth 100000 in
theorem opened {b0 : Nat} {v : Value} {d : DataW H} {p : List MemPlace}
    (hv : Value.okWide Try.prog W .any b0 51 v) (h : DataW.Trod enc Try.prog W base spare held 51 v d p) :
    ∃ (cl : Int) (sq : Int) (op : Int) (k : ByteArray) (vl : ByteArray) (o : ByteArray), v = .agg #[.int .i64 cl, .int .i64 sq, .int .i64 op, .string k, .string vl, .string o] ∧ (-(2 ^ 63) ≤ cl ∧ cl < 2 ^ 63) ∧ (-(2 ^ 63) ≤ sq ∧ sq < 2 ^ 63) ∧ (-(2 ^ 63) ≤ op ∧ op < 2 ^ 63) ∧ k.size ≤ maxLen ∧ vl.size ≤ maxLen ∧ o.size ≤ maxLen := by
  obtain ⟨cs, rfl, hsz⟩ := okWide_struct Try.underlying51 hv
  obtain ⟨fuel, hf⟩ := h
  obtain ⟨l⟩ := cs
  obtain ⟨b0, b1, b2, b3, b4, b5, hl, hr⟩ := cs_Cmd hf
  have hl2 : l = [.int .i64 b0, .int .i64 b1, .int .i64 b2, .string b3, .string b4, .string b5] := hl
  subst hl2
  exact ⟨b0, b1, b2, b3, b4, b5, rfl, hr⟩
end
end argCmdW
end Go.Proofs.Ytelfejhopjbhpaa
