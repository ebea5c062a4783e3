/-
  An argument of type laws.Setup, opened.
-/
import Derived.Test.YtnehhpeddehoiaaArgBase
namespace Go.Proofs.Ytnehhpeddehoiaa
open Go.ChangeShapes Go.WideShapes Go.ChangeAt Go.RowKit
set_option linter.unusedVariables false
set_option linter.unusedSimpArgs false

namespace argSetup
theorem cells_3 : Try.prog.cellsOf 3 = 1 := by kernel_rfl
theorem cells_9 : Try.prog.cellsOf 3 = 1 := cells_3
theorem wf_int {n : Int} (h : (Lit.int .i64 n).wf = true) : -(2 ^ 63) ≤ n ∧ n < 2 ^ 63 := int_wf h
section
variable {H : Type} {enc : TypeId × Value → H} {W : World} {base : Nat} {spare : Nat → Bool} {held : Bool}

theorem cells_Setup : Try.prog.cellsOf 23 = 6 := by kernel_rfl
set_option maxRecDepth 100000 in
theorem cs_Setup {fuel : Nat} {cs : List Value} {x : DataW H × List MemPlace} (h : DataW.trod enc Try.prog W base spare held fuel 23 cs = some x) :
    ∃ (s : Int) (c : Int) (el : Int) (b : Int) (r : Int) (d : Int), cs = [.int .i64 s, .int .i64 c, .int .i64 el, .int .i64 b, .int .i64 r, .int .i64 d] ∧ (-(2 ^ 63) ≤ s ∧ s < 2 ^ 63) ∧ (-(2 ^ 63) ≤ c ∧ c < 2 ^ 63) ∧ (-(2 ^ 63) ≤ el ∧ el < 2 ^ 63) ∧ (-(2 ^ 63) ≤ b ∧ b < 2 ^ 63) ∧ (-(2 ^ 63) ≤ r ∧ r < 2 ^ 63) ∧ (-(2 ^ 63) ≤ d ∧ d < 2 ^ 63) := by
  obtain ⟨xs, n, _, hx, hl, hlen, hg⟩ := DataW.trod_struct Try.underlying23 h
  have hln : cs.length = 6 := hl.trans cells_Setup
  match cs, hln with
  | [c0, c1, c2, c3, c4, c5], _ =>
    have hlen' : xs.length = 6 := hlen
    have g0 := hg 0 _ rfl
    have g1 := hg 1 _ rfl
    have g2 := hg 2 _ rfl
    have g3 := hg 3 _ rfl
    have g4 := hg 4 _ rfl
    have g5 := hg 5 _ rfl
    rw [List.getElem?_eq_getElem (by omega)] at g0 g1 g2 g3 g4 g5
    obtain ⟨a0, e0, _, m0⟩ := DataW.trod_int Try.underlying3 g0
    obtain ⟨a1, e1, _, m1⟩ := DataW.trod_int Try.underlying3 g1
    obtain ⟨a2, e2, _, m2⟩ := DataW.trod_int Try.underlying3 g2
    obtain ⟨a3, e3, _, m3⟩ := DataW.trod_int Try.underlying3 g3
    obtain ⟨a4, e4, _, m4⟩ := DataW.trod_int Try.underlying3 g4
    obtain ⟨a5, e5, _, m5⟩ := DataW.trod_int Try.underlying3 g5
    simp [cells_3, cells_9] at e0 e1 e2 e3 e4 e5
    exact ⟨a0, a1, a2, a3, a4, a5, by rw [e0, e1, e2, e3, e4, e5], wf_int m0, wf_int m1, wf_int m2, wf_int m3, wf_int m4, wf_int m5⟩

set_option maxRecDepth 100000 in
theorem opened {b0 : Nat} {v : Value} {d : DataW H} {p : List MemPlace}
    (hv : Value.okWide Try.prog W .any b0 23 v) (h : DataW.Trod enc Try.prog W base spare held 23 v d p) :
    ∃ (s : Int) (c : Int) (el : Int) (b : Int) (r : Int) (d : Int), v = .agg #[.int .i64 s, .int .i64 c, .int .i64 el, .int .i64 b, .int .i64 r, .int .i64 d] ∧ (-(2 ^ 63) ≤ s ∧ s < 2 ^ 63) ∧ (-(2 ^ 63) ≤ c ∧ c < 2 ^ 63) ∧ (-(2 ^ 63) ≤ el ∧ el < 2 ^ 63) ∧ (-(2 ^ 63) ≤ b ∧ b < 2 ^ 63) ∧ (-(2 ^ 63) ≤ r ∧ r < 2 ^ 63) ∧ (-(2 ^ 63) ≤ d ∧ d < 2 ^ 63) := by
  obtain ⟨cs, rfl, hsz⟩ := okWide_struct Try.underlying23 hv
  obtain ⟨fuel, hf⟩ := h
  obtain ⟨l⟩ := cs
  obtain ⟨b0, b1, b2, b3, b4, b5, hl, hr⟩ := cs_Setup hf
  have hl2 : l = [.int .i64 b0, .int .i64 b1, .int .i64 b2, .int .i64 b3, .int .i64 b4, .int .i64 b5] := hl
  subst hl2
  exact ⟨b0, b1, b2, b3, b4, b5, rfl, hr⟩
end
end argSetup
end Go.Proofs.Ytnehhpeddehoiaa
