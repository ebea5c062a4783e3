/-
  An argument of type laws.Node, opened.
-/
import Derived.Test.YtjhkfjmgdkcipadArgStable
import Derived.Test.YtjhkfjmgdkcipadArgInts
namespace Go.Proofs.Ytjhkfjmgdkcipad
open Go.ChangeShapes Go.WideShapes Go.ChangeAt Go.RowKit
set_option linter.unusedVariables false
set_option linter.unusedSimpArgs false

theorem cellsNode : Try.prog.cellsOf 58 = 18 := by kernel_rfl
theorem cellsIS : Try.prog.cellsOf 56 = 1 := by kernel_rfl
section
variable {H : Type} {enc : TypeId × Value → H} {W : World} {base : Nat} {spare : Nat → Bool} {held : Bool}
set_option maxRecDepth 100000 in
theorem cs_node {fuel : Nat} {cs : List Value} {x : DataW H × List MemPlace} (h : DataW.trod enc Try.prog W base spare held fuel 58 cs = some x) :
    ∃ (i0 i1 i2 i3 i4 i5 i6 i7 i8 i9 i10 i11 : Int) (v12 v13 v14 v15 v16 v17 : Value) (l12 : List Ent) (l13 l14 l15 l16 l17 : List Int), cs = [.int .i64 i0, .int .i64 i1, .int .i64 i2, .int .i64 i3, .int .i64 i4, .int .i64 i5, .int .i64 i6, .int .i64 i7, .int .i64 i8, .int .i64 i9, .int .i64 i10, .int .i64 i11, v12, v13, v14, v15, v16, v17] ∧ Es W v12 l12 ∧ Ix W v13 l13 ∧ Ix W v14 l14 ∧ Ix W v15 l15 ∧ Ix W v16 l16 ∧ Ix W v17 l17 := by
  obtain ⟨xs, n, _, hx, hl, hlen, hg⟩ := DataW.trod_struct Try.underlying58 h
  have hln : cs.length = 18 := hl.trans cellsNode
  match cs, hln with
  | [c0, c1, c2, c3, c4, c5, c6, c7, c8, c9, c10, c11, c12, c13, c14, c15, c16, c17], _ =>
    have hlen' : xs.length = 18 := hlen
    have g0 := hg 0 _ rfl
    have g1 := hg 1 _ rfl
    have g2 := hg 2 _ rfl
    have g3 := hg 3 _ rfl
    have g4 := hg 4 _ rfl
    have g5 := hg 5 _ rfl
    have g6 := hg 6 _ rfl
    have g7 := hg 7 _ rfl
    have g8 := hg 8 _ rfl
    have g9 := hg 9 _ rfl
    have g10 := hg 10 _ rfl
    have g11 := hg 11 _ rfl
    have g12 := hg 12 _ rfl
    have g13 := hg 13 _ rfl
    have g14 := hg 14 _ rfl
    have g15 := hg 15 _ rfl
    have g16 := hg 16 _ rfl
    have g17 := hg 17 _ rfl
    rw [List.getElem?_eq_getElem (by omega)] at g0 g1 g2 g3 g4 g5 g6 g7 g8 g9 g10 g11 g12 g13 g14 g15 g16 g17
    obtain ⟨n0, e0, _, _⟩ := DataW.trod_int Try.underlying3 g0
    obtain ⟨n1, e1, _, _⟩ := DataW.trod_int Try.underlying3 g1
    obtain ⟨n2, e2, _, _⟩ := DataW.trod_int Try.underlying3 g2
    obtain ⟨n3, e3, _, _⟩ := DataW.trod_int Try.underlying3 g3
    obtain ⟨n4, e4, _, _⟩ := DataW.trod_int Try.underlying3 g4
    obtain ⟨n5, e5, _, _⟩ := DataW.trod_int Try.underlying3 g5
    obtain ⟨n6, e6, _, _⟩ := DataW.trod_int Try.underlying3 g6
    obtain ⟨n7, e7, _, _⟩ := DataW.trod_int Try.underlying3 g7
    obtain ⟨n8, e8, _, _⟩ := DataW.trod_int Try.underlying3 g8
    obtain ⟨n9, e9, _, _⟩ := DataW.trod_int Try.underlying3 g9
    obtain ⟨n10, e10, _, _⟩ := DataW.trod_int Try.underlying3 g10
    obtain ⟨n11, e11, _, _⟩ := DataW.trod_int Try.underlying3 g11
    simp [cells3, cellsEs, cellsIS] at e0 e1 e2 e3 e4 e5 e6 e7 e8 e9 e10 e11
    have h12 : DataW.trod enc Try.prog W base spare held n 40 [c12] = some xs[12] := by simpa [cells3, cellsEs, cellsIS] using g12
    have h13 : DataW.trod enc Try.prog W base spare held n 56 [c13] = some xs[13] := by simpa [cells3, cellsEs, cellsIS] using g13
    have h14 : DataW.trod enc Try.prog W base spare held n 56 [c14] = some xs[14] := by simpa [cells3, cellsEs, cellsIS] using g14
    have h15 : DataW.trod enc Try.prog W base spare held n 56 [c15] = some xs[15] := by simpa [cells3, cellsEs, cellsIS] using g15
    have h16 : DataW.trod enc Try.prog W base spare held n 56 [c16] = some xs[16] := by simpa [cells3, cellsEs, cellsIS] using g16
    have h17 : DataW.trod enc Try.prog W base spare held n 56 [c17] = some xs[17] := by simpa [cells3, cellsEs, cellsIS] using g17
    obtain ⟨l12, b12⟩ := open_entries h12
    obtain ⟨l13, b13⟩ := ints_of_trod h13
    obtain ⟨l14, b14⟩ := ints_of_trod h14
    obtain ⟨l15, b15⟩ := ints_of_trod h15
    obtain ⟨l16, b16⟩ := ints_of_trod h16
    obtain ⟨l17, b17⟩ := ints_of_trod h17
    exact ⟨n0, n1, n2, n3, n4, n5, n6, n7, n8, n9, n10, n11, c12, c13, c14, c15, c16, c17, l12, l13, l14, l15, l16, l17, by rw [e0, e1, e2, e3, e4, e5, e6, e7, e8, e9, e10, e11], b12, b13, b14, b15, b16, b17⟩
set_option maxRecDepth 100000 in
theorem open_node {b0 : Nat} {v : Value} {d : DataW H} {p : List MemPlace}
    (hv : Value.okWide Try.prog W .any b0 58 v) (h : DataW.Trod enc Try.prog W base spare held 58 v d p) :
    ∃ (i0 i1 i2 i3 i4 i5 i6 i7 i8 i9 i10 i11 : Int) (v12 v13 v14 v15 v16 v17 : Value) (l12 : List Ent) (l13 l14 l15 l16 l17 : List Int), v = .agg #[.int .i64 i0, .int .i64 i1, .int .i64 i2, .int .i64 i3, .int .i64 i4, .int .i64 i5, .int .i64 i6, .int .i64 i7, .int .i64 i8, .int .i64 i9, .int .i64 i10, .int .i64 i11, v12, v13, v14, v15, v16, v17] ∧ Es W v12 l12 ∧ Ix W v13 l13 ∧ Ix W v14 l14 ∧ Ix W v15 l15 ∧ Ix W v16 l16 ∧ Ix W v17 l17 := by
  obtain ⟨cs, rfl, hsz⟩ := okWide_struct Try.underlying58 hv
  obtain ⟨fuel, hf⟩ := h
  obtain ⟨l⟩ := cs
  obtain ⟨n0, n1, n2, n3, n4, n5, n6, n7, n8, n9, n10, n11, u12, u13, u14, u15, u16, u17, l12, l13, l14, l15, l16, l17, hl, hr⟩ := cs_node hf
  have hl2 : l = [.int .i64 n0, .int .i64 n1, .int .i64 n2, .int .i64 n3, .int .i64 n4, .int .i64 n5, .int .i64 n6, .int .i64 n7, .int .i64 n8, .int .i64 n9, .int .i64 n10, .int .i64 n11, u12, u13, u14, u15, u16, u17] := hl
  subst hl2
  exact ⟨n0, n1, n2, n3, n4, n5, n6, n7, n8, n9, n10, n11, u12, u13, u14, u15, u16, u17, l12, l13, l14, l15, l16, l17, rfl, hr⟩
end
end Go.Proofs.Ytjhkfjmgdkcipad
