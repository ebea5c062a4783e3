/-
  An argument of type laws.Disk, opened.
-/
import Derived.Test.YtlfnlhbkagjheaaDoorArgBytes
namespace Go.Proofs.YtlfnlhbkagjheaaDoor
open Go.ChangeShapes Go.WideShapes Go.ChangeAt Go.RowKit
set_option linter.unusedVariables false

theorem cellsDisk : Tryd.prog.cellsOf 36 = 3 := by kernel_rfl
theorem cellsInt : Tryd.prog.cellsOf 3 = 1 := by kernel_rfl
theorem cellsBytes : Tryd.prog.cellsOf 22 = 1 := by kernel_rfl
theorem array3 {α : Type} {cs : Array α} (h : cs.size = 3) : ∃ c0 c1 c2, cs = #[c0, c1, c2] := by
  obtain ⟨l⟩ := cs
  match l, h with
  | [c0, c1, c2], _ => exact ⟨c0, c1, c2, rfl⟩

set_option maxRecDepth 100000 in
theorem open_disk {H : Type} {enc : TypeId × Value → H} {W : World} {base b0 : Nat} {spare : Nat → Bool} {held : Bool} {v : Value} {d : DataW H} {p : List MemPlace}
    (hv : Value.okWide Tryd.prog W .any b0 36 v) (h : DataW.Trod enc Tryd.prog W base spare held 36 v d p) :
    ∃ (c y : Int) (u : Value) (l : List Int), v = .agg #[.int .i64 c, .int .i64 y, u] ∧ Bs W u l := by
  obtain ⟨cs, rfl, hsz⟩ := okWide_struct Tryd.underlying36 hv
  obtain ⟨c0, c1, c2, rfl⟩ := array3 (hsz.trans cellsDisk)
  obtain ⟨fuel, hf⟩ := h
  obtain ⟨xs, n, _, hx, hl, hlen, hg⟩ := DataW.trod_struct Tryd.underlying36 hf
  have hlen' : xs.length = 3 := hlen
  have g0 := hg 0 _ rfl
  have g1 := hg 1 _ rfl
  have g2 := hg 2 _ rfl
  rw [List.getElem?_eq_getElem (by omega)] at g0 g1 g2
  obtain ⟨a0, e0, _, _⟩ := DataW.trod_int Tryd.underlying3 g0
  obtain ⟨a1, e1, _, _⟩ := DataW.trod_int Tryd.underlying3 g1
  simp [Value.cells, cellsInt] at e0 e1
  have h2 : DataW.trod enc Tryd.prog W base spare held n 22 [c2] = some xs[2] := by simpa [Value.cells, cellsBytes, cellsInt] using g2
  obtain ⟨l, hB⟩ := bytes_of_trod h2
  exact ⟨a0, a1, c2, l, by rw [e0, e1], hB⟩
end Go.Proofs.YtlfnlhbkagjheaaDoor
