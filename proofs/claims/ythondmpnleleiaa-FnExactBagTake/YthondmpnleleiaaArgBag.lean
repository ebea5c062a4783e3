/-
  An argument of type laws.Bag, opened.
-/
import Derived.Test.YthondmpnleleiaaPkSz
import Derived.Test.YthondmpnleleiaaArgBytes
import Derived.Test.YthondmpnleleiaaArgInts
import Derived.Deep.Slices
namespace Go.Proofs.Ythondmpnleleiaa
open Go.ChangeShapes Go.WideShapes Go.ChangeAt Go.RowKit
set_option linter.unusedVariables false
set_option linter.unusedSimpArgs false

theorem cellsBagA : Try.prog.cellsOf 25 = 3 := by kernel_rfl
theorem cellsPkA : Try.prog.cellsOf 90 = 4 := by kernel_rfl
theorem cells3A : Try.prog.cellsOf 3 = 1 := by kernel_rfl
theorem cellsU8A : Try.prog.cellsOf 35 = 1 := by kernel_rfl
theorem cellsISA : Try.prog.cellsOf 23 = 1 := by kernel_rfl
theorem cellsPsA : Try.prog.cellsOf 22 = 1 := by kernel_rfl

section
variable {H : Type} {enc : TypeId × Value → H} {W : World} {base : Nat} {spare : Nat → Bool} {held : Bool}

set_option maxRecDepth 100000 in
theorem open_packet {fuel : Nat} {cs : List Value} {x : DataW H × List MemPlace} (h : DataW.trod enc Try.prog W base spare held fuel 90 cs = some x) :
    ∃ p : Pk, cs = pkC p ∧ Bs W p.2 p.1.bs := by
  obtain ⟨xs, n, _, hx, hl, hlen, hg⟩ := DataW.trod_struct Try.underlying90 h
  have hl4 : cs.length = 4 := hl.trans cellsPkA
  match cs, hl4 with
  | [c0, c1, c2, c3], _ =>
    have hlen' : xs.length = 4 := hlen
    have g0 := hg 0 _ rfl
    have g1 := hg 1 _ rfl
    have g2 := hg 2 _ rfl
    have g3 := hg 3 _ rfl
    rw [List.getElem?_eq_getElem (by omega)] at g0 g1 g2 g3
    obtain ⟨a0, f0, _, _⟩ := DataW.trod_int Try.underlying3 g0
    obtain ⟨a1, f1, _, _⟩ := DataW.trod_int Try.underlying3 g1
    obtain ⟨a2, f2, _, _⟩ := DataW.trod_int Try.underlying3 g2
    simp [cells3A, cellsU8A] at f0 f1 f2
    have h3 : DataW.trod enc Try.prog W base spare held n 35 [c3] = some xs[3] := by simpa [cells3A, cellsU8A] using g3
    obtain ⟨l, hB⟩ := bytes_of_trod h3
    exact ⟨(⟨a0, a1, a2, l⟩, c3), by rw [f0, f1, f2]; rfl, hB⟩

theorem add_addP (b o i j : Nat) : ((⟨b, o, none⟩ : Addr).add i).add j = ⟨b, o + i + j, none⟩ := by
  have h : ∀ o k, (⟨b, o, none⟩ : Addr).add k = ⟨b, o + k, none⟩ := by
    intro o k
    unfold Addr.add
    split
    · next h => subst h; rfl
    · rfl
  rw [h, h]

set_option maxRecDepth 100000 in
theorem open_packets {fuel : Nat} {v : Value} {x : DataW H × List MemPlace} (h : DataW.trod enc Try.prog W base spare held fuel 22 [v] = some x) : ∃ l, Pks W v l := by
  rcases Go.Deep.open_slice Try.underlying22 h with ⟨hcs, _⟩ | ⟨a, len, cap, m, n, D, Pl, hcs, _, hlc, hcm, hm, _, hel⟩
  · simp at hcs
    subst hcs
    exact ⟨[], by simp [maxLen], by simp, _, _, rfl, fun i hi => absurd hi (by simp)⟩
  · simp at hcs
    subst hcs
    have hlm : len ≤ m := by rw [hm]; split <;> omega
    have hex : ∀ i, i < len → ∃ p : Pk, (∀ j, j < 4 → W.cell? ((a.add (i * 4)).add j) = (pkC p)[j]?) ∧ Bs W p.2 p.1.bs := by
      intro i hi
      obtain ⟨cs', hc, ht⟩ := hel i (by omega)
      rw [cellsPkA] at hc
      obtain ⟨p, rfl, hf⟩ := open_packet ht
      obtain ⟨_, _, hg⟩ := World.cells?_some hc
      exact ⟨p, hg, hf⟩
    obtain ⟨f, hf⟩ : ∃ f : Nat → Pk, ∀ i, i < len → (∀ j, j < 4 → W.cell? ((a.add (i * 4)).add j) = (pkC (f i))[j]?) ∧ Bs W (f i).2 (f i).1.bs := by
      refine ⟨fun i => if h : i < len then Classical.choose (hex i h) else (⟨0, 0, 0, []⟩, .slice none 0 0), fun i hi => ?_⟩
      simp only [hi, dif_pos]
      exact Classical.choose_spec (hex i hi)
    have hlen : ((List.range len).map f).length = len := by simp
    refine ⟨(List.range len).map f, by rw [hlen]; omega, fun e he => ?_, some a, cap, by rw [hlen], fun i hi => ?_⟩
    · simp only [List.mem_map, List.mem_range] at he
      obtain ⟨i, hi, rfl⟩ := he
      exact (hf i hi).2
    · rw [hlen] at hi
      obtain ⟨b, off, spot⟩ := a
      have h00 := (hf 0 (by omega)).1 0 (by omega)
      have hspot : spot = none := by simpa [Addr.add] using World.cell?_spot h00
      subst hspot
      refine ⟨b, off, rfl, fun j hj => ?_⟩
      rw [hlen] at hj
      have hc := (hf j hj).1
      simp only [add_addP] at hc
      have ej : ((List.range len).map f)[j]'(by rw [hlen]; exact hj) = f j := by simp
      rw [ej]
      exact ⟨hc 0 (by omega), hc 1 (by omega), hc 2 (by omega), hc 3 (by omega)⟩
theorem array3B {α : Type} {cs : Array α} (h : cs.size = 3) : ∃ c0 c1 c2, cs = #[c0, c1, c2] := by
  obtain ⟨l⟩ := cs
  match l, h with
  | [c0, c1, c2], _ => exact ⟨c0, c1, c2, rfl⟩

set_option maxRecDepth 100000 in
theorem open_bag {b0 : Nat} {v : Value} {d : DataW H} {p : List MemPlace}
    (hv : Value.okWide Try.prog W .any b0 25 v) (h : DataW.Trod enc Try.prog W base spare held 25 v d p) :
    ∃ (n : Int) (u z : Value) (l : List Pk) (ws : List Int), v = .agg #[.int .i64 n, u, z] ∧ Pks W u l ∧ Ix W z ws := by
  obtain ⟨cs, rfl, hsz⟩ := okWide_struct Try.underlying25 hv
  obtain ⟨c0, c1, c2, rfl⟩ := array3B (hsz.trans cellsBagA)
  obtain ⟨fuel, hf⟩ := h
  obtain ⟨xs, n, _, hx, hl, hlen, hg⟩ := DataW.trod_struct Try.underlying25 hf
  have hlen' : xs.length = 3 := hlen
  have g0 := hg 0 _ rfl
  have g1 := hg 1 _ rfl
  have g2 := hg 2 _ rfl
  rw [List.getElem?_eq_getElem (by omega)] at g0 g1 g2
  obtain ⟨a0, e0, _, _⟩ := DataW.trod_int Try.underlying3 g0
  simp [Value.cells, cells3A] at e0
  have h1 : DataW.trod enc Try.prog W base spare held n 22 [c1] = some xs[1] := by simpa [Value.cells, cellsPsA, cells3A] using g1
  have h2 : DataW.trod enc Try.prog W base spare held n 23 [c2] = some xs[2] := by simpa [Value.cells, cellsPsA, cells3A, cellsISA] using g2
  obtain ⟨l, hB⟩ := open_packets h1
  obtain ⟨ws, hI⟩ := ints_of_trod h2
  exact ⟨a0, c1, c2, l, ws, by rw [e0], hB, hI⟩
end
end Go.Proofs.Ythondmpnleleiaa
