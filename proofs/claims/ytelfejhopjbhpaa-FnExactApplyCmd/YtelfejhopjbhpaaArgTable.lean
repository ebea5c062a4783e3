/-
  An argument of type laws.Table, opened.
-/
import Derived.Test.YtelfejhopjbhpaaTbBase
import Derived.Test.YtelfejhopjbhpaaArgBase
import Derived.Deep.Slices
namespace Go.Proofs.Ytelfejhopjbhpaa
open Go.ChangeShapes Go.WideShapes Go.ChangeAt Go.RowKit
set_option linter.unusedVariables false
set_option linter.unusedSimpArgs false

theorem cellsTableA : Try.prog.cellsOf 50 = 2 := by kernel_rfl
theorem cellsPairA : Try.prog.cellsOf 123 = 2 := by kernel_rfl
theorem cellsSessionA : Try.prog.cellsOf 125 = 4 := by kernel_rfl
theorem cells3T : Try.prog.cellsOf 3 = 1 := by kernel_rfl
theorem cells9T : Try.prog.cellsOf 9 = 1 := by kernel_rfl
theorem cellsPsT : Try.prog.cellsOf 47 = 1 := by kernel_rfl
theorem cellsSsT : Try.prog.cellsOf 48 = 1 := by kernel_rfl
theorem add_addT (b o i j : Nat) : ((⟨b, o, none⟩ : Addr).add i).add j = ⟨b, o + i + j, none⟩ := by
  have h : ∀ o k, (⟨b, o, none⟩ : Addr).add k = ⟨b, o + k, none⟩ := by
    intro o k
    unfold Addr.add
    split
    · next h => subst h; rfl
    · rfl
  rw [h, h]

section
variable {H : Type} {enc : TypeId × Value → H} {W : World} {base : Nat} {spare : Nat → Bool} {held : Bool}

set_option maxRecDepth 100000 in
theorem open_pair {fuel : Nat} {cs : List Value} {x : DataW H × List MemPlace} (h : DataW.trod enc Try.prog W base spare held fuel 123 cs = some x) :
    ∃ p : Pr, cs = prC p ∧ (p.k.size ≤ maxLen ∧ p.v.size ≤ maxLen) := by
  obtain ⟨xs, n, _, hx, hl, hlen, hg⟩ := DataW.trod_struct Try.underlying123 h
  have hl4 : cs.length = 2 := hl.trans cellsPairA
  match cs, hl4 with
  | [c0, c1], _ =>
    have hlen' : xs.length = 2 := hlen
    have g0 := hg 0 _ rfl
    have g1 := hg 1 _ rfl
    rw [List.getElem?_eq_getElem (by omega)] at g0 g1
    obtain ⟨a0, e0, _, m0⟩ := DataW.trod_string Try.underlying9 g0
    obtain ⟨a1, e1, _, m1⟩ := DataW.trod_string Try.underlying9 g1
    simp [cells3T, cells9T] at e0 e1
    exact ⟨⟨a0, a1⟩, by rw [e0, e1]; rfl, ⟨m0, m1⟩⟩

set_option maxRecDepth 100000 in
theorem open_pairs {fuel : Nat} {v : Value} {x : DataW H × List MemPlace} (h : DataW.trod enc Try.prog W base spare held fuel 47 [v] = some x) : ∃ l, Sl prC 2 W v l ∧ ∀ p ∈ l, (p.k.size ≤ maxLen ∧ p.v.size ≤ maxLen) := by
  rcases Go.Deep.open_slice Try.underlying47 h with ⟨hcs, _⟩ | ⟨a, len, cap, m, n, D, Pl, hcs, _, hlc, hcm, hm, _, hel⟩
  · simp at hcs
    subst hcs
    exact ⟨[], ⟨by simp [maxLen], _, _, rfl, fun i hi => absurd hi (by simp)⟩, by simp⟩
  · simp at hcs
    subst hcs
    have hlm : len ≤ m := by rw [hm]; split <;> omega
    have hex : ∀ i, i < len → ∃ p : Pr, (∀ j, j < 2 → W.cell? ((a.add (i * 2)).add j) = (prC p)[j]?) ∧ (p.k.size ≤ maxLen ∧ p.v.size ≤ maxLen) := by
      intro i hi
      obtain ⟨cs', hc, ht⟩ := hel i (by omega)
      rw [cellsPairA] at hc
      obtain ⟨p, rfl, hf⟩ := open_pair ht
      obtain ⟨_, _, hg⟩ := World.cells?_some hc
      exact ⟨p, hg, hf⟩
    obtain ⟨f, hf⟩ : ∃ f : Nat → Pr, ∀ i, i < len → (∀ j, j < 2 → W.cell? ((a.add (i * 2)).add j) = (prC (f i))[j]?) ∧ ((f i).k.size ≤ maxLen ∧ (f i).v.size ≤ maxLen) := by
      refine ⟨fun i => if h : i < len then Classical.choose (hex i h) else ⟨tx0, tx0⟩, fun i hi => ?_⟩
      simp only [hi, dif_pos]
      exact Classical.choose_spec (hex i hi)
    have hlen : ((List.range len).map f).length = len := by simp
    refine ⟨(List.range len).map f, ⟨by rw [hlen]; omega, some a, cap, by rw [hlen], fun i hi => ?_⟩, fun e he => ?_⟩
    · rw [hlen] at hi
      obtain ⟨b, off, spot⟩ := a
      have h00 := (hf 0 (by omega)).1 0 (by omega)
      have hspot : spot = none := by simpa [Addr.add] using World.cell?_spot h00
      subst hspot
      refine ⟨b, off, rfl, fun j hj t y hy => ?_⟩
      rw [hlen] at hj
      have hc := (hf j hj).1
      simp only [add_addT] at hc
      have ej : ((List.range len).map f)[j]'(by rw [hlen]; exact hj) = f j := by simp
      rw [ej] at hy
      have ht : t < 2 := (List.getElem?_eq_some_iff.1 hy).1
      exact (hc t ht).trans hy
    · simp only [List.mem_map, List.mem_range] at he
      obtain ⟨i, hi, rfl⟩ := he
      exact (hf i hi).2

set_option maxRecDepth 100000 in
theorem open_session {fuel : Nat} {cs : List Value} {x : DataW H × List MemPlace} (h : DataW.trod enc Try.prog W base spare held fuel 125 cs = some x) :
    ∃ p : Se, cs = seC p ∧ (p.v.size ≤ maxLen) := by
  obtain ⟨xs, n, _, hx, hl, hlen, hg⟩ := DataW.trod_struct Try.underlying125 h
  have hl4 : cs.length = 4 := hl.trans cellsSessionA
  match cs, hl4 with
  | [c0, c1, c2, c3], _ =>
    have hlen' : xs.length = 4 := hlen
    have g0 := hg 0 _ rfl
    have g1 := hg 1 _ rfl
    have g2 := hg 2 _ rfl
    have g3 := hg 3 _ rfl
    rw [List.getElem?_eq_getElem (by omega)] at g0 g1 g2 g3
    obtain ⟨a0, e0, _, m0⟩ := DataW.trod_int Try.underlying3 g0
    obtain ⟨a1, e1, _, m1⟩ := DataW.trod_int Try.underlying3 g1
    obtain ⟨a2, e2, _, m2⟩ := DataW.trod_int Try.underlying3 g2
    obtain ⟨a3, e3, _, m3⟩ := DataW.trod_string Try.underlying9 g3
    simp [cells3T, cells9T] at e0 e1 e2 e3
    exact ⟨⟨a0, a1, a2, a3⟩, by rw [e0, e1, e2, e3]; rfl, m3⟩

set_option maxRecDepth 100000 in
theorem open_sessions {fuel : Nat} {v : Value} {x : DataW H × List MemPlace} (h : DataW.trod enc Try.prog W base spare held fuel 48 [v] = some x) : ∃ l, Sl seC 4 W v l ∧ ∀ p ∈ l, (p.v.size ≤ maxLen) := by
  rcases Go.Deep.open_slice Try.underlying48 h with ⟨hcs, _⟩ | ⟨a, len, cap, m, n, D, Pl, hcs, _, hlc, hcm, hm, _, hel⟩
  · simp at hcs
    subst hcs
    exact ⟨[], ⟨by simp [maxLen], _, _, rfl, fun i hi => absurd hi (by simp)⟩, by simp⟩
  · simp at hcs
    subst hcs
    have hlm : len ≤ m := by rw [hm]; split <;> omega
    have hex : ∀ i, i < len → ∃ p : Se, (∀ j, j < 4 → W.cell? ((a.add (i * 4)).add j) = (seC p)[j]?) ∧ (p.v.size ≤ maxLen) := by
      intro i hi
      obtain ⟨cs', hc, ht⟩ := hel i (by omega)
      rw [cellsSessionA] at hc
      obtain ⟨p, rfl, hf⟩ := open_session ht
      obtain ⟨_, _, hg⟩ := World.cells?_some hc
      exact ⟨p, hg, hf⟩
    obtain ⟨f, hf⟩ : ∃ f : Nat → Se, ∀ i, i < len → (∀ j, j < 4 → W.cell? ((a.add (i * 4)).add j) = (seC (f i))[j]?) ∧ ((f i).v.size ≤ maxLen) := by
      refine ⟨fun i => if h : i < len then Classical.choose (hex i h) else ⟨0, 0, 0, tx0⟩, fun i hi => ?_⟩
      simp only [hi, dif_pos]
      exact Classical.choose_spec (hex i hi)
    have hlen : ((List.range len).map f).length = len := by simp
    refine ⟨(List.range len).map f, ⟨by rw [hlen]; omega, some a, cap, by rw [hlen], fun i hi => ?_⟩, fun e he => ?_⟩
    · rw [hlen] at hi
      obtain ⟨b, off, spot⟩ := a
      have h00 := (hf 0 (by omega)).1 0 (by omega)
      have hspot : spot = none := by simpa [Addr.add] using World.cell?_spot h00
      subst hspot
      refine ⟨b, off, rfl, fun j hj t y hy => ?_⟩
      rw [hlen] at hj
      have hc := (hf j hj).1
      simp only [add_addT] at hc
      have ej : ((List.range len).map f)[j]'(by rw [hlen]; exact hj) = f j := by simp
      rw [ej] at hy
      have ht : t < 4 := (List.getElem?_eq_some_iff.1 hy).1
      exact (hc t ht).trans hy
    · simp only [List.mem_map, List.mem_range] at he
      obtain ⟨i, hi, rfl⟩ := he
      exact (hf i hi).2

theorem array2T {α : Type} {cs : Array α} (h : cs.size = 2) : ∃ c0 c1, cs = #[c0, c1] := by
  obtain ⟨l⟩ := cs
  match l, h with
  | [c0, c1], _ => exact ⟨c0, c1, rfl⟩
set_option maxRecDepth 100000 in
theorem open_table {b0 : Nat} {v : Value} {d : DataW H} {p : List MemPlace}
    (hv : Value.okWide Try.prog W .any b0 50 v) (h : DataW.Trod enc Try.prog W base spare held 50 v d p) :
    ∃ (u z : Value) (l : List Pr) (s : List Se), v = .agg #[u, z] ∧ Ps W u l ∧ Ss W z s ∧ (∀ p ∈ l, p.k.size ≤ maxLen ∧ p.v.size ≤ maxLen) ∧ ∀ p ∈ s, p.v.size ≤ maxLen := by
  obtain ⟨cs, rfl, hsz⟩ := okWide_struct Try.underlying50 hv
  obtain ⟨c0, c1, rfl⟩ := array2T (hsz.trans cellsTableA)
  obtain ⟨fuel, hf⟩ := h
  obtain ⟨xs, n, _, hx, hl, hlen, hg⟩ := DataW.trod_struct Try.underlying50 hf
  have hlen' : xs.length = 2 := hlen
  have g0 := hg 0 _ rfl
  have g1 := hg 1 _ rfl
  rw [List.getElem?_eq_getElem (by omega)] at g0 g1
  have h0 : DataW.trod enc Try.prog W base spare held n 47 [c0] = some xs[0] := by simpa [Value.cells, cellsPsT, cellsSsT] using g0
  have h1 : DataW.trod enc Try.prog W base spare held n 48 [c1] = some xs[1] := by simpa [Value.cells, cellsPsT, cellsSsT] using g1
  obtain ⟨l, hl1, hl2⟩ := open_pairs h0
  obtain ⟨s, hs1, hs2⟩ := open_sessions h1
  exact ⟨c0, c1, l, s, rfl, hl1, hs1, hl2, hs2⟩
end
end Go.Proofs.Ytelfejhopjbhpaa
