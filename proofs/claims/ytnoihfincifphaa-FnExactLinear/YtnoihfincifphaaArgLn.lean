/-
  Arguments of type []laws.Event and []laws.Cmd, opened.
-/
import Derived.Test.YtnoihfincifphaaLnArgS
import Derived.Test.YtnoihfincifphaaArgBase
import Derived.Deep.Slices
namespace Go.Proofs.Ytnoihfincifphaa
open Go.ChangeShapes Go.WideShapes Go.ChangeAt Go.RowKit
set_option linter.unusedVariables false
set_option linter.unusedSimpArgs false

theorem cellsLnE : Try.prog.cellsOf 70 = 9 := by kernel_rfl
theorem cellsLnC : Try.prog.cellsOf 56 = 6 := by kernel_rfl
theorem cellsLn3 : Try.prog.cellsOf 3 = 1 := by kernel_rfl
theorem cellsLn9 : Try.prog.cellsOf 9 = 1 := by kernel_rfl

theorem add_addL (b o i j : Nat) : ((⟨b, o, none⟩ : Addr).add i).add j = ⟨b, o + i + j, none⟩ := by
  have h : ∀ o k, (⟨b, o, none⟩ : Addr).add k = ⟨b, o + k, none⟩ := by
    intro o k
    unfold Addr.add
    split
    · next h => subst h; rfl
    · rfl
  rw [h, h]

section
variable {H : Type} {enc : TypeId × Value → H} {W : World} {base : Nat} {spare : Nat → Bool} {held : Bool}

set_option maxRecDepth 100000 in
theorem open_lnCmd {fuel : Nat} {cs : List Value} {x : DataW H × List MemPlace} (h : DataW.trod enc Try.prog W base spare held fuel 56 cs = some x) :
    ∃ c : Cm, cs = cmC c ∧ c.fitA := by
  obtain ⟨ys, n', _, hy, hl, hlen2, hg'⟩ := DataW.trod_struct Try.underlying56 h
  have hl6 : cs.length = 6 := hl.trans cellsLnC
  match cs, hl6 with
  | [c0, c1, c2, c3, c4, c5], _ =>
    have hlen3 : ys.length = 6 := hlen2
    have k0 := hg' 0 _ rfl
    have k1 := hg' 1 _ rfl
    have k2 := hg' 2 _ rfl
    have k3 := hg' 3 _ rfl
    have k4 := hg' 4 _ rfl
    have k5 := hg' 5 _ rfl
    rw [List.getElem?_eq_getElem (by omega)] at k0 k1 k2 k3 k4 k5
    obtain ⟨a0, f0, _, w0⟩ := DataW.trod_int Try.underlying3 k0
    obtain ⟨a1, f1, _, w1⟩ := DataW.trod_int Try.underlying3 k1
    obtain ⟨a2, f2, _, w2⟩ := DataW.trod_int Try.underlying3 k2
    obtain ⟨a3, f3, _, m3⟩ := DataW.trod_string Try.underlying9 k3
    obtain ⟨a4, f4, _, m4⟩ := DataW.trod_string Try.underlying9 k4
    obtain ⟨a5, f5, _, m5⟩ := DataW.trod_string Try.underlying9 k5
    simp [cellsLn3, cellsLn9] at f0 f1 f2 f3 f4 f5
    exact ⟨⟨a0, a1, a2, a3, a4, a5⟩, by rw [f0, f1, f2, f3, f4, f5]; rfl, ⟨w0, w1, w2, m3, m4, m5⟩⟩

set_option maxRecDepth 100000 in
theorem open_lnEvent {fuel : Nat} {cs : List Value} {x : DataW H × List MemPlace} (h : DataW.trod enc Try.prog W base spare held fuel 70 cs = some x) :
    ∃ e : Evn, cs = evC e ∧ e.fitA := by
  obtain ⟨xs, n, _, hx, hl, hlen, hg⟩ := DataW.trod_struct Try.underlying70 h
  have hl9 : cs.length = 9 := hl.trans cellsLnE
  match cs, hl9 with
  | [c0, c1, c2, c3, c4, c5, c6, c7, c8], _ =>
    have hlen' : xs.length = 4 := hlen
    have g0 := hg 0 _ rfl
    have g1 := hg 1 _ rfl
    have g2 := hg 2 _ rfl
    have g3 := hg 3 _ rfl
    rw [List.getElem?_eq_getElem (by omega)] at g0 g1 g2 g3
    obtain ⟨kd, e0, _, _⟩ := DataW.trod_int Try.underlying3 g0
    obtain ⟨c, e1, hc⟩ := open_lnCmd g1
    obtain ⟨cd, e2, _, _⟩ := DataW.trod_int Try.underlying3 g2
    obtain ⟨v, e3, _, m3⟩ := DataW.trod_string Try.underlying9 g3
    simp [cellsLn3, cellsLn9, cellsLnC, cmC] at e0 e1 e2 e3
    obtain ⟨x1, x2, x3, x4, x5, x6⟩ := e1
    exact ⟨⟨kd, c, cd, v⟩, by rw [e0, x1, x2, x3, x4, x5, x6, e2, e3]; rfl, ⟨hc, m3⟩⟩

set_option maxRecDepth 100000 in
theorem open_lnEvents {fuel : Nat} {v : Value} {x : DataW H × List MemPlace} (h : DataW.trod enc Try.prog W base spare held fuel 22 [v] = some x) : ∃ l, SlAEvent W v l := by
  rcases Go.Deep.open_slice Try.underlying22 h with ⟨hcs, _⟩ | ⟨a, len, cap, m, n, D, Pl, hcs, _, hlc, hcm, hm, _, hel⟩
  · simp at hcs
    subst hcs
    exact ⟨[], ⟨by simp [maxLen], _, _, rfl, fun i hi => absurd hi (by simp)⟩, by simp⟩
  · simp at hcs
    subst hcs
    have hlm : len ≤ m := by rw [hm]; split <;> omega
    have hex : ∀ i, i < len → ∃ e : Evn, (∀ j, j < 9 → W.cell? ((a.add (i * 9)).add j) = (evC e)[j]?) ∧ e.fitA := by
      intro i hi
      obtain ⟨cs', hc, ht⟩ := hel i (by omega)
      rw [cellsLnE] at hc
      obtain ⟨e, rfl, hf⟩ := open_lnEvent ht
      obtain ⟨_, _, hg⟩ := World.cells?_some hc
      exact ⟨e, hg, hf⟩
    obtain ⟨f, hf⟩ : ∃ f : Nat → Evn, ∀ i, i < len → (∀ j, j < 9 → W.cell? ((a.add (i * 9)).add j) = (evC (f i))[j]?) ∧ (f i).fitA := by
      refine ⟨fun i => if h : i < len then Classical.choose (hex i h) else ⟨0, ⟨0, 0, 0, .empty, .empty, .empty⟩, 0, .empty⟩, fun i hi => ?_⟩
      simp only [hi, dif_pos]
      exact Classical.choose_spec (hex i hi)
    have hlen : ((List.range len).map f).length = len := by simp
    refine ⟨(List.range len).map f, ⟨by rw [hlen]; omega, some a, cap, by rw [hlen], fun i hi => ?_⟩, fun e he => ?_⟩
    · rw [hlen] at hi
      obtain ⟨b, off, spot⟩ := a
      have h00 := (hf 0 (by omega)).1 0 (by omega)
      have hspot : spot = none := by
        have h01 : W.cell? (((⟨b, off, spot⟩ : Addr).add (0 * 9)).add 0) = some _ := h00
        simpa [Addr.add] using World.cell?_spot h01
      subst hspot
      refine ⟨b, off, rfl, fun j hj => ?_⟩
      rw [hlen] at hj
      have hc := (hf j hj).1
      simp only [add_addL] at hc
      have ej : ((List.range len).map f)[j]'(by rw [hlen]; exact hj) = f j := by simp
      rw [ej]
      intro i y hy
      have hi' : i < 9 := by
        have h2 := (List.getElem?_eq_some_iff.1 hy).1
        simpa [evC] using h2
      exact (hc i hi').trans hy
    · simp only [List.mem_map, List.mem_range] at he
      obtain ⟨i, hi, rfl⟩ := he
      exact (hf i hi).2
set_option maxRecDepth 100000 in
theorem open_lnEventS {b0 : Nat} {v : Value} {d : DataW H} {p : List MemPlace}
    (hv : Value.okWide Try.prog W .any b0 22 v) (h : DataW.Trod enc Try.prog W base spare held 22 v d p) : ∃ l, SlAEvent W v l := by
  obtain ⟨a, len, cap, rfl⟩ := okWide_slice Try.underlying22 hv
  obtain ⟨fuel, hf⟩ := h
  exact open_lnEvents (by simpa [Value.cells] using hf)

set_option maxRecDepth 100000 in
theorem open_lnCmds {fuel : Nat} {v : Value} {x : DataW H × List MemPlace} (h : DataW.trod enc Try.prog W base spare held fuel 23 [v] = some x) : ∃ l, SlACmd W v l := by
  rcases Go.Deep.open_slice Try.underlying23 h with ⟨hcs, _⟩ | ⟨a, len, cap, m, n, D, Pl, hcs, _, hlc, hcm, hm, _, hel⟩
  · simp at hcs
    subst hcs
    exact ⟨[], ⟨by simp [maxLen], _, _, rfl, fun i hi => absurd hi (by simp)⟩, by simp⟩
  · simp at hcs
    subst hcs
    have hlm : len ≤ m := by rw [hm]; split <;> omega
    have hex : ∀ i, i < len → ∃ e : Cm, (∀ j, j < 6 → W.cell? ((a.add (i * 6)).add j) = (cmC e)[j]?) ∧ e.fitA := by
      intro i hi
      obtain ⟨cs', hc, ht⟩ := hel i (by omega)
      rw [cellsLnC] at hc
      obtain ⟨e, rfl, hf⟩ := open_lnCmd ht
      obtain ⟨_, _, hg⟩ := World.cells?_some hc
      exact ⟨e, hg, hf⟩
    obtain ⟨f, hf⟩ : ∃ f : Nat → Cm, ∀ i, i < len → (∀ j, j < 6 → W.cell? ((a.add (i * 6)).add j) = (cmC (f i))[j]?) ∧ (f i).fitA := by
      refine ⟨fun i => if h : i < len then Classical.choose (hex i h) else ⟨0, 0, 0, .empty, .empty, .empty⟩, fun i hi => ?_⟩
      simp only [hi, dif_pos]
      exact Classical.choose_spec (hex i hi)
    have hlen : ((List.range len).map f).length = len := by simp
    refine ⟨(List.range len).map f, ⟨by rw [hlen]; omega, some a, cap, by rw [hlen], fun i hi => ?_⟩, fun e he => ?_⟩
    · rw [hlen] at hi
      obtain ⟨b, off, spot⟩ := a
      have h00 := (hf 0 (by omega)).1 0 (by omega)
      have hspot : spot = none := by
        have h01 : W.cell? (((⟨b, off, spot⟩ : Addr).add (0 * 6)).add 0) = some _ := h00
        simpa [Addr.add] using World.cell?_spot h01
      subst hspot
      refine ⟨b, off, rfl, fun j hj => ?_⟩
      rw [hlen] at hj
      have hc := (hf j hj).1
      simp only [add_addL] at hc
      have ej : ((List.range len).map f)[j]'(by rw [hlen]; exact hj) = f j := by simp
      rw [ej]
      intro i y hy
      have hi' : i < 6 := by
        have h2 := (List.getElem?_eq_some_iff.1 hy).1
        simpa [cmC] using h2
      exact (hc i hi').trans hy
    · simp only [List.mem_map, List.mem_range] at he
      obtain ⟨i, hi, rfl⟩ := he
      exact (hf i hi).2
set_option maxRecDepth 100000 in
theorem open_lnCmdS {b0 : Nat} {v : Value} {d : DataW H} {p : List MemPlace}
    (hv : Value.okWide Try.prog W .any b0 23 v) (h : DataW.Trod enc Try.prog W base spare held 23 v d p) : ∃ l, SlACmd W v l := by
  obtain ⟨a, len, cap, rfl⟩ := okWide_slice Try.underlying23 hv
  obtain ⟨fuel, hf⟩ := h
  exact open_lnCmds (by simpa [Value.cells] using hf)
end
end Go.Proofs.Ytnoihfincifphaa
