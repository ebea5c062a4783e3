/-
  An argument of type laws.Script, opened.
-/
import Derived.Test.YtabnanmfojppjaaDoorSkAg
import Derived.Test.YtabnanmfojppjaaDoorArgInt0
import Derived.Deep.Slices
namespace Go.Proofs.YtabnanmfojppjaaDoor
open Go.ChangeShapes Go.WideShapes Go.ChangeAt Go.RowKit
set_option linter.unusedVariables false
set_option linter.unusedSimpArgs false

theorem cellsSkS : Tryd.prog.cellsOf 67 = 10 := by kernel_rfl
theorem cellsSkC : Tryd.prog.cellsOf 65 = 6 := by kernel_rfl
theorem cellsSkU : Tryd.prog.cellsOf 23 = 6 := by kernel_rfl
theorem cellsSkP : Tryd.prog.cellsOf 27 = 8 := by kernel_rfl
theorem cellsSk3 : Tryd.prog.cellsOf 3 = 1 := by kernel_rfl
theorem cellsSk9 : Tryd.prog.cellsOf 9 = 1 := by kernel_rfl
theorem cellsSkI : Tryd.prog.cellsOf 24 = 1 := by kernel_rfl
theorem cellsSkT : Tryd.prog.cellsOf 25 = 1 := by kernel_rfl
theorem add_addL (b o i j : Nat) : ((⟨b, o, none⟩ : Addr).add i).add j = ⟨b, o + i + j, none⟩ := by
  have h : ∀ o k, (⟨b, o, none⟩ : Addr).add k = ⟨b, o + k, none⟩ := by
    intro o k
    unfold Addr.add
    split
    · next h => subst h; rfl
    · rfl
  rw [h, h]

section
variable {H : Type} {enc : TypeId × Value → H} {W : World} {base : Nat} {spare : Nat → Bool} {held : Bool}

set_option maxRecDepth 100000 in
theorem open_skCmd {fuel : Nat} {cs : List Value} {x : DataW H × List MemPlace} (h : DataW.trod enc Tryd.prog W base spare held fuel 65 cs = some x) :
    ∃ (cl sq op : Int) (k v o : ByteArray), cs = [.int .i64 cl, .int .i64 sq, .int .i64 op, .string k, .string v, .string o] ∧ k.size ≤ maxLen ∧ v.size ≤ maxLen ∧ o.size ≤ maxLen := by
  obtain ⟨ys, n', _, hy, hl, hlen2, hg'⟩ := DataW.trod_struct Tryd.underlying65 h
  have hl6 : cs.length = 6 := hl.trans cellsSkC
  match cs, hl6 with
  | [c0, c1, c2, c3, c4, c5], _ =>
    have hlen3 : ys.length = 6 := hlen2
    have k0 := hg' 0 _ rfl
    have k1 := hg' 1 _ rfl
    have k2 := hg' 2 _ rfl
    have k3 := hg' 3 _ rfl
    have k4 := hg' 4 _ rfl
    have k5 := hg' 5 _ rfl
    rw [List.getElem?_eq_getElem (by omega)] at k0 k1 k2 k3 k4 k5
    obtain ⟨a0, f0, _, w0⟩ := DataW.trod_int Tryd.underlying3 k0
    obtain ⟨a1, f1, _, w1⟩ := DataW.trod_int Tryd.underlying3 k1
    obtain ⟨a2, f2, _, w2⟩ := DataW.trod_int Tryd.underlying3 k2
    obtain ⟨a3, f3, _, m3⟩ := DataW.trod_string Tryd.underlying9 k3
    obtain ⟨a4, f4, _, m4⟩ := DataW.trod_string Tryd.underlying9 k4
    obtain ⟨a5, f5, _, m5⟩ := DataW.trod_string Tryd.underlying9 k5
    simp [cellsSk3, cellsSk9] at f0 f1 f2 f3 f4 f5
    exact ⟨a0, a1, a2, a3, a4, a5, by rw [f0, f1, f2, f3, f4, f5], m3, m4, m5⟩

set_option maxRecDepth 100000 in
theorem open_lnStep {fuel : Nat} {cs : List Value} {x : DataW H × List MemPlace} (h : DataW.trod enc Tryd.prog W base spare held fuel 67 cs = some x) :
    ∃ e : Stp, cs = stC e ∧ e.fitA := by
  obtain ⟨xs, n, _, hx, hl, hlen, hg⟩ := DataW.trod_struct Tryd.underlying67 h
  have hl9 : cs.length = 10 := hl.trans cellsSkS
  match cs, hl9 with
  | [c0, c1, c2, c3, c4, c5, c6, c7, c8, c9], _ =>
    have hlen' : xs.length = 5 := hlen
    have g0 := hg 0 _ rfl
    have g1 := hg 1 _ rfl
    have g2 := hg 2 _ rfl
    have g3 := hg 3 _ rfl
    have g4 := hg 4 _ rfl
    rw [List.getElem?_eq_getElem (by omega)] at g0 g1 g2 g3 g4
    obtain ⟨kd, e0, _, _⟩ := DataW.trod_int Tryd.underlying3 g0
    obtain ⟨xa, e1, _, _⟩ := DataW.trod_int Tryd.underlying3 g1
    obtain ⟨xb, e2, _, _⟩ := DataW.trod_int Tryd.underlying3 g2
    obtain ⟨xc, e3, _, _⟩ := DataW.trod_int Tryd.underlying3 g3
    obtain ⟨cl, sq, op, k, v, o, e4, m1, m2, m3⟩ := open_skCmd g4
    simp [cellsSk3, cellsSk9, cellsSkC] at e0 e1 e2 e3 e4
    obtain ⟨x1, x2, x3, x4, x5, x6⟩ := e4
    exact ⟨⟨kd, xa, xb, xc, cl, sq, op, k, v, o⟩, by rw [e0, e1, e2, e3, x1, x2, x3, x4, x5, x6]; rfl, ⟨m1, m2, m3⟩⟩

set_option maxRecDepth 100000 in
theorem open_lnSteps {fuel : Nat} {v : Value} {x : DataW H × List MemPlace} (h : DataW.trod enc Tryd.prog W base spare held fuel 25 [v] = some x) : ∃ l, SlAStep W v l := by
  rcases Go.Deep.open_slice Tryd.underlying25 h with ⟨hcs, _⟩ | ⟨a, len, cap, m, n, D, Pl, hcs, _, hlc, hcm, hm, _, hel⟩
  · simp at hcs
    subst hcs
    exact ⟨[], ⟨by simp [maxLen], _, _, rfl, fun i hi => absurd hi (by simp)⟩, by simp⟩
  · simp at hcs
    subst hcs
    have hlm : len ≤ m := by rw [hm]; split <;> omega
    have hex : ∀ i, i < len → ∃ e : Stp, (∀ j, j < 10 → W.cell? ((a.add (i * 10)).add j) = (stC e)[j]?) ∧ e.fitA := by
      intro i hi
      obtain ⟨cs', hc, ht⟩ := hel i (by omega)
      rw [cellsSkS] at hc
      obtain ⟨e, rfl, hf⟩ := open_lnStep ht
      obtain ⟨_, _, hg⟩ := World.cells?_some hc
      exact ⟨e, hg, hf⟩
    obtain ⟨f, hf⟩ : ∃ f : Nat → Stp, ∀ i, i < len → (∀ j, j < 10 → W.cell? ((a.add (i * 10)).add j) = (stC (f i))[j]?) ∧ (f i).fitA := by
      refine ⟨fun i => if h : i < len then Classical.choose (hex i h) else ⟨0, 0, 0, 0, 0, 0, 0, .empty, .empty, .empty⟩, fun i hi => ?_⟩
      simp only [hi, dif_pos]
      exact Classical.choose_spec (hex i hi)
    have hlen : ((List.range len).map f).length = len := by simp
    refine ⟨(List.range len).map f, ⟨by rw [hlen]; omega, some a, cap, by rw [hlen], fun i hi => ?_⟩, fun e he => ?_⟩
    · rw [hlen] at hi
      obtain ⟨b, off, spot⟩ := a
      have h00 := (hf 0 (by omega)).1 0 (by omega)
      have hspot : spot = none := by
        have h01 : W.cell? (((⟨b, off, spot⟩ : Addr).add (0 * 10)).add 0) = some _ := h00
        simpa [Addr.add] using World.cell?_spot h01
      subst hspot
      refine ⟨b, off, rfl, fun j hj => ?_⟩
      rw [hlen] at hj
      have hc := (hf j hj).1
      simp only [add_addL] at hc
      have ej : ((List.range len).map f)[j]'(by rw [hlen]; exact hj) = f j := by simp
      rw [ej]
      intro i y hy
      have hi' : i < 10 := by
        have h2 := (List.getElem?_eq_some_iff.1 hy).1
        simpa [stC] using h2
      exact (hc i hi').trans hy
    · simp only [List.mem_map, List.mem_range] at he
      obtain ⟨i, hi, rfl⟩ := he
      exact (hf i hi).2
set_option maxRecDepth 100000 in
theorem open_lnStepS {b0 : Nat} {v : Value} {d : DataW H} {p : List MemPlace}
    (hv : Value.okWide Tryd.prog W .any b0 25 v) (h : DataW.Trod enc Tryd.prog W base spare held 25 v d p) : ∃ l, SlAStep W v l := by
  obtain ⟨a, len, cap, rfl⟩ := okWide_slice Tryd.underlying25 hv
  obtain ⟨fuel, hf⟩ := h
  exact open_lnSteps (by simpa [Value.cells] using hf)

set_option maxRecDepth 100000 in
theorem cs_skScript {fuel : Nat} {cs : List Value} {x : DataW H × List MemPlace} (h : DataW.trod enc Tryd.prog W base spare held fuel 27 cs = some x) :
    ∃ (us uc ue ub ur ud : Int) (vd vs : Value) (ds : List Int) (ss : List Stp), cs = [.int .i64 us, .int .i64 uc, .int .i64 ue, .int .i64 ub, .int .i64 ur, .int .i64 ud, vd, vs] ∧ Ix W vd ds ∧ SlAStep W vs ss := by
  obtain ⟨xs, n, _, hx, hl, hlen, hg⟩ := DataW.trod_struct Tryd.underlying27 h
  have hl8 : cs.length = 8 := hl.trans cellsSkP
  match cs, hl8 with
  | [c0, c1, c2, c3, c4, c5, c6, c7], _ =>
    have hlen' : xs.length = 3 := hlen
    have g0 := hg 0 _ rfl
    have g1 := hg 1 _ rfl
    have g2 := hg 2 _ rfl
    rw [List.getElem?_eq_getElem (by omega)] at g0 g1 g2
    have h0 : DataW.trod enc Tryd.prog W base spare held n 23 [c0, c1, c2, c3, c4, c5] = some xs[0] := by simpa [cellsSkU] using g0
    have h1 : DataW.trod enc Tryd.prog W base spare held n 24 [c6] = some xs[1] := by simpa [cellsSkI] using g1
    have h2 : DataW.trod enc Tryd.prog W base spare held n 25 [c7] = some xs[2] := by simpa [cellsSkT] using g2
    obtain ⟨ds, bd⟩ := ints_of_trod h1
    obtain ⟨ss, bs⟩ := open_lnSteps h2
    obtain ⟨ys, n', _, hy, hl', hlen2, hg'⟩ := DataW.trod_struct Tryd.underlying23 h0
    have hlen3 : ys.length = 6 := hlen2
    have k0 := hg' 0 _ rfl
    have k1 := hg' 1 _ rfl
    have k2 := hg' 2 _ rfl
    have k3 := hg' 3 _ rfl
    have k4 := hg' 4 _ rfl
    have k5 := hg' 5 _ rfl
    rw [List.getElem?_eq_getElem (by omega)] at k0 k1 k2 k3 k4 k5
    obtain ⟨a0, f0, _, _⟩ := DataW.trod_int Tryd.underlying3 k0
    obtain ⟨a1, f1, _, _⟩ := DataW.trod_int Tryd.underlying3 k1
    obtain ⟨a2, f2, _, _⟩ := DataW.trod_int Tryd.underlying3 k2
    obtain ⟨a3, f3, _, _⟩ := DataW.trod_int Tryd.underlying3 k3
    obtain ⟨a4, f4, _, _⟩ := DataW.trod_int Tryd.underlying3 k4
    obtain ⟨a5, f5, _, _⟩ := DataW.trod_int Tryd.underlying3 k5
    simp [cellsSk3] at f0 f1 f2 f3 f4 f5
    exact ⟨a0, a1, a2, a3, a4, a5, c6, c7, ds, ss, by rw [f0, f1, f2, f3, f4, f5], bd, bs⟩
set_option maxRecDepth 100000 in
theorem open_skScript {b0 : Nat} {v : Value} {d : DataW H} {p : List MemPlace}
    (hv : Value.okWide Tryd.prog W .any b0 27 v) (h : DataW.Trod enc Tryd.prog W base spare held 27 v d p) :
    ∃ (us uc ue ub ur ud : Int) (vd vs : Value) (ds : List Int) (ss : List Stp), v = .agg #[.int .i64 us, .int .i64 uc, .int .i64 ue, .int .i64 ub, .int .i64 ur, .int .i64 ud, vd, vs] ∧ Ix W vd ds ∧ SlAStep W vs ss := by
  obtain ⟨cs, rfl, hsz⟩ := okWide_struct Tryd.underlying27 hv
  obtain ⟨fuel, hf⟩ := h
  obtain ⟨l⟩ := cs
  obtain ⟨n0, n1, n2, n3, n4, n5, u6, u7, ds, ss, hl, hr⟩ := cs_skScript hf
  have hl2 : l = [.int .i64 n0, .int .i64 n1, .int .i64 n2, .int .i64 n3, .int .i64 n4, .int .i64 n5, u6, u7] := hl
  subst hl2
  exact ⟨n0, n1, n2, n3, n4, n5, u6, u7, ds, ss, rfl, hr⟩
end
end Go.Proofs.YtabnanmfojppjaaDoor
