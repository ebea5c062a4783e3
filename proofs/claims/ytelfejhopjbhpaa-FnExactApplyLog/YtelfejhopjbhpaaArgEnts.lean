/-
  An argument of type []laws.Entry, opened.
-/
import Derived.Test.YtelfejhopjbhpaaEnts
import Derived.Test.YtelfejhopjbhpaaArgBase
import Derived.Deep.Slices
namespace Go.Proofs.Ytelfejhopjbhpaa
open Go.ChangeShapes Go.WideShapes Go.ChangeAt Go.RowKit
set_option linter.unusedVariables false

theorem cellsEntry : Try.prog.cellsOf 82 = 7 := by kernel_rfl
theorem cellsCmd : Try.prog.cellsOf 51 = 6 := by kernel_rfl
theorem cells3 : Try.prog.cellsOf 3 = 1 := by kernel_rfl
theorem cells9 : Try.prog.cellsOf 9 = 1 := by kernel_rfl
theorem cellsEs : Try.prog.cellsOf 40 = 1 := by kernel_rfl

section
variable {H : Type} {enc : TypeId × Value → H} {W : World} {base : Nat} {spare : Nat → Bool} {held : Bool}

set_option maxRecDepth 100000 in
theorem open_entry {fuel : Nat} {cs : List Value} {x : DataW H × List MemPlace} (h : DataW.trod enc Try.prog W base spare held fuel 82 cs = some x) :
    ∃ e : Ent, cs = [.int .i64 e.t, .int .i64 e.cl, .int .i64 e.sq, .int .i64 e.op, .string e.k, .string e.v, .string e.o] ∧ e.fits := by
  obtain ⟨xs, n, _, hx, hl, hlen, hg⟩ := DataW.trod_struct Try.underlying82 h
  have hl7 : cs.length = 7 := hl.trans cellsEntry
  match cs, hl7 with
  | [c0, c1, c2, c3, c4, c5, c6], _ =>
    have hlen' : xs.length = 2 := hlen
    have g0 := hg 0 _ rfl
    have g1 := hg 1 _ rfl
    rw [List.getElem?_eq_getElem (by omega)] at g0 g1
    obtain ⟨t, e0, _, _⟩ := DataW.trod_int Try.underlying3 g0
    obtain ⟨ys, n', _, hy, hl', hlen2, hg'⟩ := DataW.trod_struct Try.underlying51 g1
    have hlen3 : ys.length = 6 := hlen2
    have k0 := hg' 0 _ rfl
    have k1 := hg' 1 _ rfl
    have k2 := hg' 2 _ rfl
    have k3 := hg' 3 _ rfl
    have k4 := hg' 4 _ rfl
    have k5 := hg' 5 _ rfl
    rw [List.getElem?_eq_getElem (by omega)] at k0 k1 k2 k3 k4 k5
    obtain ⟨a0, f0, _, _⟩ := DataW.trod_int Try.underlying3 k0
    obtain ⟨a1, f1, _, _⟩ := DataW.trod_int Try.underlying3 k1
    obtain ⟨a2, f2, _, _⟩ := DataW.trod_int Try.underlying3 k2
    obtain ⟨a3, f3, _, m3⟩ := DataW.trod_string Try.underlying9 k3
    obtain ⟨a4, f4, _, m4⟩ := DataW.trod_string Try.underlying9 k4
    obtain ⟨a5, f5, _, m5⟩ := DataW.trod_string Try.underlying9 k5
    simp [cells3, cells9, cellsCmd] at e0 f0 f1 f2 f3 f4 f5
    exact ⟨⟨t, a0, a1, a2, a3, a4, a5⟩, by rw [e0, f0, f1, f2, f3, f4, f5], m3, m4, m5⟩

theorem add_add (b o i j : Nat) : ((⟨b, o, none⟩ : Addr).add i).add j = ⟨b, o + i + j, none⟩ := by
  have h : ∀ o k, (⟨b, o, none⟩ : Addr).add k = ⟨b, o + k, none⟩ := by
    intro o k
    unfold Addr.add
    split
    · next h => subst h; rfl
    · rfl
  rw [h, h]

set_option maxRecDepth 100000 in
theorem open_entries {fuel : Nat} {v : Value} {x : DataW H × List MemPlace} (h : DataW.trod enc Try.prog W base spare held fuel 40 [v] = some x) : ∃ l, Es W v l := by
  rcases Go.Deep.open_slice Try.underlying40 h with ⟨hcs, _⟩ | ⟨a, len, cap, m, n, D, Pl, hcs, _, hlc, hcm, hm, _, hel⟩
  · simp at hcs
    subst hcs
    exact ⟨[], by simp [maxLen], by simp, _, _, rfl, fun i hi => absurd hi (by simp)⟩
  · simp at hcs
    subst hcs
    have hlm : len ≤ m := by rw [hm]; split <;> omega
    have hex : ∀ i, i < len → ∃ e : Ent, (∀ j, j < 7 → W.cell? ((a.add (i * 7)).add j) = ([.int .i64 e.t, .int .i64 e.cl, .int .i64 e.sq, .int .i64 e.op, .string e.k, .string e.v, .string e.o] : List Value)[j]?) ∧ e.fits := by
      intro i hi
      obtain ⟨cs', hc, ht⟩ := hel i (by omega)
      rw [cellsEntry] at hc
      obtain ⟨e, rfl, hf⟩ := open_entry ht
      obtain ⟨_, _, hg⟩ := World.cells?_some hc
      exact ⟨e, hg, hf⟩
    obtain ⟨f, hf⟩ : ∃ f : Nat → Ent, ∀ i, i < len → (∀ j, j < 7 → W.cell? ((a.add (i * 7)).add j) = ([.int .i64 (f i).t, .int .i64 (f i).cl, .int .i64 (f i).sq, .int .i64 (f i).op, .string (f i).k, .string (f i).v, .string (f i).o] : List Value)[j]?) ∧ (f i).fits := by
      refine ⟨fun i => if h : i < len then Classical.choose (hex i h) else ⟨0, 0, 0, 0, .empty, .empty, .empty⟩, fun i hi => ?_⟩
      simp only [hi, dif_pos]
      exact Classical.choose_spec (hex i hi)
    have hlen : ((List.range len).map f).length = len := by simp
    refine ⟨(List.range len).map f, by rw [hlen]; omega, fun e he => ?_, some a, cap, by rw [hlen], fun i hi => ?_⟩
    · simp only [List.mem_map, List.mem_range] at he
      obtain ⟨i, hi, rfl⟩ := he
      exact (hf i hi).2
    · rw [hlen] at hi
      obtain ⟨b, off, spot⟩ := a
      have h00 := (hf 0 (by omega)).1 0 (by omega)
      have hspot : spot = none := by simpa [Addr.add] using World.cell?_spot h00
      subst hspot
      refine ⟨b, off, rfl, fun j hj => ?_⟩
      rw [hlen] at hj
      have hc := (hf j hj).1
      simp only [add_add] at hc
      have ej : ((List.range len).map f)[j]'(by rw [hlen]; exact hj) = f j := by simp
      rw [ej]
      exact ⟨hc 0 (by omega), hc 1 (by omega), hc 2 (by omega), hc 3 (by omega), hc 4 (by omega), hc 5 (by omega), hc 6 (by omega)⟩
set_option maxRecDepth 100000 in
theorem open_entS {b0 : Nat} {v : Value} {d : DataW H} {p : List MemPlace}
    (hv : Value.okWide Try.prog W .any b0 40 v) (h : DataW.Trod enc Try.prog W base spare held 40 v d p) : ∃ l, Es W v l := by
  obtain ⟨a, len, cap, rfl⟩ := okWide_slice Try.underlying40 hv
  obtain ⟨fuel, hf⟩ := h
  exact open_entries (by simpa [Value.cells] using hf)
end
end Go.Proofs.Ytelfejhopjbhpaa
