/-
  An argument of type []laws.Record, opened.
-/
import Derived.Test.YtmbiccmndcchhagDoorRecBase
import Derived.Test.YtmbiccmndcchhagDoorRows
import Derived.ProofKit
import Derived.OpenShut
import Derived.ShutString
import Derived.ChangeOld
import Derived.Carry
import Derived.Deep.Slices
namespace Go.Proofs.YtmbiccmndcchhagDoor
open Go.ChangeShapes Go.WideShapes Go.ChangeAt Go.RowKit
set_option linter.unusedVariables false

theorem cellsRecord : Tryd.prog.cellsOf 88 = 11 := by kernel_rfl
theorem cellsEntry : Tryd.prog.cellsOf 86 = 7 := by kernel_rfl
theorem cellsCmd : Tryd.prog.cellsOf 84 = 6 := by kernel_rfl
theorem cells3 : Tryd.prog.cellsOf 3 = 1 := by kernel_rfl
theorem cells9 : Tryd.prog.cellsOf 9 = 1 := by kernel_rfl

section
variable {H : Type} {enc : TypeId × Value → H} {W : World} {base : Nat} {spare : Nat → Bool} {held : Bool}

set_option maxRecDepth 100000 in
theorem open_entry {fuel : Nat} {cs : List Value} {x : DataW H × List MemPlace} (h : DataW.trod enc Tryd.prog W base spare held fuel 86 cs = some x) :
    ∃ e : Ent, cs = [.int .i64 e.t, .int .i64 e.cl, .int .i64 e.sq, .int .i64 e.op, .string e.k, .string e.v, .string e.o] ∧ e.fits := by
  obtain ⟨xs, n, _, hx, hl, hlen, hg⟩ := DataW.trod_struct Tryd.underlying86 h
  have hl7 : cs.length = 7 := hl.trans cellsEntry
  match cs, hl7 with
  | [c0, c1, c2, c3, c4, c5, c6], _ =>
    have hlen' : xs.length = 2 := hlen
    have g0 := hg 0 _ rfl
    have g1 := hg 1 _ rfl
    rw [List.getElem?_eq_getElem (by omega)] at g0 g1
    obtain ⟨t, e0, _, _⟩ := DataW.trod_int Tryd.underlying3 g0
    obtain ⟨ys, n', _, hy, hl', hlen2, hg'⟩ := DataW.trod_struct Tryd.underlying84 g1
    have hlen3 : ys.length = 6 := hlen2
    have k0 := hg' 0 _ rfl
    have k1 := hg' 1 _ rfl
    have k2 := hg' 2 _ rfl
    have k3 := hg' 3 _ rfl
    have k4 := hg' 4 _ rfl
    have k5 := hg' 5 _ rfl
    rw [List.getElem?_eq_getElem (by omega)] at k0 k1 k2 k3 k4 k5
    obtain ⟨a0, f0, _, _⟩ := DataW.trod_int Tryd.underlying3 k0
    obtain ⟨a1, f1, _, _⟩ := DataW.trod_int Tryd.underlying3 k1
    obtain ⟨a2, f2, _, _⟩ := DataW.trod_int Tryd.underlying3 k2
    obtain ⟨a3, f3, _, m3⟩ := DataW.trod_string Tryd.underlying9 k3
    obtain ⟨a4, f4, _, m4⟩ := DataW.trod_string Tryd.underlying9 k4
    obtain ⟨a5, f5, _, m5⟩ := DataW.trod_string Tryd.underlying9 k5
    simp [cells3, cells9, cellsCmd] at e0 f0 f1 f2 f3 f4 f5
    exact ⟨⟨t, a0, a1, a2, a3, a4, a5⟩, by rw [e0, f0, f1, f2, f3, f4, f5], m3, m4, m5⟩

set_option maxRecDepth 100000 in
theorem open_record {fuel : Nat} {cs : List Value} {x : DataW H × List MemPlace} (h : DataW.trod enc Tryd.prog W base spare held fuel 88 cs = some x) : ∃ r : Rec, cs = r.cells ∧ r.e.fits := by
  obtain ⟨xs, n, _, hx, hl, hlen, hg⟩ := DataW.trod_struct Tryd.underlying88 h
  have hl11 : cs.length = 11 := hl.trans cellsRecord
  match cs, hl11 with
  | [c0, c1, c2, c3, c4, c5, c6, c7, c8, c9, c10], _ =>
    have hlen' : xs.length = 5 := hlen
    have g0 := hg 0 _ rfl
    have g1 := hg 1 _ rfl
    have g2 := hg 2 _ rfl
    have g3 := hg 3 _ rfl
    have g4 := hg 4 _ rfl
    rw [List.getElem?_eq_getElem (by omega)] at g0 g1 g2 g3 g4
    obtain ⟨a0, e0, _, _⟩ := DataW.trod_int Tryd.underlying3 g0
    obtain ⟨a1, e1, _, _⟩ := DataW.trod_int Tryd.underlying3 g1
    obtain ⟨a2, e2, _, _⟩ := DataW.trod_int Tryd.underlying3 g2
    obtain ⟨a3, e3, _, _⟩ := DataW.trod_int Tryd.underlying3 g3
    obtain ⟨e, e4, hf⟩ := open_entry g4
    simp [cells3, cellsEntry] at e0 e1 e2 e3 e4
    obtain ⟨f0, f1, f2, f3, f4, f5, f6⟩ := e4
    exact ⟨⟨a0, a1, a2, a3, e⟩, by rw [e0, e1, e2, e3, f0, f1, f2, f3, f4, f5, f6]; rfl, hf⟩

theorem add_add (b o i j : Nat) : ((⟨b, o, none⟩ : Addr).add i).add j = ⟨b, o + i + j, none⟩ := by
  have h : ∀ o k, (⟨b, o, none⟩ : Addr).add k = ⟨b, o + k, none⟩ := by
    intro o k
    unfold Addr.add
    split
    · next h => subst h; rfl
    · rfl
  rw [h, h]

set_option maxRecDepth 100000 in
theorem open_records {fuel : Nat} {v : Value} {x : DataW H × List MemPlace} (h : DataW.trod enc Tryd.prog W base spare held fuel 51 [v] = some x) : ∃ l, Sl Rec.cells 11 W v l ∧ ∀ r ∈ l, r.e.fits := by
  rcases Go.Deep.open_slice Tryd.underlying51 h with ⟨hcs, _⟩ | ⟨a, len, cap, m, n, D, Pl, hcs, _, hlc, hcm, hm, _, hel⟩
  · simp at hcs
    subst hcs
    exact ⟨[], ⟨by simp [maxLen], _, _, rfl, fun i hi => absurd hi (by simp)⟩, by simp⟩
  · simp at hcs
    subst hcs
    have hlm : len ≤ m := by rw [hm]; split <;> omega
    have hex : ∀ i, i < len → ∃ r : Rec, (∀ j, j < 11 → W.cell? ((a.add (i * 11)).add j) = r.cells[j]?) ∧ r.e.fits := by
      intro i hi
      obtain ⟨cs', hc, ht⟩ := hel i (by omega)
      rw [cellsRecord] at hc
      obtain ⟨r, rfl, hf⟩ := open_record ht
      obtain ⟨_, _, hg⟩ := World.cells?_some hc
      exact ⟨r, hg, hf⟩
    obtain ⟨f, hf⟩ : ∃ f : Nat → Rec, ∀ i, i < len → (∀ j, j < 11 → W.cell? ((a.add (i * 11)).add j) = (f i).cells[j]?) ∧ (f i).e.fits := by
      refine ⟨fun i => if h : i < len then Classical.choose (hex i h) else ⟨0, 0, 0, 0, ⟨0, 0, 0, 0, .empty, .empty, .empty⟩⟩, fun i hi => ?_⟩
      simp only [hi, dif_pos]
      exact Classical.choose_spec (hex i hi)
    have hlen : ((List.range len).map f).length = len := by simp
    refine ⟨(List.range len).map f, ⟨by rw [hlen]; omega, some a, cap, by rw [hlen], fun i hi => ?_⟩, fun e he => ?_⟩
    · rw [hlen] at hi
      obtain ⟨b, off, spot⟩ := a
      have h00 := (hf 0 (by omega)).1 0 (by omega)
      have hspot : spot = none := by simpa [Addr.add] using World.cell?_spot (h00.trans rfl)
      subst hspot
      refine ⟨b, off, rfl, fun j hj => ?_⟩
      rw [hlen] at hj
      have hc := (hf j hj).1
      simp only [add_add] at hc
      have ej : ((List.range len).map f)[j]'(by rw [hlen]; exact hj) = f j := by simp
      rw [ej]
      intro t v ht
      have ht11 : t < 11 := by
        have := (List.getElem?_eq_some_iff.1 ht).1
        rwa [Rec.cells_len] at this
      rw [hc t ht11]; exact ht
    · simp only [List.mem_map, List.mem_range] at he
      obtain ⟨i, hi, rfl⟩ := he
      exact (hf i hi).2
end
end Go.Proofs.YtmbiccmndcchhagDoor
