/-
  A list of entries as a law takes it: to, eq, mark.
-/
import Derived.Test.YtelfejhopjbhpaaSzEnts
import Derived.Test.YtelfejhopjbhpaaEqEnts
import Derived.Test.YtelfejhopjbhpaaMarkE
namespace Go.Proofs.Ytelfejhopjbhpaa
open Go.RowKit
set_option linter.unusedVariables false

theorem Es.thereE {w : World} {q cap : Nat} {l : List Ent} (h : Es w (.slice (some ⟨q, 0, none⟩) l.length cap) l) (hf : ∀ i, w.frozen? ⟨q, i, none⟩ = false) : w.there q 0 (l.length * 7) := by
  intro i hi
  refine ⟨?_, by rw [Nat.zero_add]; exact hf i⟩
  rw [Nat.zero_add]
  obtain ⟨_, _, a, cap', e, hc⟩ := h
  obtain ⟨b, off, rfl, hj⟩ := hc 0 (by omega)
  simp only [Value.slice.injEq, Option.some.injEq, Addr.mk.injEq, and_true] at e
  obtain ⟨⟨rfl, rfl⟩, _⟩ := e
  obtain ⟨h0, h1, h2, h3, h4, h5, h6⟩ := hj (i / 7) (by omega)
  rcases (by omega : i = 0 + i / 7 * 7 ∨ i = 0 + i / 7 * 7 + 1 ∨ i = 0 + i / 7 * 7 + 2 ∨ i = 0 + i / 7 * 7 + 3 ∨ i = 0 + i / 7 * 7 + 4 ∨ i = 0 + i / 7 * 7 + 5 ∨ i = 0 + i / 7 * 7 + 6) with e | e | e | e | e | e | e
  · rw [e, h0]; rfl
  · rw [e, h1]; rfl
  · rw [e, h2]; rfl
  · rw [e, h3]; rfl
  · rw [e, h4]; rfl
  · rw [e, h5]; rfl
  · rw [e, h6]; rfl
/-- entries in memory of one's own: one block of the span -/
structure EntsN (lo hi : Nat) (w : World) (q : Nat) (l : List Ent) : Prop where
  es : Es w (.slice (some ⟨q, 0, none⟩) l.length l.length) l
  room : w.there q 0 (l.length * 7)
  lo : lo ≤ q
  hi : q < hi
  in_ : q < w.heap.size
theorem lt_keep {w w' : World} {q : Nat} (hb : w'.heap[q]? = w.heap[q]?) (h : q < w.heap.size) : q < w'.heap.size := by
  rcases Nat.lt_or_ge q w'.heap.size with h' | h'
  · exact h'
  · rw [Array.getElem?_eq_none h', Array.getElem?_eq_getElem h] at hb
    cases hb
theorem EntsN.keep {w w' : World} {lo hi q : Nat} {l : List Ent} (h : EntsN lo hi w q l) (hk : ∀ k, lo ≤ k → k < hi → w'.heap[k]? = w.heap[k]?) : EntsN lo hi w' q l := by
  have hb := hk q h.lo h.hi
  exact ⟨h.es.block hb, there_block' h.room hb, h.lo, h.hi, lt_keep hb h.in_⟩
theorem EntsN.wide {w : World} {lo hi lo' hi' q : Nat} {l : List Ent} (h : EntsN lo hi w q l) (h1 : lo' ≤ lo) (h2 : hi ≤ hi') : EntsN lo' hi' w q l := ⟨h.es, h.room, Nat.le_trans h1 h.lo, Nat.lt_of_lt_of_le h.hi h2, h.in_⟩
theorem toEntryS_u (v : Value) (l : List Ent) (w : World) (hv : Es w v l) (hl' : l.length ≤ 1048576) :
    Calls Try.prog 12 #[v] w fun x w' => ∃ q, x = .returned (.slice (some ⟨q, 0, none⟩) l.length l.length) ∧ EntsN w.heap.size w'.heap.size w' q l ∧ Below w.heap.size w w' :=
  (toEntryS_any v l w hv hl').mono fun x w' ⟨g, h1, h2, h3, h4, h5, h6⟩ => ⟨g, h2, ⟨h3, h3.thereE h6, h1, h5, h5⟩, h4⟩
theorem markEntryS_u (l : List Ent) (k0 : Nat) (w : World) {lo hi q : Nat} (hv : EntsN lo hi w q l) (hl : l.length ≤ 1048576) (hk0 : k0 ≤ 10000000) :
    Calls Try.prog 15 #[.slice (some ⟨q, 0, none⟩) l.length l.length, .int .i64 k0] w fun e w' => e = .returned (.int .i64 ((k0 + 7 * l.length : Nat) : Int)) ∧ Turned lo hi w w' :=
  (markEntryS_is7 k0 (by omega) q l.length l.length w hv.room hv.in_ hl).mono fun e w' ⟨h1, _, h2⟩ => ⟨h1, .grown h2 hv.lo hv.hi⟩
end Go.Proofs.Ytelfejhopjbhpaa
