/-
  A list of records as a law takes it: to, eq, mark.
-/
import Derived.Test.YtmbiccmndcchhagDoorLawBase
import Derived.Test.YtmbiccmndcchhagDoorSzRecs
import Derived.Test.YtmbiccmndcchhagDoorMarkRecs
namespace Go.Proofs.YtmbiccmndcchhagDoor
open Go.RowKit
set_option linter.unusedVariables false

/-- records in memory of one's own: one block of the span -/
structure RecsN (lo hi : Nat) (w : World) (q : Nat) (l : List Rec) : Prop where
  sl : Sl Rec.cells 11 w (.slice (some ⟨q, 0, none⟩) l.length l.length) l
  room : w.there q 0 (l.length * 11)
  lo : lo ≤ q
  hi : q < hi
  in_ : q < w.heap.size
theorem there_block {w w' : World} {b o n : Nat} (h : w.there b o n) (hb : w'.heap[b]? = w.heap[b]?) : w'.there b o n := fun j hj => by
  obtain ⟨h1, h2⟩ := h j hj
  refine ⟨?_, ?_⟩
  · rw [World.cell?_of_block (w := w) hb]; exact h1
  · simpa [World.frozen?, hb] using h2
theorem RecsN.keep {w w' : World} {lo hi q : Nat} {l : List Rec} (h : RecsN lo hi w q l) (hk : ∀ k, lo ≤ k → k < hi → w'.heap[k]? = w.heap[k]?) : RecsN lo hi w' q l := by
  have hb := hk q h.lo h.hi
  refine ⟨?_, there_block h.room hb, h.lo, h.hi, ?_⟩
  · obtain ⟨hl, a, cap, e, hc⟩ := h.sl
    injection e with e1 e2 e3
    subst e1 e3
    refine ⟨hl, _, _, rfl, fun i hi' => ?_⟩
    obtain ⟨b, off, e', hr⟩ := hc i hi'
    refine ⟨b, off, e', fun j hj t v ht => ?_⟩
    injection e' with e'
    injection e' with e4 e5
    subst e4
    rw [World.cell?_of_block (w := w) hb]
    exact hr j hj t v ht
  · rcases Nat.lt_or_ge q w'.heap.size with h' | h'
    · exact h'
    · rw [Array.getElem?_eq_none h'] at hb
      have := h.in_
      rw [Array.getElem?_eq_getElem this] at hb
      cases hb
theorem toRecordS_u (v : Value) (l : List Rec) (w : World) (hv : Sl Rec.cells 11 w v l) (hl' : l.length ≤ 1048576) :
    Calls Tryd.prog 24 #[v] w fun x w' => ∃ q, x = .returned (.slice (some ⟨q, 0, none⟩) l.length l.length) ∧ RecsN w.heap.size w'.heap.size w' q l ∧ Below w.heap.size w w' :=
  (toRecordS_any v l w hv hl').mono fun x w' ⟨h1, h2⟩ => ⟨_, h1, ⟨h2.sl (by unfold maxLen; omega), h2.there, Nat.le_refl _, h2.size, h2.size⟩, h2.below⟩
theorem eqRecordS_u (l : List Rec) (w : World) {lo hi lo' hi' q q' : Nat} (hv : RecsN lo hi w q l) (hu : RecsN lo' hi' w q' l) :
    Calls Tryd.prog 26 #[.slice (some ⟨q, 0, none⟩) l.length l.length, .slice (some ⟨q', 0, none⟩) l.length l.length] w fun e w' => e = .returned (.bool true) ∧ Below w.heap.size w w' :=
  eqRecordS_same _ _ l w hv.sl hu.sl
theorem markRecordS_u (l : List Rec) (k0 : Nat) (w : World) {lo hi q : Nat} (hv : RecsN lo hi w q l) (hl : l.length ≤ 1048576) (hk0 : k0 ≤ 10000000) :
    Calls Tryd.prog 27 #[.slice (some ⟨q, 0, none⟩) l.length l.length, .int .i64 k0] w fun e w' => (∃ k : Nat, e = .returned (.int .i64 k)) ∧ Turned lo hi w w' :=
  (markRecordS_from k0 (by omega) q l.length l.length w hv.room hv.in_ hl).mono fun e w' ⟨h1, h2⟩ => ⟨h1, .grown h2 hv.lo hv.hi⟩
end Go.Proofs.YtmbiccmndcchhagDoor
