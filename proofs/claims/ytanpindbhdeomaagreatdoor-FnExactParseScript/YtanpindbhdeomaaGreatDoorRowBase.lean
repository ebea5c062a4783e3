/-
  Rows of structs: what a slice of structs holds; room in a row.
-/
import Derived.Test.YtanpindbhdeomaaGreatDoorBytes
import Derived.Deep.MidRow
import Derived.Deep.WholeRow
namespace Go.Proofs.YtanpindbhdeomaaGreatDoor
open Go.RowKit
set_option linter.unusedVariables false

/-! ### slices of structs, whatever the struct -/
theorem range_below {w w' : World} {b o : Nat} {cs : List Value} (h : w.rangeAt b o cs) (hb : Below w.heap.size w w') : w'.rangeAt b o cs := fun j v hj => (hb.cell (cell_lt (h j v hj))).trans (h j v hj)

/-- the slice value v holds, in the world w, the structs l, of m cells each -/
def Sl {α : Type} (cs : α → List Value) (m : Nat) (w : World) (v : Value) (l : List α) : Prop :=
  l.length ≤ maxLen ∧ ∃ a cap, v = .slice a l.length cap ∧ ∀ i, i < l.length → ∃ b off, a = some ⟨b, off, none⟩ ∧ ∀ j (h : j < l.length), w.rangeAt b (off + j * m) (cs l[j])

theorem Sl.below {α : Type} {cs : α → List Value} {m : Nat} {w w' : World} {v : Value} {l : List α} (h : Sl cs m w v l) (hb : Below w.heap.size w w') : Sl cs m w' v l := by
  obtain ⟨hl, a, cap, rfl, hc⟩ := h
  refine ⟨hl, a, cap, rfl, fun i hi => ?_⟩
  obtain ⟨b, off, rfl, hj⟩ := hc i hi
  exact ⟨b, off, rfl, fun j hj' => range_below (hj j hj') hb⟩

theorem there_below {w w' : World} {b o n : Nat} (h : w.there b o n) (hb : Below w.heap.size w w') (hlt : b < w.heap.size) : w'.there b o n := fun j hj => by
  rw [hb.cell (p := ⟨b, o + j, none⟩) hlt, hb.frozen (p := ⟨b, o + j, none⟩) hlt]; exact h j hj

theorem range_new' (w : World) (cs : List Value) (t : TypeId) : (w.alloc (.cells cs.toArray t)).rangeAt w.heap.size 0 cs := by
  intro j v hj
  rw [Nat.zero_add, World.cell?_alloc_new]
  simpa using hj
theorem there_new' (w : World) (cs : Array Value) (t : TypeId) : (w.alloc (.cells cs t)).there w.heap.size 0 cs.size := fun j hj => by
  refine ⟨?_, by simp⟩
  rw [Nat.zero_add, World.cell?_alloc_new, Array.getElem?_eq_getElem hj]; rfl
theorem below_setCells' {B g : Nat} {w0 : World} (hg : B ≤ g) : ∀ (vs : List Value) (o : Nat) (w : World), Below B w0 w → Below B w0 (w.setCells g o vs)
  | [], _, _, h => h
  | v :: vs, o, w, h => below_setCells' hg vs (o + 1) _ (h.setCell (show B ≤ (⟨g, o, none⟩ : Addr).block from hg) v)
theorem size_setCells' {g : Nat} : ∀ (vs : List Value) (o : Nat) (w : World), (w.setCells g o vs).heap.size = w.heap.size
  | [], _, _ => rfl
  | v :: vs, o, w => (size_setCells' vs (o + 1) _).trans (by simp [World.setCell])
theorem there_sub {w : World} {b n : Nat} (h : w.there b 0 n) (o k : Nat) (hk : o + k ≤ n) : w.there b o k := fun j hj => by
  have := h (o + j) (by omega)
  rwa [Nat.zero_add] at this

/-- what has been copied after k rounds -/
structure CopiedG {α : Type} (cs : α → List Value) (m : Nat) (w wr : World) (l : List α) (k : Nat) : Prop where
  below : Below w.heap.size w wr
  size : w.heap.size < wr.heap.size
  there : wr.there w.heap.size 0 (l.length * m)
  rows : ∀ j (h : j < l.length), j < k → wr.rangeAt w.heap.size (j * m) (cs l[j])

theorem CopiedG.start {α : Type} (cs : α → List Value) (m : Nat) (w : World) (l : List α) (z : Array Value) (t : TypeId) : CopiedG cs m w (w.alloc (.cells (madeCells z (l.length * m)) t)) l 0 :=
  ⟨(Below.refl _ _).alloc (Nat.le_refl _) _, by simp, by have h := there_new' w (madeCells z (l.length * m)) t; rwa [size_madeCells] at h, fun j _ h => absurd h (by omega)⟩
theorem CopiedG.later {α : Type} {cs : α → List Value} {m : Nat} {w wr w1 : World} {l : List α} {k : Nat} (h : CopiedG cs m w wr l k) (hb : Below wr.heap.size wr w1) : CopiedG cs m w w1 l k :=
  ⟨h.below.trans (hb.mono (Nat.le_of_lt h.size)), Nat.lt_of_lt_of_le h.size hb.size, fun j hj => by
    rw [hb.cell (p := ⟨w.heap.size, 0 + j, none⟩) h.size, hb.frozen (p := ⟨w.heap.size, 0 + j, none⟩) h.size]; exact h.there j hj, fun j hj hjk => range_below (h.rows j hj hjk) hb⟩
theorem row_le {j k n m : Nat} (h : j < k) (hk : k ≤ n) : j * m + m ≤ n * m := by
  have := Nat.mul_le_mul_right m (show j + 1 ≤ n by omega)
  rwa [Nat.succ_mul] at this
theorem CopiedG.step {α : Type} {cs : α → List Value} {m : Nat} {w wr : World} {l : List α} {k : Nat} (h : CopiedG cs m w wr l k) (hk : k < l.length) (hm : ∀ a, (cs a).length = m) :
    CopiedG cs m w (wr.setCells w.heap.size (k * m) (cs l[k])) l (k + 1) := by
  refine ⟨below_setCells' (Nat.le_refl _) _ _ _ h.below, by rw [size_setCells']; exact h.size, World.there_setCells h.there _ _ _, fun j hj hjk => ?_⟩
  by_cases e : j = k
  · subst e
    exact World.rangeAt_setCells_same _ _ _ _ (there_sub h.there _ _ (by rw [hm]; exact row_le hk (Nat.le_refl _)))
  · exact World.rangeAt_setCells_apart (h.rows j hj (by omega)) _ _ _ (.inr (.inl (by rw [hm]; exact row_le (show j < k by omega) (Nat.le_refl _))))
theorem CopiedG.sl {α : Type} {cs : α → List Value} {m : Nat} {w wr : World} {l : List α} (h : CopiedG cs m w wr l l.length) (hl : l.length ≤ maxLen) : Sl cs m wr (.slice (some ⟨w.heap.size, 0, none⟩) l.length l.length) l :=
  ⟨hl, _, _, rfl, fun i hi => ⟨_, _, rfl, fun j hj => by rw [Nat.zero_add]; exact h.rows j hj hj⟩⟩

theorem there_set' {w : World} {b n : Nat} (h : w.there b 0 n) (b' j : Nat) (x : Value) : (w.setCell ⟨b', j, none⟩ x).there b 0 n := World.there_setCells h b' j [x]
theorem there_get' {w : World} {b n : Nat} (h : w.there b 0 n) (i : Nat) (hi : i < n) : ∃ y, w.cell? ⟨b, i, none⟩ = some y := by
  have := (h i hi).1
  rw [Nat.zero_add] at this
  exact Option.isSome_iff_exists.1 this
theorem there_free' {w : World} {b n : Nat} (h : w.there b 0 n) (i : Nat) (hi : i < n) : w.frozen? ⟨b, i, none⟩ = false := by
  have := (h i hi).2
  rwa [Nat.zero_add] at this
theorem there_block' {w w' : World} {b o n : Nat} (h : w.there b o n) (hb : w'.heap[b]? = w.heap[b]?) : w'.there b o n := fun j hj => by
  obtain ⟨h1, h2⟩ := h j hj
  refine ⟨?_, ?_⟩
  · rw [World.cell?_of_block (w := w) hb]; exact h1
  · simpa [World.frozen?, hb] using h2

end Go.Proofs.YtanpindbhdeomaaGreatDoor
