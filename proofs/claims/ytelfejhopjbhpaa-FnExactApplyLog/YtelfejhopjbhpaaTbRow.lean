/-
  Rows of structs in a span of blocks.
-/
import Derived.Test.YtelfejhopjbhpaaRowOwn
import Derived.Test.YtelfejhopjbhpaaMkG
import Derived.Test.YtelfejhopjbhpaaTbBase
namespace Go.Proofs.Ytelfejhopjbhpaa
open Go.RowKit Go.Maps
set_option linter.unusedVariables false
set_option linter.unusedSimpArgs false

/-- a row of one's own in the span [lo, hi) -/
structure RowR {α : Type} (cs : α → List Value) (m lo hi : Nat) (w : World) (v : Value) (l : List α) : Prop where
  len : l.length ≤ maxLen
  sh : ∃ a cap, v = .slice a l.length cap
  row : 0 < l.length → ∃ q cap, v = .slice (some ⟨q, 0, none⟩) l.length cap ∧ lo ≤ q ∧ q < hi ∧ q < w.heap.size ∧ w.there q 0 (l.length * m) ∧ ∀ j (h : j < l.length) t y, (cs l[j])[t]? = some y → w.cell? ⟨q, j * m + t, none⟩ = some y
section
variable {α : Type} {cs : α → List Value} {m lo hi : Nat} {w w' : World} {v : Value} {l : List α}
theorem lt_keepR {w w' : World} {q : Nat} (hb : w'.heap[q]? = w.heap[q]?) (h : q < w.heap.size) : q < w'.heap.size := by
  rcases Nat.lt_or_ge q w'.heap.size with h' | h'
  · exact h'
  · rw [Array.getElem?_eq_none h', Array.getElem?_eq_getElem h] at hb
    cases hb
theorem RowR.keep (h : RowR cs m lo hi w v l) (hk : ∀ k, lo ≤ k → k < hi → w'.heap[k]? = w.heap[k]?) : RowR cs m lo hi w' v l := by
  refine ⟨h.len, h.sh, fun h0 => ?_⟩
  obtain ⟨q, cap, e, h1, h2, h3, h4, h5⟩ := h.row h0
  have hb := hk q h1 h2
  exact ⟨q, cap, e, h1, h2, lt_keepR hb h3, there_block' h4 hb, fun j hj t y hy => (World.cell?_of_block (w := w) hb).trans (h5 j hj t y hy)⟩
theorem RowR.wide {lo' hi' : Nat} (h : RowR cs m lo hi w v l) (h1 : lo' ≤ lo) (h2 : hi ≤ hi') : RowR cs m lo' hi' w v l := by
  refine ⟨h.len, h.sh, fun h0 => ?_⟩
  obtain ⟨q, cap, e, g1, g2, r⟩ := h.row h0
  exact ⟨q, cap, e, by omega, by omega, r⟩
theorem RowR.nil (cs : α → List Value) (m lo hi : Nat) (w : World) : RowR cs m lo hi w (.slice none 0 0) [] := ⟨by simp, ⟨_, _, rfl⟩, fun h => absurd h (by simp)⟩
theorem RowR.sl (h : RowR cs m lo hi w v l) : Sl cs m w v l := by
  refine ⟨h.len, ?_⟩
  obtain ⟨a, cap, e⟩ := h.sh
  refine ⟨a, cap, e, fun i hi => ?_⟩
  obtain ⟨q, cap', e', g1, g2, g3, g4, g5⟩ := h.row (by omega)
  rw [e] at e'
  injection e' with e1 _ _
  exact ⟨q, 0, e1, fun j hj t y hy => by rw [Nat.zero_add]; exact g5 j hj t y hy⟩
theorem OwnG.r {T S : TypeId} {B : Nat} (L : GLaw cs m T S) (h : OwnG cs m T w B v l) (hl : l.length ≤ maxLen) (hB : B ≤ w.heap.size) : ∃ lo hi, B ≤ lo ∧ lo ≤ hi ∧ hi ≤ w.heap.size ∧ (∀ k, lo ≤ k → k < hi → v.ownBlock = some k) ∧ RowR cs m lo hi w v l := by
  by_cases h0 : 0 < l.length
  · obtain ⟨g, cap, rfl⟩ := h.shape' h0
    have hlt := h.lts g rfl
    refine ⟨g, g + 1, hlt.1, by omega, by omega, fun k h1 h2 => by show some g = some k; congr 1; omega, hl, ⟨_, _, rfl⟩, fun _ => ⟨g, cap, rfl, Nat.le_refl _, by omega, hlt.2, h.there L, fun j hj t y hy => ?_⟩⟩
    obtain ⟨_, a', cap', e, hc⟩ := h.sl L hl
    injection e with e1 _ _
    obtain ⟨b, off, e2, h2⟩ := hc j hj
    rw [← e1] at e2
    injection e2 with e2
    injection e2 with e3 e4
    subst e3 e4
    have := h2 j hj t y hy
    rwa [Nat.zero_add] at this
  · obtain ⟨a, cap, rfl⟩ := h.shape
    exact ⟨B, B, Nat.le_refl _, Nat.le_refl _, hB, fun k h1 h2 => by omega, hl, ⟨_, _, rfl⟩, fun h => absurd h h0⟩
end
theorem CopiedG.rr {α : Type} {cs : α → List Value} {m : Nat} {w wr : World} {l : List α} (h : CopiedG cs m w wr l l.length) (hl : l.length ≤ maxLen) : RowR cs m w.heap.size wr.heap.size wr (.slice (some ⟨w.heap.size, 0, none⟩) l.length l.length) l := by
  refine ⟨hl, ⟨_, _, rfl⟩, fun h0 => ⟨w.heap.size, _, rfl, Nat.le_refl _, h.size, h.size, h.there, fun j hj t y hy => ?_⟩⟩
  obtain ⟨_, a', cap', e, hc⟩ := h.sl hl
  injection e with e1 _ _
  obtain ⟨b, off, e2, h2⟩ := hc j hj
  rw [← e1] at e2
  injection e2 with e2
  injection e2 with e3 e4
  subst e3 e4
  have := h2 j hj t y hy
  rwa [Nat.zero_add] at this
/-- marked pairs, marked sessions -/
def mkPrs (k n : Nat) : List Pr := (List.range n).map fun i => ⟨mtx (k + 2 * i), mtx (k + 2 * i + 1)⟩
def mkSes (k n : Nat) : List Se := (List.range n).map fun i => ⟨((k + 4 * i : Nat) : Int), ((k + 4 * i + 1 : Nat) : Int), ((k + 4 * i + 2 : Nat) : Int), mtx (k + 4 * i + 3)⟩
theorem mkPrs_len (k n : Nat) : (mkPrs k n).length = n := by simp [mkPrs]
theorem mkSes_len (k n : Nat) : (mkSes k n).length = n := by simp [mkSes]
theorem mkPrs_get (k n j : Nat) (h : j < (mkPrs k n).length) : (mkPrs k n)[j] = ⟨mtx (k + 2 * j), mtx (k + 2 * j + 1)⟩ := by simp [mkPrs]
theorem mkSes_get (k n j : Nat) (h : j < (mkSes k n).length) : (mkSes k n)[j] = ⟨((k + 4 * j : Nat) : Int), ((k + 4 * j + 1 : Nat) : Int), ((k + 4 * j + 2 : Nat) : Int), mtx (k + 4 * j + 3)⟩ := by simp [mkSes]
def mkPrC (k : Nat) : List Value := [.string (mtx k), .string (mtx (k + 1))]
def mkSeC (k : Nat) : List Value := [.int .i64 k, .int .i64 (k + 1 : Nat), .int .i64 (k + 2 : Nat), .string (mtx (k + 3))]
theorem mkPrC_len (k : Nat) : (mkPrC k).length = 2 := rfl
theorem mkSeC_len (k : Nat) : (mkSeC k).length = 4 := rfl

end Go.Proofs.Ytelfejhopjbhpaa
