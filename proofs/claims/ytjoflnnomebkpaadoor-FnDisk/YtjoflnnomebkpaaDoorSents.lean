/-
  The nine sentinels.
-/
import Derived.Test.YtjoflnnomebkpaaDoorGround2
import Derived.Test.YtjoflnnomebkpaaDoorGround
namespace Go.Proofs.YtjoflnnomebkpaaDoor
open Go.RowKit Go.Extern.Stop Go.Stop Go.Extern
set_option linter.unusedVariables false

/-- the nine sentinels lie at A 1 .. A 9 -/
structure Sents (w : World) (A : Nat → Addr) (B : Nat) : Prop where
  g1 : w.cell? ⟨9, 0, none⟩ = some (sentV (A 1))
  g2 : w.cell? ⟨10, 0, none⟩ = some (sentV (A 2))
  g3 : w.cell? ⟨4, 0, none⟩ = some (sentV (A 3))
  g4 : w.cell? ⟨5, 0, none⟩ = some (sentV (A 4))
  g5 : w.cell? ⟨6, 0, none⟩ = some (sentV (A 5))
  g6 : w.cell? ⟨7, 0, none⟩ = some (sentV (A 6))
  g7 : w.cell? ⟨2, 0, none⟩ = some (sentV (A 7))
  g8 : w.cell? ⟨3, 0, none⟩ = some (sentV (A 8))
  g9 : w.cell? ⟨8, 0, none⟩ = some (sentV (A 9))
  row : ∀ i, 1 ≤ i → i ≤ 9 → ∃ c t, w.heap[(A i).block]? = some (.cells c t (0, 0))
  ne : ∀ i j, 1 ≤ i → i ≤ 9 → 1 ≤ j → j ≤ 9 → i ≠ j → A i ≠ A j
  gl : 11 ≤ B
  lt : ∀ i, 1 ≤ i → i ≤ 9 → (A i).block < B
  le : B ≤ w.heap.size

theorem Sents.kept {w w' : World} {A : Nat → Addr} {B : Nat} (h : Sents w A B) (hb : Below B w w') : Sents w' A B := by
  have hg := h.gl
  have c : ∀ {k o : Nat} {v : Value}, k < B → w.cell? ⟨k, o, none⟩ = some v → w'.cell? ⟨k, o, none⟩ = some v := fun {k o v} hk hc => by rw [hb.cell (p := ⟨k, o, none⟩) hk]; exact hc
  refine ⟨c (by omega) h.g1, c (by omega) h.g2, c (by omega) h.g3, c (by omega) h.g4, c (by omega) h.g5, c (by omega) h.g6, c (by omega) h.g7, c (by omega) h.g8, c (by omega) h.g9, fun i h1 h6 => ?_, h.ne, hg, h.lt, Nat.le_trans h.le hb.size⟩
  obtain ⟨x, t, e⟩ := h.row i h1 h6
  exact ⟨x, t, (hb.block _ (h.lt i h1 h6)).trans e⟩
theorem Sents.below {w w' : World} {A : Nat → Addr} {B : Nat} (h : Sents w A B) (hb : Below w.heap.size w w') : Sents w' A B := h.kept (hb.mono h.le)

theorem is_at {w : World} {A : Nat → Addr} {B : Nat} (hs : Sents w A B) (i j : Nat) (f : Int) (h1 : 1 ≤ i) (h6 : i ≤ 9) (k1 : 1 ≤ j) (k6 : j ≤ 9) :
    Calls Tryd.prog 86 #[refV (A i) f, sentV (A j)] w fun e w' => e = .returned (.bool (decide (i = j))) ∧ Below w.heap.size w w' := by
  by_cases e : i = j
  · subst e
    simpa using is_same (A i) f w
  · obtain ⟨c, t, hc⟩ := hs.row i h1 h6
    obtain ⟨c', t', hc'⟩ := hs.row j k1 k6
    simpa [e] using is_other (A i) (A j) f c c' t t' w (hs.ne i j h1 h6 k1 k6 e) hc hc'
end Go.Proofs.YtjoflnnomebkpaaDoor
