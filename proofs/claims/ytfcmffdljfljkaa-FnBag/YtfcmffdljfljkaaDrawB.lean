/-
  Draws: the source over what else is written.
-/
import Derived.Test.YtfcmffdljfljkaaDrawW
import Derived.Test.YtfcmffdljfljkaaGround
namespace Go.Proofs.Ytfcmffdljfljkaa
open Go.RowKit
set_option linter.unusedVariables false
set_option linter.unusedSimpArgs false

theorem Src.alloc {w : World} {g : Nat} {v : Value} {l : List Int} {k : Nat} (h : Src w g v l k) (o : Obj) : Src (w.alloc o) g v l k := h.below ((Below.refl _ _).alloc (Nat.le_refl _) _)
theorem Src.lt {w : World} {g : Nat} {v : Value} {l : List Int} {k : Nat} (h : Src w g v l k) : g < w.heap.size := h.1

/-- no byte among the cells -/
def NoU8 (C : Array Value) : Prop := ∀ (j : Nat) (n : Int), C[j]? ≠ some (Value.int .u8 n)
def isU8 : Value → Bool
  | .int .u8 _ => true
  | _ => false
theorem noU8_of {C : Array Value} (h : C.toList.all (fun x => !isU8 x) = true) : NoU8 C := fun j n e => by
  have hm : (.int .u8 n : Value) ∈ C.toList := by
    rw [← Array.getElem?_toList] at e
    exact List.mem_of_getElem? e
  have := List.all_eq_true.1 h _ hm
  simp [isU8] at this

theorem Src.setB {w : World} {g : Nat} {v : Value} {l : List Int} {k b : Nat} {C : Array Value} {t : TypeId} (h : Src w g v l k) (hb : Blk w b C t) (hne : b ≠ g) (j : Nat) (hj : j < C.size) (hn : NoU8 C) (y : Value) : Src (w.setCell ⟨b, j, none⟩ y) g v l k := by
  obtain ⟨h1, h2, h3, h4, h5⟩ := h
  have hc : w.cell? ⟨b, j, none⟩ = some C[j] := by rw [hb.cell j]; exact Array.getElem?_eq_getElem hj
  refine ⟨by simpa [World.setCell] using h1, fun i => by rw [World.frozen?_setCell]; exact h2 i, src_set h3 hc (fun n e => hn j n (by rw [Array.getElem?_eq_getElem hj, e])) y, ?_, ?_⟩
  · rw [World.cell?_setCell_other _ _ _ _ (by intro e; injection e with e _ _; exact hne e)]; exact h4
  · rw [World.cell?_setCell_other _ _ _ _ (by intro e; injection e with e _ _; exact hne e)]; exact h5
theorem Src.row {w : World} {g : Nat} {v : Value} {l : List Int} {k b : Nat} {C : Array Value} {t : TypeId} (h : Src w g v l k) (hb : Blk w b C t) (hne : b ≠ g) (hn : NoU8 C) (C' : Array Value) : Src (w.setRow b C') g v l k := by
  obtain ⟨h1, h2, ⟨hl, h8, a, cap, rfl, hc⟩, h4, h5⟩ := h
  have hg : (w.setRow b C').heap[g]? = w.heap[g]? := setRow_other w b g C' (fun e => hne e.symm)
  have hlt : g < (w.setRow b C').heap.size := by
    rcases Nat.lt_or_ge g (w.setRow b C').heap.size with h' | h'
    · exact h'
    · rw [Array.getElem?_eq_none h', Array.getElem?_eq_getElem h1] at hg
      cases hg
  refine ⟨hlt, fun i => ?_, ⟨hl, h8, a, cap, rfl, fun i hi => ?_⟩, (World.cell?_of_block (w := w) hg).trans h4, (World.cell?_of_block (w := w) hg).trans h5⟩
  · have := h2 i
    simp only [World.frozen?, hg] at this ⊢
    exact this
  · obtain ⟨b', off, rfl, hj⟩ := hc i hi
    refine ⟨b', off, rfl, fun m hm => ?_⟩
    by_cases e : b' = b
    · subst e
      have := hj m hm
      rw [hb.cell] at this
      exact absurd this (hn _ _)
    · exact (World.cell?_of_block (w := w) (setRow_other w b b' C' e)).trans (hj m hm)
theorem Blk.grown {w w' : World} {b g : Nat} {C : Array Value} {t : TypeId} (h : Blk w b C t) (hg : w.grownBy w' (some g)) (hne : b ≠ g) : Blk w' b C t :=
  h.keep (hg.block b h.lt (by intro e; injection e with e; exact hne e))
theorem grownBy_set_new {w w1 : World} {row : Option Nat} (h : w.grownBy w1 row) {b : Nat} (hb : w.heap.size ≤ b) (j : Nat) (x : Value) : w.grownBy (w1.setCell ⟨b, j, none⟩ x) row :=
  ⟨h.os, h.tape, h.output, by simpa [World.setCell] using h.size, fun k hk hne => (Below.heap_setCell _ _ _ _ (by simp only; omega)).trans (h.block k hk hne)⟩
theorem grownBy_row_new {w w1 : World} {row : Option Nat} (h : w.grownBy w1 row) {b : Nat} {C : Array Value} {t : TypeId} (hB : Blk w1 b C t) (hb : w.heap.size ≤ b) (C' : Array Value) : w.grownBy (w1.setRow b C') row := by
  exact ⟨h.os, h.tape, h.output, by simpa [World.setRow] using h.size, fun k hk hne => (setRow_other w1 b k C' (by omega)).trans (h.block k hk hne)⟩
end Go.Proofs.Ytfcmffdljfljkaa
