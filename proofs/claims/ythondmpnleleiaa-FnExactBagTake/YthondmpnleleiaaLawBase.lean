/-
  What a law's walk carries: objects that lie in a span of blocks, and calls that turn one span alone.
-/
import Derived.Test.YthondmpnleleiaaMarks
namespace Go.Proofs.Ythondmpnleleiaa
open Go.RowKit
set_option linter.unusedVariables false

/-- of the blocks that were there, only those of the span [lo, hi) have turned -/
structure Turned (lo hi : Nat) (w w' : World) : Prop where
  os : w'.os = w.os
  tape : w'.tape = w.tape
  output : w'.output = w.output
  size : w.heap.size ≤ w'.heap.size
  block : ∀ k, k < w.heap.size → (k < lo ∨ hi ≤ k) → w'.heap[k]? = w.heap[k]?
theorem Turned.grown {w w' : World} {q lo hi : Nat} (h : w.grownBy w' (some q)) (h1 : lo ≤ q) (h2 : q < hi) : Turned lo hi w w' :=
  ⟨h.os, h.tape, h.output, h.size, fun k hk hn => h.block k hk (fun e => by injection e with e; omega)⟩
theorem Turned.rows {w w' : World} {row : Option Nat} {lo hi : Nat} (h : w.grownBy w' row) (h1 : ∀ k, row = some k → lo ≤ k ∧ k < hi) : Turned lo hi w w' :=
  ⟨h.os, h.tape, h.output, h.size, fun k hk hn => h.block k hk (fun e => by have := h1 k e.symm; omega)⟩
theorem Turned.of_below {w w' : World} (lo hi : Nat) (h : Below w.heap.size w w') : Turned lo hi w w' := ⟨h.os, h.tape, h.output, h.size, fun k hk _ => h.block k hk⟩
theorem Turned.trans {w w1 w2 : World} {lo hi : Nat} (h : Turned lo hi w w1) (k : Turned lo hi w1 w2) : Turned lo hi w w2 :=
  ⟨k.os.trans h.os, k.tape.trans h.tape, k.output.trans h.output, Nat.le_trans h.size k.size, fun i hi' hn => (k.block i (Nat.lt_of_lt_of_le hi' h.size) hn).trans (h.block i hi' hn)⟩
theorem Turned.wide {w w' : World} {lo hi lo' hi' : Nat} (h : Turned lo hi w w') (h1 : lo' ≤ lo) (h2 : hi ≤ hi') : Turned lo' hi' w w' :=
  ⟨h.os, h.tape, h.output, h.size, fun k hk hn => h.block k hk (by omega)⟩
theorem Turned.cell {w w' : World} {lo hi : Nat} (h : Turned lo hi w w') {b o : Nat} (hb : b < w.heap.size) (hn : b < lo ∨ hi ≤ b) : w'.cell? ⟨b, o, none⟩ = w.cell? ⟨b, o, none⟩ :=
  World.cell?_of_block (w := w) (h.block b hb hn)
theorem Turned.below {w w' : World} {lo hi B : Nat} (h : Turned lo hi w w') (hB : B ≤ lo) (hs : B ≤ w.heap.size) : Below B w w' :=
  ⟨h.os, h.tape, h.output, h.size, fun k hk => h.block k (by omega) (by omega)⟩

/-- bytes of one's own in the span [lo, hi) -/
structure BytesN (lo hi : Nat) (w : World) (v : Value) (l : List Int) : Prop where
  own : Own w lo v l
  lt : ∀ k, v.ownBlock = some k → lo ≤ k ∧ k < hi
theorem BytesN.of {w : World} {lo : Nat} {v : Value} {l : List Int} (h : Own w lo v l) : BytesN lo w.heap.size w v l := ⟨h, fun k e => h.2.lt k e⟩
theorem BytesN.keep {w w' : World} {lo hi : Nat} {v : Value} {l : List Int} (h : BytesN lo hi w v l) (hk : ∀ k, lo ≤ k → k < hi → w'.heap[k]? = w.heap[k]?) : BytesN lo hi w' v l := by
  refine ⟨⟨h.own.1, h.own.2.1, ?_⟩, h.lt⟩
  rcases h.own.2.2 with h' | ⟨g, cap, cur, hv, hg', hh, r⟩
  · exact .inl h'
  · have hl := h.lt g (by rw [hv]; rfl)
    exact .inr ⟨g, cap, cur, hv, hg', (hk g hl.1 hl.2).trans hh, r⟩
theorem BytesN.bs {w : World} {lo hi : Nat} {v : Value} {l : List Int} (h : BytesN lo hi w v l) (hl : l.length ≤ maxLen) : Bs w v l := h.own.bs hl
theorem BytesN.wide {w : World} {lo hi lo' hi' : Nat} {v : Value} {l : List Int} (h : BytesN lo hi w v l) (h1 : lo' ≤ lo) (h2 : hi ≤ hi') : BytesN lo' hi' w v l :=
  ⟨h.own.le h1, fun k e => by have := h.lt k e; omega⟩
end Go.Proofs.Ythondmpnleleiaa
