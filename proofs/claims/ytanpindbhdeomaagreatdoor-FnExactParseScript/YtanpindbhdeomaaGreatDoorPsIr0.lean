/-
  What a line of a script may turn in memory.
-/
import Derived.Test.YtanpindbhdeomaaGreatDoorPsLn
namespace Go.Proofs.YtanpindbhdeomaaGreatDoor
open Go.RowKit
set_option linter.unusedVariables false

/-- what a line may turn: the script's block, the steps' row -/
structure Gr2 (w : World) (b : Nat) (v : Value) (w' : World) (v' : Value) : Prop where
  os : w'.os = w.os
  tape : w'.tape = w.tape
  output : w'.output = w.output
  size : w.heap.size ≤ w'.heap.size
  block : ∀ k, k < w.heap.size → k ≠ b → some k ≠ v.ownBlock → w'.heap[k]? = w.heap[k]?
  at' : v'.ownBlock = v.ownBlock ∨ ∃ k, v'.ownBlock = some k ∧ w.heap.size ≤ k
theorem Gr2.below {w w' : World} (b : Nat) (v : Value) (h : Below w.heap.size w w') : Gr2 w b v w' v := ⟨h.os, h.tape, h.output, h.size, fun k hk _ _ => h.block k hk, .inl rfl⟩
theorem Gr2.of {w w1 w' : World} {b : Nat} (v : Value) (h : Below w.heap.size w w1) (h1 : w'.os = w1.os) (h2 : w'.tape = w1.tape) (h3 : w'.output = w1.output) (h4 : w'.heap.size = w1.heap.size) (h5 : ∀ k, k ≠ b → w'.heap[k]? = w1.heap[k]?) : Gr2 w b v w' v :=
  ⟨h1.trans h.os, h2.trans h.tape, h3.trans h.output, by have := h.size; omega, fun k hk hn _ => (h5 k hn).trans (h.block k hk), .inl rfl⟩
theorem Gr2.tail {w w1 w2 : World} {b : Nat} {v v' : Value} (h : Gr2 w b v w1 v') (hb : Below w.heap.size w1 w2) : Gr2 w b v w2 v' :=
  ⟨hb.os.trans h.os, hb.tape.trans h.tape, hb.output.trans h.output, Nat.le_trans h.size hb.size, fun k hk hn hv => (hb.block k hk).trans (h.block k hk hn hv), h.at'⟩
theorem Gr2.head {w w1 w2 : World} {b : Nat} {v v' : Value} (hb : Below w.heap.size w w1) (h : Gr2 w1 b v w2 v') : Gr2 w b v w2 v' :=
  ⟨h.os.trans hb.os, h.tape.trans hb.tape, h.output.trans hb.output, Nat.le_trans hb.size h.size, fun k hk hn hv => (h.block k (Nat.lt_of_lt_of_le hk hb.size) hn hv).trans (hb.block k hk), h.at'.imp id fun ⟨k, e, hk⟩ => ⟨k, e, Nat.le_trans hb.size hk⟩⟩
theorem Gr2.set {w w1 : World} {b : Nat} {v v' : Value} (h : Gr2 w b v w1 v') (i : Nat) (x : Value) : Gr2 w b v (w1.setCell ⟨b, i, none⟩ x) v' :=
  ⟨h.os, h.tape, h.output, by have := h.size; simp [World.setCell]; omega, fun k hk hn hv => (Below.heap_setCell _ _ _ _ hn).trans (h.block k hk hn hv), h.at'⟩
theorem Gr2.drew {w w1 : World} {b : Nat} {v v' : Value} (h : Gr2 w b v w1 v') : Gr2 w b v w1.drew v' := h.tail ((Below.refl _ _).drew)
theorem Gr2.wide {w w1 : World} {b : Nat} (h : Gr2 w b (.slice none 0 0) w1 (.slice none 0 0)) (v : Value) : Gr2 w b v w1 v :=
  ⟨h.os, h.tape, h.output, h.size, fun k hk hn _ => h.block k hk hn (by simp [Value.ownBlock]), .inl rfl⟩
end Go.Proofs.YtanpindbhdeomaaGreatDoor
