/-
  Gates: so that an arm is tried at its own operation alone.
-/
import Derived.Test.YtfcmffdljfljkaaMidBase
namespace Go.Proofs.Ytfcmffdljfljkaa
open Go.RowKit
set_option linter.unusedVariables false

theorem gate_store {P : Program} {w : World} {ops : Array Oper} {rest : List Oper} {o : Oper} {a : Act} {Q : Exit → Act → World → Prop} (ty : TypeId) (x y : Operand) (ho : o.op = .store ty x y)
    (h : wpList P ops Q (o :: rest) a w) : wpList P ops Q (o :: rest) a w := h
theorem gate_load {P : Program} {w : World} {ops : Array Oper} {rest : List Oper} {o : Oper} {a : Act} {Q : Exit → Act → World → Prop} (ty : TypeId) (x : Operand) (ho : o.op = .load ty x)
    (h : wpList P ops Q (o :: rest) a w) : wpList P ops Q (o :: rest) a w := h
theorem range_app {w : World} {b o : Nat} {xs ys : List Value} : w.rangeAt b o (xs ++ ys) ↔ w.rangeAt b o xs ∧ w.rangeAt b (o + xs.length) ys := by
  constructor
  · intro h
    refine ⟨fun j v hj => h j v ?_, fun j v hj => ?_⟩
    · rw [List.getElem?_append_left (List.getElem?_eq_some_iff.1 hj).1]; exact hj
    · have := h (xs.length + j) v (by rw [List.getElem?_append_right (by omega)]; simpa using hj)
      rwa [← Nat.add_assoc] at this
  · rintro ⟨h1, h2⟩ j v hj
    rcases Nat.lt_or_ge j xs.length with h | h
    · rw [List.getElem?_append_left h] at hj
      exact h1 j v hj
    · rw [List.getElem?_append_right h] at hj
      have := h2 (j - xs.length) v hj
      rwa [Nat.add_assoc, Nat.add_sub_cancel' h] at this
theorem range_splice {w : World} {b : Nat} (p m m' q : List Value) (h : w.rangeAt b 0 (p ++ (m ++ q))) (hl : m'.length = m.length) (ht : w.there b p.length m'.length) :
    (w.setCells b p.length m').rangeAt b 0 (p ++ (m' ++ q)) := by
  obtain ⟨h1, h2⟩ := range_app.1 h
  obtain ⟨h2, h3⟩ := range_app.1 h2
  rw [Nat.zero_add] at h2 h3
  refine range_app.2 ⟨World.rangeAt_setCells_apart h1 _ _ _ (by omega), range_app.2 ⟨?_, ?_⟩⟩
  · rw [Nat.zero_add]; exact World.rangeAt_setCells_same _ _ _ _ ht
  · rw [Nat.zero_add, hl]; exact World.rangeAt_setCells_apart h3 _ _ _ (by omega)
theorem there_part {w : World} {b n : Nat} (h : w.there b 0 n) (o k : Nat) (hk : o + k ≤ n) : w.there b o k := fun j hj => by
  have := h (o + j) (by omega)
  rwa [Nat.zero_add] at this
end Go.Proofs.Ytfcmffdljfljkaa
