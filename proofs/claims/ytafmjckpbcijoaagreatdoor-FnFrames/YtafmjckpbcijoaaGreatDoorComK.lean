/-
  How many entries two logs have in common (pure).
-/
import Derived.Test.YtafmjckpbcijoaaGreatDoorEntEq
namespace Go.Proofs.YtafmjckpbcijoaaGreatDoor
open Go.RowKit
set_option linter.unusedVariables false
set_option linter.unusedSimpArgs false

def entEqB (a b : Ent) : Bool := a.t == b.t && cmdEqB a b
/-- how many entries the two lists have in common at their beginning -/
def comK : List Ent → List Ent → Nat
  | a :: l, b :: l' => if entEqB a b then comK l l' + 1 else 0
  | _, _ => 0
theorem comK_le : ∀ (l l' : List Ent), comK l l' ≤ l.length ∧ comK l l' ≤ l'.length
  | [], l' => by simp [comK]
  | a :: l, [] => by simp [comK]
  | a :: l, b :: l' => by
    have := comK_le l l'
    unfold comK
    split <;> simp <;> omega
theorem comK_step (l l' : List Ent) (k : Nat) (h : k < l.length) (h' : k < l'.length) : comK (l.drop k) (l'.drop k) = if entEqB l[k] l'[k] then comK (l.drop (k + 1)) (l'.drop (k + 1)) + 1 else 0 := by
  rw [List.drop_eq_getElem_cons h, List.drop_eq_getElem_cons h']
  rfl
theorem comK_end (l l' : List Ent) (k : Nat) (h : ¬ (k < l.length ∧ k < l'.length)) : comK (l.drop k) (l'.drop k) = 0 := by
  rcases Nat.lt_or_ge k l.length with h1 | h1
  · have h2 : l'.drop k = [] := List.drop_of_length_le (by omega)
    rw [h2]
    cases l.drop k <;> rfl
  · rw [List.drop_of_length_le h1]
    rfl

theorem entEqB_eq (a b : Ent) : entEqB a b = true ↔ a = b := by
  obtain ⟨t, cl, sq, op, k, v, o⟩ := a
  obtain ⟨t', cl', sq', op', k', v', o'⟩ := b
  simp only [entEqB, Bool.and_eq_true, beq_iff_eq, cmdEqB_iff, Ent.mk.injEq]
theorem comK_take : ∀ (l l' : List Ent), l.take (comK l l') = l'.take (comK l l')
  | [], l' => by simp [comK]
  | a :: l, [] => by simp [comK]
  | a :: l, b :: l' => by
    unfold comK
    split
    · next h =>
      rw [List.take_succ_cons, List.take_succ_cons, (entEqB_eq a b).1 h, comK_take l l']
    · simp
theorem comK_pre : ∀ (l l' : List Ent), comK l (l ++ l') = l.length
  | [], l' => by simp [comK]
  | a :: l, l' => by
    rw [List.cons_append, comK, if_pos ((entEqB_eq a a).2 rfl), comK_pre l l']
    rfl
theorem comK_self (l : List Ent) : comK l l = l.length := by
  have := comK_pre l []
  rwa [List.append_nil] at this
end Go.Proofs.YtafmjckpbcijoaaGreatDoor
