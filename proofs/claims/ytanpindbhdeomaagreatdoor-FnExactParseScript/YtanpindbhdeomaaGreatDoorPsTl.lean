/-
  words[1:], whatever room there is.
-/
import Derived.Test.YtanpindbhdeomaaGreatDoorPsLu
namespace Go.Proofs.YtanpindbhdeomaaGreatDoor
open Go.RowKit
set_option linter.unusedVariables false
set_option linter.unusedSimpArgs false

section
variable {ops : Array Oper} {rest : List Oper} {o : Oper} {a : Act} {w : World} {Q : Exit → Act → World → Prop}
theorem gate_sl (ty : TypeId) (x : Operand) (lo hi mx : Option Operand) (ho : o.op = .slice ty x lo hi mx) (h : wpList Tryz.prog ops Q (o :: rest) a w) : wpList Tryz.prog ops Q (o :: rest) a w := h
set_option maxRecDepth 100000 in
set_option maxHeartbeats 400000 in
theorem tail_run (q n cq : Nat) (h1 : 1 ≤ n) (hc : n ≤ cq) (w : World) :
    (Instr.sliceAt 37 (.slice (some ⟨q, 0, none⟩) n cq) (some (.int .i64 1)) none none).run Tryz.prog w = .ok (if cq = 1 then .slice (some ⟨q, 0, none⟩) (n - 1) 0 else .slice (some ⟨q, 1, none⟩) (n - 1) (cq - 1)) w := by
  have h1i : (1 : Int) ≤ (n : Int) := by omega
  have hci : (n : Int) ≤ (cq : Int) := by omega
  by_cases h9 : cq = 1
  · rw [if_pos h9]
    subst h9
    go_simp
  · rw [if_neg h9]
    go_simp
set_option maxRecDepth 100000 in
set_option maxHeartbeats 400000 in
theorem wpl_tail (hgd : o.guard = none) (x : Operand) (ho : o.op = .slice 37 x (some (.const (.int .i64 1))) none none) (q n cq : Nat) (hx : a.eval x = .slice (some ⟨q, 0, none⟩) n cq) (h1 : 1 ≤ n) (hc : n ≤ cq)
    (h : ∀ v', v' = (if cq = 1 then .slice (some ⟨q, 0, none⟩) (n - 1) 0 else .slice (some ⟨q, 1, none⟩) (n - 1) (cq - 1)) → wpList Tryz.prog ops Q rest (a.put o.dst v') w) : wpList Tryz.prog ops Q (o :: rest) a w :=
  wpList_plain hgd fun K hK => by
    have h8 := hK _ _ (h _ rfl)
    unfold Oper.wp execOp
    have e1 : a.eval (.const (.int .i64 1)) = .int .i64 1 := rfl
    simp only [ho, hx, Option.map_some, Option.map_none, e1]

    simp only [Sem.run_bind, tail_run q n cq h1 hc, Result.andThen_ok, Sem.run_pure]
    exact h8
end
theorem words_row2 {z : World} {B : Nat} {v : Value} {ws : List (List UInt8)} (h : OwnG txC 1 9 z B v (ws.map sOf)) (h1 : 1 ≤ ws.length) (hl : ws.length ≤ 70000) :
    ∃ q cq, v = .slice (some ⟨q, 0, none⟩) ws.length cq ∧ ws.length ≤ cq ∧ q < z.heap.size ∧ B ≤ q ∧ z.cell? ⟨q, 0, none⟩ = some (.string (sOf (ws.getD 0 []))) ∧
      ∀ v', v' = (if cq = 1 then .slice (some ⟨q, 0, none⟩) (ws.length - 1) 0 else .slice (some ⟨q, 1, none⟩) (ws.length - 1) (cq - 1)) → Sl txC 1 z v' (ws.tail.map sOf) := by
  obtain ⟨q, cq, e, hc, hq, hB, h0, hs⟩ := words_row h h1 hl
  refine ⟨q, cq, e, hc, hq, hB, h0, ?_⟩
  rintro v' rfl
  by_cases h9 : cq = 1
  · rw [if_pos h9]
    have ht : ws.tail.map sOf = [] := by rw [← List.length_eq_zero_iff, List.length_map, List.length_tail]; omega
    rw [ht, show ws.length - 1 = 0 by omega]
    exact ⟨by unfold maxLen; simp, _, _, rfl, fun i hi => absurd hi (by simp)⟩
  · rw [if_neg h9]
    exact hs
end Go.Proofs.YtanpindbhdeomaaGreatDoor
