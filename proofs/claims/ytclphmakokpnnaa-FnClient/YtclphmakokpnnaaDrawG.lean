/-
  spec.l6drawClient: a well-formed client, the same for the same bytes and place.
-/
import Derived.Test.YtclphmakokpnnaaDrawI
namespace Go.Proofs.Ytclphmakokpnnaa
open Go.RowKit
set_option linter.unusedVariables false
set_option linter.unusedSimpArgs false

theorem callF_ok {cl sq op k v o : Int} (h1 : 1 ≤ cl ∧ cl ≤ 8) (h2 : 1 ≤ sq ∧ sq ≤ 1073741824) (h3 : 1 ≤ op ∧ op ≤ 4) (h4 : 1 ≤ k ∧ k ≤ 64) (h5 : v ≤ 64) (h6 : o ≤ 64) (h7 : op ≠ 2 ∧ op ≠ 4 → v = 0) (h8 : op ≠ 4 → o = 0) : callF cl sq op k v o = 0 := by
  have e : cmdF cl sq op k v o = 0 := by
    unfold cmdF
    rw [if_neg (by omega), if_neg (by omega), if_neg (by omega), if_neg (by omega), if_neg (by omega)]
    by_cases e2 : op = 2 ∨ op = 4
    · rw [if_pos e2, if_neg (by omega)]
      by_cases e4 : op = 4
      · rw [if_pos e4, if_neg (by omega)]
      · rw [if_neg e4, if_neg (by have := h8 e4; omega)]
    · have e4 : ¬ op = 4 := by omega
      have ho := h8 e4
      have hv := h7 (by omega)
      rw [if_neg e2, if_neg e4, if_neg (by omega), if_neg (by omega)]
  unfold callF
  rw [if_neg (by omega), e]
theorem sizB_of {p : Nat} (h : p < 3) : sizB (3 + 2 * (p : Int)) = true := by
  rcases (show p = 0 ∨ p = 1 ∨ p = 2 by omega) with rfl | rfl | rfl <;> rfl
theorem idle_ok {id sv rt sq tg : Int} (h1 : 1 ≤ id ∧ id ≤ 8) (h2 : sizB sv = true) (h3 : 1 ≤ rt ∧ rt ≤ 1000) (h4 : 0 ≤ sq ∧ sq ≤ 1073741824) (h5 : 1 ≤ tg ∧ tg ≤ sv) : (Cli.mk id sv rt sq 0 tg 0 0 0 0 ⟨#[]⟩ ⟨#[]⟩ ⟨#[]⟩).ok :=
  ⟨cliB_mk h1 h2 h3 h4 h5 (by show 0 ≤ (0 : Int) ∧ (0 : Int) ≤ rt - 1; omega) (by show openB id sq 0 0 0 0 0 ⟨#[]⟩ ⟨#[]⟩ ⟨#[]⟩ = true; unfold openB zcB; rw [emptyL]; rfl), by simp [ByteArray.size], by simp [ByteArray.size], by simp [ByteArray.size]⟩
theorem busy_ok {id sv rt sq tg wt : Int} (l : List Int) (k : Nat) (h1 : 1 ≤ id ∧ id ≤ 8) (h2 : sizB sv = true) (h3 : 1 ≤ rt ∧ rt ≤ 1000) (h4 : 1 ≤ sq ∧ sq ≤ 1073741824) (h5 : 1 ≤ tg ∧ tg ≤ sv) (h6 : 0 ≤ wt ∧ wt ≤ rt - 1) : (Cli.mk id sv rt sq 1 tg wt id sq (cmdOp l k) (cmdKy l k) (cmdVl l k) (cmdOl l k)).ok := by
  have f := cmd_facts l k
  refine ⟨cliB_mk h1 h2 h3 (by show 0 ≤ sq ∧ sq ≤ 1073741824; omega) h5 h6 ?_, f.2.2.2.2.2.2.2.1, f.2.2.2.2.2.2.2.2.1, f.2.2.2.2.2.2.2.2.2.1⟩
  show openB id sq 1 wt id sq (cmdOp l k) (cmdKy l k) (cmdVl l k) (cmdOl l k) = true
  have e := callF_ok (k := ((cmdKy l k).size : Nat)) (v := ((cmdVl l k).size : Nat)) (o := ((cmdOl l k).size : Nat)) h1 h4 ⟨f.2.2.2.2.1, f.2.2.2.2.2.1⟩ (by omega) (by omega) (by omega) (fun h => by have := f.2.2.2.2.2.2.2.2.2.2.1 h; omega) (fun h => by have := f.2.2.2.2.2.2.2.2.2.2.2 h; omega)
  unfold openB
  simp [e]

set_option maxHeartbeats 1000000 in
theorem l6drawClient_ex (l : List Int) (k : Nat) (hL : l.length ≤ 1048576) (hk : k ≤ 600000000) : ∃ (c : Cli) (k' : Nat), k ≤ k' ∧ k' ≤ k + 40 ∧ c.ok ∧ ∀ (g : Nat) (w : World) (v : Value), Src w g v l k →
    Calls Try.prog 32 #[.pointer (some ⟨g, 0, none⟩)] w fun r w' => r = .returned (.agg #[.int .i64 c.id, .int .i64 c.sv, .int .i64 c.rt, .int .i64 c.sq, .int .i64 c.bs, .int .i64 c.tg, .int .i64 c.wt, .int .i64 c.ccl, .int .i64 c.csq, .int .i64 c.cop, .string c.ck, .string c.cv, .string c.co]) ∧ Src w' g v l k' ∧ w.grownBy w' (some g) := by
  have p0 := pickV_lt l k 8 (by omega)
  have p1 := pickV_lt l (k + 1) 3 (by omega)
  have p2 := pickV_lt l (k + 1 + 1) 6 (by omega)
  have p3 := pickV_lt l (k + 1 + 1 + 1) 9 (by omega)
  have p4 := pickV_lt l (k + 1 + 1 + 1 + 1) (3 + 2 * pickV l (k + 1) 3) (by omega)
  have p6 := pickV_lt l (k + 1 + 1 + 1 + 1 + 1 + 1) 2 (by omega)
  have q1 : 1 ≤ (1 + (pickV l k 8 : Nat) : Int) ∧ (1 + (pickV l k 8 : Nat) : Int) ≤ 8 := by omega
  have q2 := sizB_of p1
  have q3 : 1 ≤ (1 + (pickV l (k + 1 + 1) 6 : Nat) : Int) ∧ (1 + (pickV l (k + 1 + 1) 6 : Nat) : Int) ≤ 1000 := by omega
  have q5 : 1 ≤ (1 + (pickV l (k + 1 + 1 + 1 + 1) (3 + 2 * pickV l (k + 1) 3) : Nat) : Int) ∧ (1 + (pickV l (k + 1 + 1 + 1 + 1) (3 + 2 * pickV l (k + 1) 3) : Nat) : Int) ≤ 3 + 2 * (pickV l (k + 1) 3 : Nat) := by omega
  by_cases hp : pickV l (k + 1 + 1 + 1 + 1 + 1) 14 = 0
  · by_cases hm : pickV l (k + 1 + 1 + 1 + 1 + 1 + 1) 2 = 0
    · skip
      by_cases hb : pickV l ((k + 1 + 1 + 1 + 1 + 1 + 1) + 1) 3 = 0
      · skip
        exact ⟨⟨1 + (pickV l k 8 : Nat), 3 + 2 * (pickV l (k + 1) 3 : Nat), 1 + (pickV l (k + 1 + 1) 6 : Nat), 1073741824, 0, 1 + (pickV l (k + 1 + 1 + 1 + 1) (3 + 2 * pickV l (k + 1) 3) : Nat), 0, 0, 0, 0, ⟨#[]⟩, ⟨#[]⟩, ⟨#[]⟩⟩, (((k + 1 + 1 + 1 + 1 + 1 + 1) + 1) + 1), by omega, by omega, idle_ok q1 q2 q3 (by omega) q5, fun g w v h => l6drawClient_11 g w v l k hL hk h hp hm hb⟩
      · replace hb : 0 < pickV l ((k + 1 + 1 + 1 + 1 + 1 + 1) + 1) 3 := by omega
        have hc := cmdK_le l (((k + 1 + 1 + 1 + 1 + 1 + 1) + 1) + 1)
        have pw := pickV_lt l (cmdK l (((k + 1 + 1 + 1 + 1 + 1 + 1) + 1) + 1)) (1 + pickV l (k + 1 + 1) 6) (by omega)
        exact ⟨⟨1 + (pickV l k 8 : Nat), 3 + 2 * (pickV l (k + 1) 3 : Nat), 1 + (pickV l (k + 1 + 1) 6 : Nat), 1073741824, 1, 1 + (pickV l (k + 1 + 1 + 1 + 1) (3 + 2 * pickV l (k + 1) 3) : Nat), (pickV l (cmdK l (((k + 1 + 1 + 1 + 1 + 1 + 1) + 1) + 1)) (1 + pickV l (k + 1 + 1) 6) : Nat), 1 + (pickV l k 8 : Nat), 1073741824, cmdOp l (((k + 1 + 1 + 1 + 1 + 1 + 1) + 1) + 1), cmdKy l (((k + 1 + 1 + 1 + 1 + 1 + 1) + 1) + 1), cmdVl l (((k + 1 + 1 + 1 + 1 + 1 + 1) + 1) + 1), cmdOl l (((k + 1 + 1 + 1 + 1 + 1 + 1) + 1) + 1)⟩, (cmdK l (((k + 1 + 1 + 1 + 1 + 1 + 1) + 1) + 1)) + 1, by omega, by omega, busy_ok l (((k + 1 + 1 + 1 + 1 + 1 + 1) + 1) + 1) q1 q2 q3 (by omega) q5 (by omega), fun g w v h => l6drawClient_12 g w v l k hL hk h hp hm hb⟩
    · replace hm : pickV l (k + 1 + 1 + 1 + 1 + 1 + 1) 2 = 1 := by omega
      by_cases hb : pickV l ((k + 1 + 1 + 1 + 1 + 1 + 1) + 1) 3 = 0
      · skip
        exact ⟨⟨1 + (pickV l k 8 : Nat), 3 + 2 * (pickV l (k + 1) 3 : Nat), 1 + (pickV l (k + 1 + 1) 6 : Nat), 1073741823, 0, 1 + (pickV l (k + 1 + 1 + 1 + 1) (3 + 2 * pickV l (k + 1) 3) : Nat), 0, 0, 0, 0, ⟨#[]⟩, ⟨#[]⟩, ⟨#[]⟩⟩, (((k + 1 + 1 + 1 + 1 + 1 + 1) + 1) + 1), by omega, by omega, idle_ok q1 q2 q3 (by omega) q5, fun g w v h => l6drawClient_21 g w v l k hL hk h hp hm hb⟩
      · replace hb : 0 < pickV l ((k + 1 + 1 + 1 + 1 + 1 + 1) + 1) 3 := by omega
        have hc := cmdK_le l (((k + 1 + 1 + 1 + 1 + 1 + 1) + 1) + 1)
        have pw := pickV_lt l (cmdK l (((k + 1 + 1 + 1 + 1 + 1 + 1) + 1) + 1)) (1 + pickV l (k + 1 + 1) 6) (by omega)
        exact ⟨⟨1 + (pickV l k 8 : Nat), 3 + 2 * (pickV l (k + 1) 3 : Nat), 1 + (pickV l (k + 1 + 1) 6 : Nat), 1073741823, 1, 1 + (pickV l (k + 1 + 1 + 1 + 1) (3 + 2 * pickV l (k + 1) 3) : Nat), (pickV l (cmdK l (((k + 1 + 1 + 1 + 1 + 1 + 1) + 1) + 1)) (1 + pickV l (k + 1 + 1) 6) : Nat), 1 + (pickV l k 8 : Nat), 1073741823, cmdOp l (((k + 1 + 1 + 1 + 1 + 1 + 1) + 1) + 1), cmdKy l (((k + 1 + 1 + 1 + 1 + 1 + 1) + 1) + 1), cmdVl l (((k + 1 + 1 + 1 + 1 + 1 + 1) + 1) + 1), cmdOl l (((k + 1 + 1 + 1 + 1 + 1 + 1) + 1) + 1)⟩, (cmdK l (((k + 1 + 1 + 1 + 1 + 1 + 1) + 1) + 1)) + 1, by omega, by omega, busy_ok l (((k + 1 + 1 + 1 + 1 + 1 + 1) + 1) + 1) q1 q2 q3 (by omega) q5 (by omega), fun g w v h => l6drawClient_22 g w v l k hL hk h hp hm hb⟩
  · replace hp : 0 < pickV l (k + 1 + 1 + 1 + 1 + 1) 14 := by omega
    by_cases hq : pickV l (k + 1 + 1 + 1) 9 = 0
    · skip
      exact ⟨⟨1 + (pickV l k 8 : Nat), 3 + 2 * (pickV l (k + 1) 3 : Nat), 1 + (pickV l (k + 1 + 1) 6 : Nat), 0, 0, 1 + (pickV l (k + 1 + 1 + 1 + 1) (3 + 2 * pickV l (k + 1) 3) : Nat), 0, 0, 0, 0, ⟨#[]⟩, ⟨#[]⟩, ⟨#[]⟩⟩, (k + 1 + 1 + 1 + 1 + 1 + 1), by omega, by omega, idle_ok q1 q2 q3 (by omega) q5, fun g w v h => l6drawClient_00 g w v l k hL hk h hp hq⟩
    · replace hq : 0 < pickV l (k + 1 + 1 + 1) 9 := by omega
      by_cases hb : pickV l (k + 1 + 1 + 1 + 1 + 1 + 1) 3 = 0
      · skip
        exact ⟨⟨1 + (pickV l k 8 : Nat), 3 + 2 * (pickV l (k + 1) 3 : Nat), 1 + (pickV l (k + 1 + 1) 6 : Nat), (pickV l (k + 1 + 1 + 1) 9 : Nat), 0, 1 + (pickV l (k + 1 + 1 + 1 + 1) (3 + 2 * pickV l (k + 1) 3) : Nat), 0, 0, 0, 0, ⟨#[]⟩, ⟨#[]⟩, ⟨#[]⟩⟩, ((k + 1 + 1 + 1 + 1 + 1 + 1) + 1), by omega, by omega, idle_ok q1 q2 q3 (by omega) q5, fun g w v h => l6drawClient_01 g w v l k hL hk h hp hq hb⟩
      · replace hb : 0 < pickV l (k + 1 + 1 + 1 + 1 + 1 + 1) 3 := by omega
        have hc := cmdK_le l ((k + 1 + 1 + 1 + 1 + 1 + 1) + 1)
        have pw := pickV_lt l (cmdK l ((k + 1 + 1 + 1 + 1 + 1 + 1) + 1)) (1 + pickV l (k + 1 + 1) 6) (by omega)
        exact ⟨⟨1 + (pickV l k 8 : Nat), 3 + 2 * (pickV l (k + 1) 3 : Nat), 1 + (pickV l (k + 1 + 1) 6 : Nat), (pickV l (k + 1 + 1 + 1) 9 : Nat), 1, 1 + (pickV l (k + 1 + 1 + 1 + 1) (3 + 2 * pickV l (k + 1) 3) : Nat), (pickV l (cmdK l ((k + 1 + 1 + 1 + 1 + 1 + 1) + 1)) (1 + pickV l (k + 1 + 1) 6) : Nat), 1 + (pickV l k 8 : Nat), (pickV l (k + 1 + 1 + 1) 9 : Nat), cmdOp l ((k + 1 + 1 + 1 + 1 + 1 + 1) + 1), cmdKy l ((k + 1 + 1 + 1 + 1 + 1 + 1) + 1), cmdVl l ((k + 1 + 1 + 1 + 1 + 1 + 1) + 1), cmdOl l ((k + 1 + 1 + 1 + 1 + 1 + 1) + 1)⟩, (cmdK l ((k + 1 + 1 + 1 + 1 + 1 + 1) + 1)) + 1, by omega, by omega, busy_ok l ((k + 1 + 1 + 1 + 1 + 1 + 1) + 1) q1 q2 q3 (by omega) q5 (by omega), fun g w v h => l6drawClient_02 g w v l k hL hk h hp hq hb⟩
end Go.Proofs.Ytclphmakokpnnaa
