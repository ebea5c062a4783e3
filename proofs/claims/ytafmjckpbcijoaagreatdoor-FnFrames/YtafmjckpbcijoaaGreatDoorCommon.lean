/-
  laws.common, laws.sameLog.
-/
import Derived.Test.YtafmjckpbcijoaaGreatDoorComK
import Derived.BigQuiet
import Derived.Deep.QuietTactic
namespace Go.Proofs.YtafmjckpbcijoaaGreatDoor
open Go.RowKit
set_option linter.unusedVariables false
set_option linter.unusedSimpArgs false

def sameB (l l' : List Ent) : Bool := l.length == l'.length && comK l l' == l.length
theorem sameB_self (l : List Ent) : sameB l l = true := by simp [sameB, comK_self]
set_option maxHeartbeats 8000000 in
set_option maxRecDepth 100000 in
theorem common_any (v u : Value) (l l' : List Ent) (w : World) (hv : Es w v l) (hu : Es w u l') (hll : l.length ≤ 1048576) (hll' : l'.length ≤ 1048576) :
    Calls Tryz.prog 65 #[v, u] w fun e w' => e = .returned (.int .i64 (comK l l' : Nat)) ∧ ∃ n, w' = w.drewN n := by
  obtain ⟨hl, hf, a, cap, rfl, hc⟩ := hv
  obtain ⟨hl', hf', a', cap', rfl, hc'⟩ := hu
  go_enter Tryz.func65, Tryz.ntmps65
  go_wp2
  go_loopw [5] (fun i wr => ∃ k : Nat, k ≤ l.length ∧ k ≤ l'.length ∧ i = .int .i64 k ∧ comK l l' = k + comK (l.drop k) (l'.drop k) ∧ ∃ n, wr = w.drewN n) (fun i _ => l.length - (intOf i).toNat)
  case atStart => exact ⟨0, Nat.zero_le _, Nat.zero_le _, rfl, by simp, 0, rfl⟩
  case round =>
    obtain ⟨k, hk, hk', rfl, hcom, nd, rfl⟩ := hrel
    have HC : Hid (comK l l' = k + comK (l.drop k) (l'.drop k)) := hcom
    clear hcom
    by_cases hlt : k < l.length ∧ k < l'.length
    · obtain ⟨hlt, hlt'⟩ := hlt
      obtain ⟨b, off, rfl, hj⟩ := hc k hlt
      obtain ⟨b', off', rfl, hj'⟩ := hc' k hlt'
      obtain ⟨c0, c1, c2, c3, c4, c5, c6⟩ := hj k hlt
      obtain ⟨d0, d1, d2, d3, d4, d5, d6⟩ := hj' k hlt'
      have HS : Hid (comK (l.drop k) (l'.drop k) = if entEqB l[k] l'[k] then comK (l.drop (k + 1)) (l'.drop (k + 1)) + 1 else 0) := comK_step l l' k hlt hlt'
      clear hc hj hc' hj'
      generalize l[k] = e at *
      generalize l'[k] = e' at *
      have hE : ∀ u : World, (Op.equalIn 10000 87 (.agg #[.int .i64 e.t, .int .i64 e.cl, .int .i64 e.sq, .int .i64 e.op, .string e.k, .string e.v, .string e.o]) (.agg #[.int .i64 e'.t, .int .i64 e'.cl, .int .i64 e'.sq, .int .i64 e'.op, .string e'.k, .string e'.v, .string e'.o])).run Tryz.prog u = .ok (entEqB e e') u := fun u => eqEnt_run 9997 e e' u
      cases hq : entEqB e e'
      · rw [hq] at hE HS
        go_wp2
        go_quiet (fail)
        go_wp2
        go_ret
        exact ⟨by rw [HC.out, HS.out]; simp, nd + nq, by rw [World.drewN_drewN]⟩
      · rw [hq] at hE HS
        go_wp2
        go_quiet (fail)
        go_wp2
        go_roundw
        case rel => exact ⟨k + 1, by omega, by omega, by go_num, by rw [HC.out, HS.out]; simp; omega, _, rfl⟩
        case measure => simp [intOf]; omega
    · have hend : Hid (comK (l.drop k) (l'.drop k) = 0) := comK_end l l' k hlt
      by_cases hs : k < l.length
      · have hk2 : ¬ k < l'.length := by omega
        go_wp2
        go_quiet (fail)
        go_wp2
        go_ret
        exact ⟨by rw [HC.out, hend.out]; simp, nd + nq, by rw [World.drewN_drewN]⟩
      · go_wp2
        go_quiet (fail)
        go_wp2
        go_ret
        exact ⟨by rw [HC.out, hend.out]; simp, nd + nq, by rw [World.drewN_drewN]⟩
set_option maxHeartbeats 8000000 in
set_option maxRecDepth 100000 in
theorem sameLog_any (v u : Value) (l l' : List Ent) (w : World) (hv : Es w v l) (hu : Es w u l') (hll : l.length ≤ 1048576) (hll' : l'.length ≤ 1048576) :
    Calls Tryz.prog 40 #[v, u] w fun e w' => e = .returned (.bool (sameB l l')) ∧ ∃ n, w' = w.drewN n := by
  have hc0 := common_any v u l l' w hv hu hll hll'
  obtain ⟨hl, hf, a, cap, rfl, hc⟩ := hv
  obtain ⟨hl', hf', a', cap', rfl, hc'⟩ := hu
  unfold maxLen at hl hl'
  clear hc hc' hf hf'
  have hS : sameB l l' = (l.length == l'.length && comK l l' == l.length) := rfl
  generalize sameB l l' = S at *
  generalize comK l l' = K at *
  generalize l.length = n at *
  generalize l'.length = n' at *
  have HC : Hid (Calls Tryz.prog 65 #[.slice a n cap, .slice a' n' cap'] w fun e w' => e = .returned (.int .i64 (K : Nat)) ∧ ∃ n, w' = w.drewN n) := hc0
  have HS : Hid (S = (n == n' && K == n)) := hS
  clear hc0 hS
  by_cases h : n = n'
  · subst h
    have hs : S = ((K : Int) == (n : Int)) := by
      rw [HS.out, beq_self_eq_true, Bool.true_and]
      by_cases hh : K = n
      · simp [hh]
      · rw [beq_eq_false_iff_ne.2 hh, eq_comm, beq_eq_false_iff_ne]; omega
    have Hs : Hid (S = ((K : Int) == (n : Int))) := hs
    clear hs
    go_enter Tryz.func40, Tryz.ntmps40
    go_wp2_with (go_at_call 65; refine HC.out.mono ?_; rintro e w1 ⟨rfl, nd, rfl⟩)
    go_ret
    exact ⟨by rw [Hs.out]; rfl, _, rfl⟩
  · have hd : ((n : Int) == (n' : Int)) = false := by rw [beq_eq_false_iff_ne]; omega
    have hs : Hid (S = false) := (by rw [HS.out]; simp [h] : S = false)
    clear h
    go_enter Tryz.func40, Tryz.ntmps40
    go_wp2
    go_ret
    exact ⟨by rw [hs.out]; rfl, 0, rfl⟩
end Go.Proofs.YtafmjckpbcijoaaGreatDoor
