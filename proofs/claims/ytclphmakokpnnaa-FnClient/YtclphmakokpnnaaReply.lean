/-
  impl.replyFault, spec.l1replyFault, laws.toReply, laws.szReply are in ReplyArg.
-/
import Derived.Test.YtclphmakokpnnaaL1in
namespace Go.Proofs.Ytclphmakokpnnaa
open Go.RowKit
set_option linter.unusedVariables false

/-- the fault of a reply -/
def repF (cl sq st cd v ld : Int) : Int :=
  if inB cl 1 8 = false then 1 else if inB sq 1 1073741824 = false then 2 else if inB st 1 2 = false then 3
  else if inB cd (if st = 1 then 1 else 0) (if st = 1 then 4 else 0) = false then 4
  else if (if st = 1 then 64 else 0) < v then 5
  else if inB ld 0 (if st = 1 then 0 else 7) = false then 6 else 0

set_option maxHeartbeats 2000000 in
theorem implReplyFault_any (cl sq st cd ld : Int) (v : ByteArray) (hv : v.size ≤ maxLen) (w : World) :
    Calls Try.prog 62 #[.agg #[.int .i64 cl, .int .i64 sq, .int .i64 st, .int .i64 cd, .string v, .int .i64 ld]] w fun e w' => e = .returned (.int .i64 (repF cl sq st cd v.size ld)) ∧ Below w.heap.size w w' := by
  unfold maxLen at hv
  by_cases h1 : st = 1
  · subst h1
    go_enter Try.func62, Try.ntmps62
    go_wp2_with (go_at_call 51; refine (within_any _ _ _ _).mono ?_; rintro e w' ⟨rfl, rfl⟩)
    all_goals go_ret
    all_goals refine ⟨ret_int ?_, (Below.refl _ _).alloc (Nat.le_refl _) _⟩
    all_goals (go_light; simp_all [repF]; try omega)
  · have n1 : (st == 1) = false := by simpa using h1
    go_enter Try.func62, Try.ntmps62
    go_wp2_with (go_at_call 51; refine (within_any _ _ _ _).mono ?_; rintro e w' ⟨rfl, rfl⟩)
    all_goals go_ret
    all_goals refine ⟨ret_int ?_, (Below.refl _ _).alloc (Nat.le_refl _) _⟩
    all_goals (go_light; simp_all [repF]; try omega)

set_option maxHeartbeats 4000000 in
theorem specReplyFault_any (cl sq st cd ld : Int) (v : ByteArray) (hv : v.size ≤ maxLen) (w : World) :
    Calls Try.prog 57 #[.agg #[.int .i64 cl, .int .i64 sq, .int .i64 st, .int .i64 cd, .string v, .int .i64 ld]] w fun e w' => e = .returned (.int .i64 (repF cl sq st cd v.size ld)) ∧ Below w.heap.size w w' := by
  unfold maxLen at hv
  by_cases h1 : st = 1
  · subst h1
    go_enter Try.func57, Try.ntmps57
    go_wp2_with (go_at_call 50; refine (l1in_any _ _ _ _).mono ?_; rintro e w' ⟨rfl, rfl⟩)
    all_goals go_ret
    all_goals refine ⟨ret_int ?_, (Below.refl _ _).alloc (Nat.le_refl _) _⟩
    all_goals go_light
    all_goals (try (simp only [Bool.not_eq_true', Bool.not_eq_false', inB_iff, inB_not] at *))
    all_goals simp only [repF, inB_not, if_true]
    all_goals repeat (first | rfl | rw [if_pos (by omega)] | rw [if_neg (by omega)])
  · have n1 : (st == 1) = false := by simpa using h1
    go_enter Try.func57, Try.ntmps57
    go_wp2_with (go_at_call 50; refine (l1in_any _ _ _ _).mono ?_; rintro e w' ⟨rfl, rfl⟩)
    all_goals go_ret
    all_goals refine ⟨ret_int ?_, (Below.refl _ _).alloc (Nat.le_refl _) _⟩
    all_goals go_light
    all_goals (try (simp only [Bool.not_eq_true', Bool.not_eq_false', inB_iff, inB_not, bne_iff_ne, bne_eq_false_iff_eq, ne_eq] at *))
    all_goals simp only [repF, inB_not, if_neg h1]
    all_goals repeat (first | rfl | rw [if_pos (by omega)] | rw [if_neg (by omega)])

end Go.Proofs.Ytclphmakokpnnaa
