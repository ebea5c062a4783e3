/-
  impl.endsFit, impl.positionFits, impl.marksFit, impl.entryFits, spec.l1entryOk.
-/
import Derived.Test.YtfcmffdljfljkaaEntFit
namespace Go.Proofs.Ytfcmffdljfljkaa
open Go.RowKit
set_option linter.unusedVariables false

def endsB (fr tq : Int) : Bool := inB fr 1 7 && inB tq 1 7 && (fr != tq)
def posB (ki tm li lt : Int) : Bool :=
  if ki = 1 ∨ ki = 3 ∨ ki = 5 then inB li 0 4096 && inB lt 0 tm && ((lt == 0) == (li == 0))
  else if ki = 6 then inB li 0 4096 && (lt == 0) else (li == 0) && (lt == 0)
def marksB (ki cm ok hi : Int) : Bool :=
  inB cm 0 (if ki = 5 then 4096 else 0) && inB ok 0 (if ki = 2 ∨ ki = 4 ∨ ki = 6 then 1 else 0) && inB hi 0 (if ki = 6 ∧ ok = 0 then 4096 else 0)


set_option maxHeartbeats 2000000 in
theorem endsFit_any (ki fr tq tm li lt cm ok hi : Int) (ev : Value) (w : World) :
    Calls Try.prog 164 #[.agg #[.int .i64 ki, .int .i64 fr, .int .i64 tq, .int .i64 tm, .int .i64 li, .int .i64 lt, .int .i64 cm, .int .i64 ok, .int .i64 hi, ev]] w fun r w' => r = .returned (.bool (endsB fr tq)) ∧ Below w.heap.size w w' := by
  go_enter Try.func164, Try.ntmps164
  go_wp2_with (go_at_call 48; refine (within_any _ _ _ _).mono ?_; rintro e w' ⟨rfl, rfl⟩)
  all_goals go_ret
  all_goals refine ⟨ret_bool ?_, (Below.refl _ _).alloc (Nat.le_refl _) _⟩
  all_goals (go_light; simp_all [endsB])

set_option maxHeartbeats 2000000 in
theorem positionFits_any (ki fr tq tm li lt cm ok hi : Int) (ev : Value) (w : World) :
    Calls Try.prog 165 #[.agg #[.int .i64 ki, .int .i64 fr, .int .i64 tq, .int .i64 tm, .int .i64 li, .int .i64 lt, .int .i64 cm, .int .i64 ok, .int .i64 hi, ev]] w fun r w' => r = .returned (.bool (posB ki tm li lt)) ∧ Below w.heap.size w w' := by
  go_enter Try.func165, Try.ntmps165
  go_wp2_with (go_at_call 48; refine (within_any _ _ _ _).mono ?_; rintro e w' ⟨rfl, rfl⟩)
  all_goals go_ret
  all_goals refine ⟨ret_bool ?_, (Below.refl _ _).alloc (Nat.le_refl _) _⟩
  all_goals (go_light; simp_all [posB])

set_option maxHeartbeats 2000000 in
theorem marksFit_any (ki fr tq tm li lt cm ok hi : Int) (ev : Value) (w : World) :
    Calls Try.prog 166 #[.agg #[.int .i64 ki, .int .i64 fr, .int .i64 tq, .int .i64 tm, .int .i64 li, .int .i64 lt, .int .i64 cm, .int .i64 ok, .int .i64 hi, ev]] w fun r w' => r = .returned (.bool (marksB ki cm ok hi)) ∧ Below w.heap.size w w' := by
  go_enter Try.func166, Try.ntmps166
  go_wp2_with (go_at_call 48; refine (within_any _ _ _ _).mono ?_; rintro e w' ⟨rfl, rfl⟩)
  all_goals go_ret
  all_goals refine ⟨ret_bool ?_, (Below.refl _ _).alloc (Nat.le_refl _) _⟩
  all_goals (go_light; simp_all [marksB])

def entsB (ki li lt tm : Int) (l : List Ent) : Bool :=
  if ki = 5 then decide (l.length ≤ 32) && decide (li + l.length ≤ 4096) && fitL tm lt l else decide (l.length = 0)

end Go.Proofs.Ytfcmffdljfljkaa
