/-
  SetupFault, both; laws.toSetup.
-/
import Derived.Test.YtabnanmfojppjaaDoorSize
namespace Go.Proofs.YtabnanmfojppjaaDoor
open Go.RowKit
set_option linter.unusedVariables false
set_option linter.unusedSimpArgs false

/-- the fault of a setup -/
def setF (s c el b r d : Int) : Int :=
  if sizB s = false then 1 else if inB c 1 8 = false then 2 else if inB el 2 1000 = false then 3 else if inB b 1 el = false then 4
  else if inB r 1 1000 = false then 5 else if inB d 0 1048576 = false then 6 else 0

set_option maxHeartbeats 2000000 in
theorem setupFault_any (s c el b r d : Int) (w : World) :
    Calls Tryd.prog 36 #[.agg #[.int .i64 s, .int .i64 c, .int .i64 el, .int .i64 b, .int .i64 r, .int .i64 d]] w fun e w' =>
      e = .returned (.int .i64 (setF s c el b r d)) ∧ Below w.heap.size w w' := by
  go_enter Tryd.func36, Tryd.ntmps36
  go_wp2_with (first
    | (go_at_call 55; refine (sizeFitsN_any _ _).mono ?_; rintro e w' ⟨rfl, rfl⟩)
    | (go_at_call 56; refine (within_any _ _ _ _).mono ?_; rintro e w' ⟨rfl, rfl⟩))
  all_goals go_ret
  all_goals refine ⟨ret_int ?_, (Below.refl _ _).alloc (Nat.le_refl _) _⟩
  all_goals (go_light; simp_all [setF])

set_option maxHeartbeats 2000000 in
theorem sSetupFault_any (s c el b r d : Int) (w : World) :
    Calls Tryd.prog 30 #[.agg #[.int .i64 s, .int .i64 c, .int .i64 el, .int .i64 b, .int .i64 r, .int .i64 d]] w fun e w' =>
      e = .returned (.int .i64 (setF s c el b r d)) ∧ Below w.heap.size w w' := by
  go_enter Tryd.func30, Tryd.ntmps30
  go_wp2_with (first
    | (go_at_call 51; refine (l3size_any _ _).mono ?_; rintro e w' ⟨rfl, rfl⟩)
    | (go_at_call 31; refine (l1in_any _ _ _ _).mono ?_; rintro e w' ⟨rfl, rfl⟩))
  all_goals go_ret
  all_goals refine ⟨ret_int ?_, (Below.refl _ _).alloc (Nat.le_refl _) _⟩
  all_goals (go_light; simp_all [setF])

/-- laws.toSetup: the same fields. -/
theorem toSetup_any (s c el b r d : Int) (w : World) :
    Calls Tryd.prog 18 #[.agg #[.int .i64 s, .int .i64 c, .int .i64 el, .int .i64 b, .int .i64 r, .int .i64 d]] w fun e w' =>
      e = .returned (.agg #[.int .i64 s, .int .i64 c, .int .i64 el, .int .i64 b, .int .i64 r, .int .i64 d]) ∧ Below w.heap.size w w' := by
  go_enter Tryd.func18, Tryd.ntmps18
  go_wp2
  exact bodyPost_ret (v := .agg #[.int .i64 s, .int .i64 c, .int .i64 el, .int .i64 b, .int .i64 r, .int .i64 d]) (by simp [results, Tryd.results18, go_sem]) rfl
    ⟨rfl, (((Below.refl _ _).alloc (Nat.le_refl _) _).alloc (by simp) _).alloc (by simp; omega) _⟩
end Go.Proofs.YtabnanmfojppjaaDoor
