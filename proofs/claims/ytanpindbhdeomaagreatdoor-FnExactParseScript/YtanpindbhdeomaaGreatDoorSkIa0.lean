/-
  impl.rangeOf, impl.askFits, impl.drawFits.
-/
import Derived.Test.YtanpindbhdeomaaGreatDoorGround
import Derived.Test.YtanpindbhdeomaaGreatDoorBlk
import Derived.BigQuiet
import Derived.Deep.QuietTactic
import Derived.Deep.RegionHeld3
namespace Go.Proofs.YtanpindbhdeomaaGreatDoor
open Go.RowKit
set_option linter.unusedVariables false
set_option linter.unusedSimpArgs false

theorem below_drA {B : Nat} {a w : World} (h : Below B a w) (n : Nat) : Below B a (w.drewN n) := ⟨h.os, h.tape, h.output, h.size, h.block⟩

set_option maxHeartbeats 4000000 in
set_option maxRecDepth 100000 in
theorem rangeOf_any (n sv cc el b r d : Int) (h0 : 0 ≤ n) (h7 : n ≤ 7) (w : World) :
    Calls Tryz.prog 67 #[.int .i64 n, .agg #[.int .i64 sv, .int .i64 cc, .int .i64 el, .int .i64 b, .int .i64 r, .int .i64 d]] w fun e w' => e = .returned (.tuple #[.int .i64 (nLo n), .int .i64 (nHi sv cc n)]) ∧ Below w.heap.size w w' := by
  rcases (show n = 1 ∨ n = 2 ∨ n = 0 ∨ n = 3 ∨ n = 4 ∨ n = 5 ∨ n = 6 ∨ n = 7 by omega) with rfl | rfl | rfl | rfl | rfl | rfl | rfl | rfl
  · go_enter Tryz.func67, Tryz.ntmps67
    go_wp2
    go_quiet (fail)
    go_wp2
    go_ret2
    exact ⟨rfl, below_drA ((Below.refl _ _).alloc (Nat.le_refl _) _) _⟩
  · go_enter Tryz.func67, Tryz.ntmps67
    go_wp2
    go_quiet (fail)
    go_wp2
    go_ret2
    exact ⟨rfl, below_drA ((Below.refl _ _).alloc (Nat.le_refl _) _) _⟩
  all_goals (go_enter Tryz.func67, Tryz.ntmps67)
  all_goals go_wp2
  all_goals go_ret2
  all_goals exact ⟨rfl, (Below.refl _ _).alloc (Nat.le_refl _) _⟩

set_option maxHeartbeats 4000000 in
set_option maxRecDepth 100000 in
theorem askFits_any (cl sq op : Int) (k v o : ByteArray) (hk : k.size ≤ 1048576) (hv : v.size ≤ 1048576) (ho : o.size ≤ 1048576) (w : World) :
    Calls Tryz.prog 68 #[.agg #[.int .i64 cl, .int .i64 sq, .int .i64 op, .string k, .string v, .string o]] w fun e w' =>
      e = .returned (.bool (decide (cl = 0) && decide (sq = 0) && decide (callF 1 1 op k.size v.size o.size = 0))) ∧ Below w.heap.size w w' := by
  have HC : Hid (∀ u, Calls Tryz.prog 78 #[.agg #[.int .i64 1, .int .i64 1, .int .i64 op, .string k, .string v, .string o]] u fun e w' => e = .returned (.int .i64 (callF 1 1 op k.size v.size o.size)) ∧ Below u.heap.size u w') := fun u => callFault_any 1 1 op k v o (by unfold maxLen; omega) (by unfold maxLen; omega) (by unfold maxLen; omega) u
  generalize callF 1 1 op k.size v.size o.size = f at HC ⊢
  by_cases h1 : cl = 0
  · subst h1
    by_cases h2 : sq = 0
    · subst h2
      go_enter Tryz.func68, Tryz.ntmps68
      go_wp2_with (go_at_call 78; refine (HC.out _).mono ?_; rintro e w1 ⟨rfl, hb⟩)
      go_ret
      exact ⟨by congr 2, ((Below.refl _ _).alloc (Nat.le_refl _) _).trans (hb.mono (by simp))⟩
    · have h2' : (sq == 0) = false := by simpa using h2
      go_enter Tryz.func68, Tryz.ntmps68
      go_wp2
      all_goals go_ret
      all_goals exact ⟨by simp [h2], (Below.refl _ _).alloc (Nat.le_refl _) _⟩
  · have h1' : (cl == 0) = false := by simpa using h1
    go_enter Tryz.func68, Tryz.ntmps68
    go_wp2
    all_goals go_ret
    all_goals exact ⟨by simp [h1], (Below.refl _ _).alloc (Nat.le_refl _) _⟩

set_option maxHeartbeats 1000000 in
theorem drawFits_any (n : Int) (w : World) :
    Calls Tryz.prog 46 #[.int .i64 n] w fun e w' => e = .returned (.bool (inB n 0 1073741824)) ∧ w' = w := by
  go_enter Tryz.func46, Tryz.ntmps46
  go_wp2_with (go_at_call 43; refine (within_any _ _ _ _).mono ?_; rintro e w' ⟨rfl, rfl⟩)
  go_ret
  exact ⟨rfl, rfl⟩
end Go.Proofs.YtanpindbhdeomaaGreatDoor
