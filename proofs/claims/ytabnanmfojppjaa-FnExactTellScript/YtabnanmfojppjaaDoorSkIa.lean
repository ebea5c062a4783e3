/-
  impl.rangeOf, impl.askFits, impl.drawFits and what scriptFits asks of a draw.
-/
import Derived.Test.YtabnanmfojppjaaDoorSkPure
import Derived.Test.YtabnanmfojppjaaDoorBlk
import Derived.BigQuiet
import Derived.Deep.QuietTactic
import Derived.Deep.RegionHeld3
namespace Go.Proofs.YtabnanmfojppjaaDoor
open Go.RowKit
set_option linter.unusedVariables false
set_option linter.unusedSimpArgs false

theorem below_drA {B : Nat} {a w : World} (h : Below B a w) (n : Nat) : Below B a (w.drewN n) := ⟨h.os, h.tape, h.output, h.size, h.block⟩

set_option maxHeartbeats 4000000 in
set_option maxRecDepth 100000 in
theorem rangeOf_any (n sv cc el b r d : Int) (h0 : 0 ≤ n) (h7 : n ≤ 7) (w : World) :
    Calls Tryd.prog 57 #[.int .i64 n, .agg #[.int .i64 sv, .int .i64 cc, .int .i64 el, .int .i64 b, .int .i64 r, .int .i64 d]] w fun e w' => e = .returned (.tuple #[.int .i64 (nLo n), .int .i64 (nHi sv cc n)]) ∧ Below w.heap.size w w' := by
  rcases (show n = 1 ∨ n = 2 ∨ n = 0 ∨ n = 3 ∨ n = 4 ∨ n = 5 ∨ n = 6 ∨ n = 7 by omega) with rfl | rfl | rfl | rfl | rfl | rfl | rfl | rfl
  · go_enter Tryd.func57, Tryd.ntmps57
    go_wp2
    go_quiet (fail)
    go_wp2
    go_ret2
    exact ⟨rfl, below_drA ((Below.refl _ _).alloc (Nat.le_refl _) _) _⟩
  · go_enter Tryd.func57, Tryd.ntmps57
    go_wp2
    go_quiet (fail)
    go_wp2
    go_ret2
    exact ⟨rfl, below_drA ((Below.refl _ _).alloc (Nat.le_refl _) _) _⟩
  all_goals (go_enter Tryd.func57, Tryd.ntmps57)
  all_goals go_wp2
  all_goals go_ret2
  all_goals exact ⟨rfl, (Below.refl _ _).alloc (Nat.le_refl _) _⟩

set_option maxHeartbeats 4000000 in
set_option maxRecDepth 100000 in
theorem askFits_any (cl sq op : Int) (k v o : ByteArray) (hk : k.size ≤ 1048576) (hv : v.size ≤ 1048576) (ho : o.size ≤ 1048576) (w : World) :
    Calls Tryd.prog 58 #[.agg #[.int .i64 cl, .int .i64 sq, .int .i64 op, .string k, .string v, .string o]] w fun e w' =>
      e = .returned (.bool (decide (cl = 0) && decide (sq = 0) && decide (callF 1 1 op k.size v.size o.size = 0))) ∧ Below w.heap.size w w' := by
  have HC : Hid (∀ u, Calls Tryd.prog 64 #[.agg #[.int .i64 1, .int .i64 1, .int .i64 op, .string k, .string v, .string o]] u fun e w' => e = .returned (.int .i64 (callF 1 1 op k.size v.size o.size)) ∧ Below u.heap.size u w') := fun u => callFault_any 1 1 op k v o (by unfold maxLen; omega) (by unfold maxLen; omega) (by unfold maxLen; omega) u
  generalize callF 1 1 op k.size v.size o.size = f at HC ⊢
  by_cases h1 : cl = 0
  · subst h1
    by_cases h2 : sq = 0
    · subst h2
      go_enter Tryd.func58, Tryd.ntmps58
      go_wp2_with (go_at_call 64; refine (HC.out _).mono ?_; rintro e w1 ⟨rfl, hb⟩)
      go_ret
      exact ⟨by congr 2, ((Below.refl _ _).alloc (Nat.le_refl _) _).trans (hb.mono (by simp))⟩
    · have h2' : (sq == 0) = false := by simpa using h2
      go_enter Tryd.func58, Tryd.ntmps58
      go_wp2
      all_goals go_ret
      all_goals exact ⟨by simp [h2], (Below.refl _ _).alloc (Nat.le_refl _) _⟩
  · have h1' : (cl == 0) = false := by simpa using h1
    go_enter Tryd.func58, Tryd.ntmps58
    go_wp2
    all_goals go_ret
    all_goals exact ⟨by simp [h1], (Below.refl _ _).alloc (Nat.le_refl _) _⟩

set_option maxHeartbeats 1000000 in
theorem badDraw_any (n : Int) (w : World) :
    Calls Tryd.prog 37 #[.int .i64 n] w fun e w' => e = .returned (.bool (!inB n 0 1073741824)) ∧ w' = w := by
  have HD : Hid (∀ u, Calls Tryd.prog 38 #[.int .i64 n] u fun e w' => e = .returned (.bool (inB n 0 1073741824)) ∧ w' = u) := fun u => by
    go_enter Tryd.func38, Tryd.ntmps38
    go_wp2_with (go_at_call 56; refine (within_any _ _ _ _).mono ?_; rintro e w' ⟨rfl, rfl⟩)
    go_ret
    exact ⟨rfl, rfl⟩
  go_enter Tryd.func37, Tryd.ntmps37
  go_wp2_with (go_at_call 38; refine (HD.out _).mono ?_; rintro e w' ⟨rfl, rfl⟩)
  go_ret
  exact ⟨rfl, rfl⟩
end Go.Proofs.YtabnanmfojppjaaDoor
