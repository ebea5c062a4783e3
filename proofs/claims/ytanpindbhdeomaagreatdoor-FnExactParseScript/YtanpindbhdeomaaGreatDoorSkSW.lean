/-
  spec.l7word, l7opWord, l7count, l7ranges.
-/
import Derived.Test.YtanpindbhdeomaaGreatDoorSOf
import Derived.Test.YtanpindbhdeomaaGreatDoorGround
import Derived.Test.YtanpindbhdeomaaGreatDoorRowBase
namespace Go.Proofs.YtanpindbhdeomaaGreatDoor
open Go.RowKit
set_option linter.unusedVariables false
set_option linter.unusedSimpArgs false

set_option maxHeartbeats 8000000 in
set_option maxRecDepth 100000 in
theorem l7word_any (kd : Int) (h1 : 1 ≤ kd) (h2 : kd ≤ 14) (w : World) :
    Calls Tryz.prog 33 #[.int .i64 kd] w fun e w' => e = .returned (.string (sOf (wordK kd))) ∧ Below w.heap.size w w' := by
  rcases kd_cases h1 h2 with rfl | rfl | rfl | rfl | rfl | rfl | rfl | rfl | rfl | rfl | rfl | rfl | rfl | rfl
  all_goals (go_enter Tryz.func33, Tryz.ntmps33)
  all_goals go_wp2
  all_goals go_ret
  all_goals exact ⟨rfl, (Below.refl _ _).alloc (Nat.le_refl _) _⟩

set_option maxHeartbeats 4000000 in
set_option maxRecDepth 100000 in
theorem l7opWord_any (op : Int) (h1 : 1 ≤ op) (h2 : op ≤ 4) (w : World) :
    Calls Tryz.prog 53 #[.int .i64 op] w fun e w' => e = .returned (.string (sOf (opK op))) ∧ Below w.heap.size w w' := by
  rcases op_cases h1 h2 with rfl | rfl | rfl | rfl
  all_goals (go_enter Tryz.func53, Tryz.ntmps53)
  all_goals go_wp2
  all_goals go_ret
  all_goals exact ⟨rfl, (Below.refl _ _).alloc (Nat.le_refl _) _⟩

set_option maxHeartbeats 4000000 in
set_option maxRecDepth 100000 in
theorem l7count_any (kd : Int) (h1 : 1 ≤ kd) (h2 : kd ≤ 14) (w : World) :
    Calls Tryz.prog 35 #[.int .i64 kd] w fun e w' => e = .returned (.int .i64 (cntK kd : Int)) ∧ w' = w := by
  rcases kd_cases h1 h2 with rfl | rfl | rfl | rfl | rfl | rfl | rfl | rfl | rfl | rfl | rfl | rfl | rfl | rfl
  all_goals (go_enter Tryz.func35, Tryz.ntmps35)
  all_goals go_wp2
  all_goals go_ret
  all_goals exact ⟨rfl, rfl⟩

def rHi0 (sv cc kd : Int) : Int := if inB kd 1 14 = true then nHi sv cc (nk0 kd) else -1
def rLo0 (kd : Int) : Int := if inB kd 1 14 = true then nLo (nk0 kd) else 0
/-- three ints in a block -/
structure Three (w : World) (q : Nat) (x y z : Int) : Prop where
  x : w.cell? ⟨q, 0, none⟩ = some (.int .i64 x)
  y : w.cell? ⟨q, 1, none⟩ = some (.int .i64 y)
  z : w.cell? ⟨q, 2, none⟩ = some (.int .i64 z)
theorem Three.below {w w' : World} {q : Nat} {x y z : Int} (h : Three w q x y z) (hb : Below w.heap.size w w') : Three w' q x y z :=
  ⟨(hb.cell (p := ⟨q, 0, none⟩) (cell_lt h.x)).trans h.x, (hb.cell (p := ⟨q, 1, none⟩) (cell_lt h.y)).trans h.y, (hb.cell (p := ⟨q, 2, none⟩) (cell_lt h.z)).trans h.z⟩
def RangesOk (sv cc kd : Int) (w : World) (e : Ending) (w' : World) : Prop :=
  ∃ q0 q1, e = .returned (.tuple #[.slice (some ⟨q0, 0, none⟩) 3 3, .slice (some ⟨q1, 0, none⟩) 3 3]) ∧ Three w' q0 (rLo0 kd) (nLo (nk1 kd)) (nLo (nk2 kd)) ∧ Three w' q1 (rHi0 sv cc kd) (nHi sv cc (nk1 kd)) (nHi sv cc (nk2 kd)) ∧ Below w.heap.size w w'

set_option maxHeartbeats 2000000 in
set_option maxRecDepth 100000 in
theorem l7ranges_1 (sv cc el b r d : Int) (w : World) :
    Calls Tryz.prog 55 #[.agg #[.int .i64 sv, .int .i64 cc, .int .i64 el, .int .i64 b, .int .i64 r, .int .i64 d], .int .i64 1] w (RangesOk sv cc 1 w) := by
  go_enter Tryz.func55, Tryz.ntmps55
  go_wp2
  go_ret2
  exact ⟨_, _, rfl, ⟨by simp [go_sem, rLo0, nLo, nk0, inB], by simp [go_sem, nLo, nk1], by simp [go_sem, nLo, nk2]⟩, ⟨by simp [go_sem, rHi0, nHi, nk0, inB], by simp [go_sem, nHi, nk1], by simp [go_sem, nHi, nk2]⟩, by repeat (first | exact Below.refl _ _ | refine Below.alloc ?_ (by simp <;> omega) _)⟩
set_option maxHeartbeats 2000000 in
set_option maxRecDepth 100000 in
theorem l7ranges_2 (sv cc el b r d : Int) (w : World) :
    Calls Tryz.prog 55 #[.agg #[.int .i64 sv, .int .i64 cc, .int .i64 el, .int .i64 b, .int .i64 r, .int .i64 d], .int .i64 2] w (RangesOk sv cc 2 w) := by
  go_enter Tryz.func55, Tryz.ntmps55
  go_wp2
  go_ret2
  exact ⟨_, _, rfl, ⟨by simp [go_sem, rLo0, nLo, nk0, inB], by simp [go_sem, nLo, nk1], by simp [go_sem, nLo, nk2]⟩, ⟨by simp [go_sem, rHi0, nHi, nk0, inB], by simp [go_sem, nHi, nk1], by simp [go_sem, nHi, nk2]⟩, by repeat (first | exact Below.refl _ _ | refine Below.alloc ?_ (by simp <;> omega) _)⟩
set_option maxHeartbeats 2000000 in
set_option maxRecDepth 100000 in
theorem l7ranges_3 (sv cc el b r d : Int) (w : World) :
    Calls Tryz.prog 55 #[.agg #[.int .i64 sv, .int .i64 cc, .int .i64 el, .int .i64 b, .int .i64 r, .int .i64 d], .int .i64 3] w (RangesOk sv cc 3 w) := by
  go_enter Tryz.func55, Tryz.ntmps55
  go_wp2
  go_ret2
  exact ⟨_, _, rfl, ⟨by simp [go_sem, rLo0, nLo, nk0, inB], by simp [go_sem, nLo, nk1], by simp [go_sem, nLo, nk2]⟩, ⟨by simp [go_sem, rHi0, nHi, nk0, inB], by simp [go_sem, nHi, nk1], by simp [go_sem, nHi, nk2]⟩, by repeat (first | exact Below.refl _ _ | refine Below.alloc ?_ (by simp <;> omega) _)⟩
set_option maxHeartbeats 2000000 in
set_option maxRecDepth 100000 in
theorem l7ranges_4 (sv cc el b r d : Int) (w : World) :
    Calls Tryz.prog 55 #[.agg #[.int .i64 sv, .int .i64 cc, .int .i64 el, .int .i64 b, .int .i64 r, .int .i64 d], .int .i64 4] w (RangesOk sv cc 4 w) := by
  go_enter Tryz.func55, Tryz.ntmps55
  go_wp2
  go_ret2
  exact ⟨_, _, rfl, ⟨by simp [go_sem, rLo0, nLo, nk0, inB], by simp [go_sem, nLo, nk1], by simp [go_sem, nLo, nk2]⟩, ⟨by simp [go_sem, rHi0, nHi, nk0, inB], by simp [go_sem, nHi, nk1], by simp [go_sem, nHi, nk2]⟩, by repeat (first | exact Below.refl _ _ | refine Below.alloc ?_ (by simp <;> omega) _)⟩
set_option maxHeartbeats 2000000 in
set_option maxRecDepth 100000 in
theorem l7ranges_5 (sv cc el b r d : Int) (w : World) :
    Calls Tryz.prog 55 #[.agg #[.int .i64 sv, .int .i64 cc, .int .i64 el, .int .i64 b, .int .i64 r, .int .i64 d], .int .i64 5] w (RangesOk sv cc 5 w) := by
  go_enter Tryz.func55, Tryz.ntmps55
  go_wp2
  go_ret2
  exact ⟨_, _, rfl, ⟨by simp [go_sem, rLo0, nLo, nk0, inB], by simp [go_sem, nLo, nk1], by simp [go_sem, nLo, nk2]⟩, ⟨by simp [go_sem, rHi0, nHi, nk0, inB], by simp [go_sem, nHi, nk1], by simp [go_sem, nHi, nk2]⟩, by repeat (first | exact Below.refl _ _ | refine Below.alloc ?_ (by simp <;> omega) _)⟩
set_option maxHeartbeats 2000000 in
set_option maxRecDepth 100000 in
theorem l7ranges_6 (sv cc el b r d : Int) (w : World) :
    Calls Tryz.prog 55 #[.agg #[.int .i64 sv, .int .i64 cc, .int .i64 el, .int .i64 b, .int .i64 r, .int .i64 d], .int .i64 6] w (RangesOk sv cc 6 w) := by
  go_enter Tryz.func55, Tryz.ntmps55
  go_wp2
  go_ret2
  exact ⟨_, _, rfl, ⟨by simp [go_sem, rLo0, nLo, nk0, inB], by simp [go_sem, nLo, nk1], by simp [go_sem, nLo, nk2]⟩, ⟨by simp [go_sem, rHi0, nHi, nk0, inB], by simp [go_sem, nHi, nk1], by simp [go_sem, nHi, nk2]⟩, by repeat (first | exact Below.refl _ _ | refine Below.alloc ?_ (by simp <;> omega) _)⟩
set_option maxHeartbeats 2000000 in
set_option maxRecDepth 100000 in
theorem l7ranges_7 (sv cc el b r d : Int) (w : World) :
    Calls Tryz.prog 55 #[.agg #[.int .i64 sv, .int .i64 cc, .int .i64 el, .int .i64 b, .int .i64 r, .int .i64 d], .int .i64 7] w (RangesOk sv cc 7 w) := by
  go_enter Tryz.func55, Tryz.ntmps55
  go_wp2
  go_ret2
  exact ⟨_, _, rfl, ⟨by simp [go_sem, rLo0, nLo, nk0, inB], by simp [go_sem, nLo, nk1], by simp [go_sem, nLo, nk2]⟩, ⟨by simp [go_sem, rHi0, nHi, nk0, inB], by simp [go_sem, nHi, nk1], by simp [go_sem, nHi, nk2]⟩, by repeat (first | exact Below.refl _ _ | refine Below.alloc ?_ (by simp <;> omega) _)⟩
set_option maxHeartbeats 2000000 in
set_option maxRecDepth 100000 in
theorem l7ranges_8 (sv cc el b r d : Int) (w : World) :
    Calls Tryz.prog 55 #[.agg #[.int .i64 sv, .int .i64 cc, .int .i64 el, .int .i64 b, .int .i64 r, .int .i64 d], .int .i64 8] w (RangesOk sv cc 8 w) := by
  go_enter Tryz.func55, Tryz.ntmps55
  go_wp2
  go_ret2
  exact ⟨_, _, rfl, ⟨by simp [go_sem, rLo0, nLo, nk0, inB], by simp [go_sem, nLo, nk1], by simp [go_sem, nLo, nk2]⟩, ⟨by simp [go_sem, rHi0, nHi, nk0, inB], by simp [go_sem, nHi, nk1], by simp [go_sem, nHi, nk2]⟩, by repeat (first | exact Below.refl _ _ | refine Below.alloc ?_ (by simp <;> omega) _)⟩
set_option maxHeartbeats 2000000 in
set_option maxRecDepth 100000 in
theorem l7ranges_9 (sv cc el b r d : Int) (w : World) :
    Calls Tryz.prog 55 #[.agg #[.int .i64 sv, .int .i64 cc, .int .i64 el, .int .i64 b, .int .i64 r, .int .i64 d], .int .i64 9] w (RangesOk sv cc 9 w) := by
  go_enter Tryz.func55, Tryz.ntmps55
  go_wp2
  go_ret2
  exact ⟨_, _, rfl, ⟨by simp [go_sem, rLo0, nLo, nk0, inB], by simp [go_sem, nLo, nk1], by simp [go_sem, nLo, nk2]⟩, ⟨by simp [go_sem, rHi0, nHi, nk0, inB], by simp [go_sem, nHi, nk1], by simp [go_sem, nHi, nk2]⟩, by repeat (first | exact Below.refl _ _ | refine Below.alloc ?_ (by simp <;> omega) _)⟩
set_option maxHeartbeats 2000000 in
set_option maxRecDepth 100000 in
theorem l7ranges_10 (sv cc el b r d : Int) (w : World) :
    Calls Tryz.prog 55 #[.agg #[.int .i64 sv, .int .i64 cc, .int .i64 el, .int .i64 b, .int .i64 r, .int .i64 d], .int .i64 10] w (RangesOk sv cc 10 w) := by
  go_enter Tryz.func55, Tryz.ntmps55
  go_wp2
  go_ret2
  exact ⟨_, _, rfl, ⟨by simp [go_sem, rLo0, nLo, nk0, inB], by simp [go_sem, nLo, nk1], by simp [go_sem, nLo, nk2]⟩, ⟨by simp [go_sem, rHi0, nHi, nk0, inB], by simp [go_sem, nHi, nk1], by simp [go_sem, nHi, nk2]⟩, by repeat (first | exact Below.refl _ _ | refine Below.alloc ?_ (by simp <;> omega) _)⟩
set_option maxHeartbeats 2000000 in
set_option maxRecDepth 100000 in
theorem l7ranges_11 (sv cc el b r d : Int) (w : World) :
    Calls Tryz.prog 55 #[.agg #[.int .i64 sv, .int .i64 cc, .int .i64 el, .int .i64 b, .int .i64 r, .int .i64 d], .int .i64 11] w (RangesOk sv cc 11 w) := by
  go_enter Tryz.func55, Tryz.ntmps55
  go_wp2
  go_ret2
  exact ⟨_, _, rfl, ⟨by simp [go_sem, rLo0, nLo, nk0, inB], by simp [go_sem, nLo, nk1], by simp [go_sem, nLo, nk2]⟩, ⟨by simp [go_sem, rHi0, nHi, nk0, inB], by simp [go_sem, nHi, nk1], by simp [go_sem, nHi, nk2]⟩, by repeat (first | exact Below.refl _ _ | refine Below.alloc ?_ (by simp <;> omega) _)⟩
set_option maxHeartbeats 2000000 in
set_option maxRecDepth 100000 in
theorem l7ranges_12 (sv cc el b r d : Int) (w : World) :
    Calls Tryz.prog 55 #[.agg #[.int .i64 sv, .int .i64 cc, .int .i64 el, .int .i64 b, .int .i64 r, .int .i64 d], .int .i64 12] w (RangesOk sv cc 12 w) := by
  go_enter Tryz.func55, Tryz.ntmps55
  go_wp2
  go_ret2
  exact ⟨_, _, rfl, ⟨by simp [go_sem, rLo0, nLo, nk0, inB], by simp [go_sem, nLo, nk1], by simp [go_sem, nLo, nk2]⟩, ⟨by simp [go_sem, rHi0, nHi, nk0, inB], by simp [go_sem, nHi, nk1], by simp [go_sem, nHi, nk2]⟩, by repeat (first | exact Below.refl _ _ | refine Below.alloc ?_ (by simp <;> omega) _)⟩
set_option maxHeartbeats 2000000 in
set_option maxRecDepth 100000 in
theorem l7ranges_13 (sv cc el b r d : Int) (w : World) :
    Calls Tryz.prog 55 #[.agg #[.int .i64 sv, .int .i64 cc, .int .i64 el, .int .i64 b, .int .i64 r, .int .i64 d], .int .i64 13] w (RangesOk sv cc 13 w) := by
  go_enter Tryz.func55, Tryz.ntmps55
  go_wp2
  go_ret2
  exact ⟨_, _, rfl, ⟨by simp [go_sem, rLo0, nLo, nk0, inB], by simp [go_sem, nLo, nk1], by simp [go_sem, nLo, nk2]⟩, ⟨by simp [go_sem, rHi0, nHi, nk0, inB], by simp [go_sem, nHi, nk1], by simp [go_sem, nHi, nk2]⟩, by repeat (first | exact Below.refl _ _ | refine Below.alloc ?_ (by simp <;> omega) _)⟩
set_option maxHeartbeats 2000000 in
set_option maxRecDepth 100000 in
theorem l7ranges_14 (sv cc el b r d : Int) (w : World) :
    Calls Tryz.prog 55 #[.agg #[.int .i64 sv, .int .i64 cc, .int .i64 el, .int .i64 b, .int .i64 r, .int .i64 d], .int .i64 14] w (RangesOk sv cc 14 w) := by
  go_enter Tryz.func55, Tryz.ntmps55
  go_wp2
  go_ret2
  exact ⟨_, _, rfl, ⟨by simp [go_sem, rLo0, nLo, nk0, inB], by simp [go_sem, nLo, nk1], by simp [go_sem, nLo, nk2]⟩, ⟨by simp [go_sem, rHi0, nHi, nk0, inB], by simp [go_sem, nHi, nk1], by simp [go_sem, nHi, nk2]⟩, by repeat (first | exact Below.refl _ _ | refine Below.alloc ?_ (by simp <;> omega) _)⟩
set_option maxHeartbeats 2000000 in
set_option maxRecDepth 100000 in
theorem l7ranges_0 (sv cc el b r d kd : Int) (hk : inB kd 1 14 = false) (w : World) :
    Calls Tryz.prog 55 #[.agg #[.int .i64 sv, .int .i64 cc, .int .i64 el, .int .i64 b, .int .i64 r, .int .i64 d], .int .i64 kd] w (RangesOk sv cc kd w) := by
  have HK : Hid (inB kd 1 14 = false) := hk
  have hn : ¬ (1 ≤ kd ∧ kd ≤ 14) := by unfold inB at hk; simp at hk; omega
  clear hk
  have n1 : ¬ kd = 1 := by omega
  have n2 : ¬ kd = 2 := by omega
  have n3 : ¬ kd = 3 := by omega
  have n4 : ¬ kd = 4 := by omega
  have n5 : ¬ kd = 5 := by omega
  have n6 : ¬ kd = 6 := by omega
  have n7 : ¬ kd = 7 := by omega
  have n8 : ¬ kd = 8 := by omega
  have n9 : ¬ kd = 9 := by omega
  have n10 : ¬ kd = 10 := by omega
  have n11 : ¬ kd = 11 := by omega
  have n12 : ¬ kd = 12 := by omega
  have n13 : ¬ kd = 13 := by omega
  have n14 : ¬ kd = 14 := by omega
  go_enter Tryz.func55, Tryz.ntmps55
  go_wp2
  go_ret2
  exact ⟨_, _, rfl, ⟨by simp [go_sem, rLo0, HK.out], by simp [go_sem, nLo, nk1, *], by simp [go_sem, nLo, nk2, *]⟩, ⟨by simp [go_sem, rHi0, HK.out], by simp [go_sem, nHi, nk1, *], by simp [go_sem, nHi, nk2, *]⟩, by repeat (first | exact Below.refl _ _ | refine Below.alloc ?_ (by simp <;> omega) _)⟩
theorem l7ranges_any (sv cc el b r d kd : Int) (w : World) :
    Calls Tryz.prog 55 #[.agg #[.int .i64 sv, .int .i64 cc, .int .i64 el, .int .i64 b, .int .i64 r, .int .i64 d], .int .i64 kd] w (RangesOk sv cc kd w) := by
  cases hk : inB kd 1 14
  · exact l7ranges_0 sv cc el b r d kd hk w
  · have h : 1 ≤ kd ∧ kd ≤ 14 := by unfold inB at hk; simpa using hk
    rcases kd_cases h.1 h.2 with rfl | rfl | rfl | rfl | rfl | rfl | rfl | rfl | rfl | rfl | rfl | rfl | rfl | rfl
    · exact l7ranges_1 sv cc el b r d w
    · exact l7ranges_2 sv cc el b r d w
    · exact l7ranges_3 sv cc el b r d w
    · exact l7ranges_4 sv cc el b r d w
    · exact l7ranges_5 sv cc el b r d w
    · exact l7ranges_6 sv cc el b r d w
    · exact l7ranges_7 sv cc el b r d w
    · exact l7ranges_8 sv cc el b r d w
    · exact l7ranges_9 sv cc el b r d w
    · exact l7ranges_10 sv cc el b r d w
    · exact l7ranges_11 sv cc el b r d w
    · exact l7ranges_12 sv cc el b r d w
    · exact l7ranges_13 sv cc el b r d w
    · exact l7ranges_14 sv cc el b r d w
end Go.Proofs.YtanpindbhdeomaaGreatDoor
