/-
  A number in a list of numbers; a majority.
-/
import Derived.Test.YtjhkfjmgdkcipadIntsU
namespace Go.Proofs.Ytjhkfjmgdkcipad
open Go.RowKit
set_option linter.unusedVariables false
set_option linter.unusedSimpArgs false

def hasB (x : Int) (l : List Int) : Bool := l.contains x
theorem has_not_take {x : Int} {l : List Int} {k : Nat} (h : x ∉ l.take k) (hlt : k < l.length) (hne : ¬ x = l[k]) : x ∉ l.take (k + 1) := by
  intro hm
  rw [List.take_succ_eq_append_getElem hlt] at hm
  rcases List.mem_append.1 hm with h1 | h1
  · exact h h1
  · exact hne (List.mem_singleton.1 h1)

set_option maxHeartbeats 1000000 in
set_option maxRecDepth 100000 in
theorem indexI_any (v : Value) (l : List Int) (x : Int) (w : World) (hv : Ix w v l) :
    Calls Try.prog 156 #[v, .int .i64 x] w fun e w' => ∃ r : Int, e = .returned (.int .i64 r) ∧ decide (0 ≤ r) = hasB x l ∧ w' = w := by
  obtain ⟨hl, a, cap, rfl, hc⟩ := hv
  unfold maxLen at hl
  go_enter Try.func156, Try.ntmps156
  go_wp2
  go_loop [8] (fun i => ∃ (k : Nat), k ≤ l.length ∧ i = .int .i64 k ∧ x ∉ l.take k) (fun i => l.length - (intOf i).toNat)
  case atStart => exact ⟨0, Nat.zero_le _, rfl, by simp⟩
  case round =>
    obtain ⟨k, hk, rfl, hx⟩ := hrel
    by_cases hlt : k < l.length
    · obtain ⟨b, off, rfl, hj⟩ := hc k hlt
      have hck := hj k hlt
      clear hc hj
      by_cases hy : x = l[k]
      · have ny : (x == l[k]) = true := by simpa using hy
        have hm : Hid (hasB x l = true) := (by simp [hasB, hy] : hasB x l = true)
        clear hy
        generalize l[k] = y at hck ny
        go_wp2
        go_ret
        exact ⟨_, rfl, by rw [hm.out]; simp, rfl⟩
      · have ny : (x == l[k]) = false := by simpa using hy
        have hx2 := has_not_take hx hlt hy
        clear hy hx
        generalize l[k] = y at hck ny
        go_wp2
        go_round
        case rel => exact ⟨k + 1, by omega, by go_num, hx2⟩
        case measure => simp [intOf]; omega
    · go_wp2
      go_ret
      exact ⟨_, rfl, by rw [List.take_of_length_le (by omega)] at hx; simp [hasB, hx], rfl⟩

theorem containsI_any (v : Value) (l : List Int) (x : Int) (w : World) (hv : Ix w v l) :
    Calls Try.prog 127 #[v, .int .i64 x] w fun e w' => e = .returned (.bool (hasB x l)) ∧ w' = w := by
  have HV : Hid (Ix w v l) := hv
  obtain ⟨_, a, cap, rfl, _⟩ := hv
  go_enter Try.func127, Try.ntmps127
  go_wp2_with (go_at_call 156; refine (indexI_any _ l x _ HV.out).mono ?_; rintro e w1 ⟨r, rfl, hr, hw⟩; obtain rfl := hw.symm; clear hw)
  all_goals go_ret
  all_goals exact ⟨by rw [← hr]; rfl, rfl⟩

set_option maxHeartbeats 1000000 in
set_option maxRecDepth 100000 in
theorem l4has_any (v : Value) (l : List Int) (x : Int) (w : World) (hv : Ix w v l) :
    Calls Try.prog 123 #[v, .int .i64 x] w fun e w' => e = .returned (.bool (hasB x l)) ∧ w' = w := by
  obtain ⟨hl, a, cap, rfl, hc⟩ := hv
  unfold maxLen at hl
  go_enter Try.func123, Try.ntmps123
  go_wp2
  go_loop [5] (fun i => ∃ (k : Nat), k ≤ l.length ∧ i = .int .i64 k ∧ x ∉ l.take k) (fun i => l.length - (intOf i).toNat)
  case atStart => exact ⟨0, Nat.zero_le _, rfl, by simp⟩
  case round =>
    obtain ⟨k, hk, rfl, hx⟩ := hrel
    by_cases hlt : k < l.length
    · obtain ⟨b, off, rfl, hj⟩ := hc k hlt
      have hck := hj k hlt
      clear hc hj
      by_cases hy : x = l[k]
      · have ny : (l[k] == x) = true := by simp [hy]
        have hm : Hid (hasB x l = true) := (by simp [hasB, hy] : hasB x l = true)
        clear hy
        generalize l[k] = y at hck ny
        go_wp2
        go_ret
        exact ⟨by rw [hm.out]; rfl, rfl⟩
      · have ny : (l[k] == x) = false := by simpa using fun h : l[k] = x => hy h.symm
        have hx2 := has_not_take hx hlt hy
        clear hy hx
        generalize l[k] = y at hck ny
        go_wp2
        go_round
        case rel => exact ⟨k + 1, by omega, by go_num, hx2⟩
        case measure => simp [intOf]; omega
    · go_wp2
      go_ret
      exact ⟨by rw [List.take_of_length_le (by omega)] at hx; simp [hasB, hx], rfl⟩

/-- a majority -/
def majB (n sz : Int) : Bool := decide (sz / 2 < n)
theorem isMajority_any (n sz : Int) (hs : 0 ≤ sz) (hs7 : sz ≤ 7) (w : World) : Calls Try.prog 128 #[.int .i64 n, .int .i64 sz] w fun e w' => e = .returned (.bool (majB n sz)) ∧ w' = w := by
  go_enter Try.func128, Try.ntmps128
  go_wp2
  all_goals go_ret
  all_goals exact ⟨rfl, rfl⟩
theorem l4majority_any (n sz : Int) (hs : sz % 2 = 1) (h0 : 0 ≤ n) (h1 : n ≤ 1099511627776) (w : World) : Calls Try.prog 124 #[.int .i64 n, .int .i64 sz] w fun e w' => e = .returned (.bool (majB n sz)) ∧ w' = w := by
  go_enter Try.func124, Try.ntmps124
  go_wp2
  all_goals go_ret
  all_goals refine ⟨?_, rfl⟩
  all_goals
    show Ending.returned (.bool (decide (sz < 2 * n))) = _
    unfold majB
    congr 2
    apply decide_eq_decide.2
    omega
end Go.Proofs.Ytjhkfjmgdkcipad
