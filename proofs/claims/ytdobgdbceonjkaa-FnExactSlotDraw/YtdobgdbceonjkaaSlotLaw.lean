/-
  spec.SlotDraw; the law.
-/
import Derived.Test.YtdobgdbceonjkaaSlotDraw
namespace Go.Proofs.Ytdobgdbceonjkaa
open Go.RowKit
set_option linter.unusedVariables false

set_option maxHeartbeats 400000 in
theorem l3size_any (n : Int) (w : World) :
    Calls Try.prog 35 #[.int .i64 n] w fun e w' => e = .returned (.bool (sizeB n)) ∧ w' = w := by
  by_cases h3 : n = 3
  · subst h3
    go_enter Try.func35, Try.ntmps35
    go_wp2
    go_ret
    exact ⟨rfl, rfl⟩
  · by_cases h5 : n = 5
    · subst h5
      go_enter Try.func35, Try.ntmps35
      go_wp2
      go_ret
      exact ⟨rfl, rfl⟩
    · by_cases h7 : n = 7
      · subst h7
        go_enter Try.func35, Try.ntmps35
        go_wp2
        go_ret
        exact ⟨rfl, rfl⟩
      · have hb : sizeB n = false := by simp [sizeB, h3, h5, h7]
        rw [hb]
        go_enter Try.func35, Try.ntmps35
        go_wp2
        go_ret
        exact ⟨by simp [h3, h5, h7], rfl⟩

set_option maxHeartbeats 1000000 in
theorem sSlotDraw_any (el sz id rd : Int) (w : World) :
    Calls Try.prog 24 #[.int .i64 el, .int .i64 sz, .int .i64 id, .int .i64 rd] w fun e w' => e = .returned (.int .i64 (slotC el sz id rd)) ∧ w' = w := by
  cases h1 : inB el 1 1000
  · have hz : slotC el sz id rd = 0 := by simp [slotC, slotB, h1]
    rw [hz]
    go_enter Try.func24, Try.ntmps24
    go_wp2_with (first
          | (go_at_call 28; refine (l1in_any _ _ _ _).mono ?_; rintro e w1 ⟨rfl, rfl⟩)
          | (go_at_call 35; refine (l3size_any _ _).mono ?_; rintro e w1 ⟨rfl, rfl⟩))
    go_ret
    exact ⟨rfl, rfl⟩
  ·
    cases h2 : sizeB sz
    · have hz : slotC el sz id rd = 0 := by simp [slotC, slotB, h1, h2]
      rw [hz]
      go_enter Try.func24, Try.ntmps24
      go_wp2_with (first
            | (go_at_call 28; refine (l1in_any _ _ _ _).mono ?_; rintro e w1 ⟨rfl, rfl⟩)
            | (go_at_call 35; refine (l3size_any _ _).mono ?_; rintro e w1 ⟨rfl, rfl⟩))
      go_ret
      exact ⟨rfl, rfl⟩
    ·
      cases h3 : inB id 1 sz
      · have hz : slotC el sz id rd = 0 := by simp [slotC, slotB, h1, h2, h3]
        rw [hz]
        go_enter Try.func24, Try.ntmps24
        go_wp2_with (first
              | (go_at_call 28; refine (l1in_any _ _ _ _).mono ?_; rintro e w1 ⟨rfl, rfl⟩)
              | (go_at_call 35; refine (l3size_any _ _).mono ?_; rintro e w1 ⟨rfl, rfl⟩))
        go_ret
        exact ⟨rfl, rfl⟩
      ·
        cases h4 : inB rd 0 1099511627776
        · have hz : slotC el sz id rd = 0 := by simp [slotC, slotB, h1, h2, h3, h4]
          rw [hz]
          go_enter Try.func24, Try.ntmps24
          go_wp2_with (first
                | (go_at_call 28; refine (l1in_any _ _ _ _).mono ?_; rintro e w1 ⟨rfl, rfl⟩)
                | (go_at_call 35; refine (l3size_any _ _).mono ?_; rintro e w1 ⟨rfl, rfl⟩))
          go_ret
          exact ⟨rfl, rfl⟩
        ·
          have hz : slotC el sz id rd = modI ((id - 1) * el.tdiv sz - rd) el := by simp [slotC, slotB, h1, h2, h3, h4]
          obtain ⟨f1, f2, f3, f4, f5, f6, f7, f8, f9, f10, f11, f12⟩ := slot_facts h1 h2 h3 h4
          rw [hz]
          go_enter Try.func24, Try.ntmps24
          go_wp2_with (first
                | (go_at_call 28; refine (l1in_any _ _ _ _).mono ?_; rintro e w1 ⟨rfl, rfl⟩)
                | (go_at_call 35; refine (l3size_any _ _).mono ?_; rintro e w1 ⟨rfl, rfl⟩)
                | (go_at_call 29; refine (l1mod_any _ el (by omega) (by omega) (by omega) (by omega) _).mono ?_; rintro e w1 ⟨rfl, rfl⟩))
          go_ret
          exact ⟨rfl, rfl⟩

set_option maxHeartbeats 400000 in
theorem lawSlotDraw_walk (el sz id rd : Int) (_ : -(2 ^ 63) ≤ el) (_ : el < 2 ^ 63) (_ : -(2 ^ 63) ≤ sz) (_ : sz < 2 ^ 63) (_ : -(2 ^ 63) ≤ id) (_ : id < 2 ^ 63) (_ : -(2 ^ 63) ≤ rd) (_ : rd < 2 ^ 63) (w : World) :
    Calls Try.prog 7 #[.int .i64 el, .int .i64 sz, .int .i64 id, .int .i64 rd] w fun e w' => e = .returned (.bool true) ∧ Below w.heap.size w w' := by
  go_enter Try.func7, Try.ntmps7
  go_wp2_with (first
    | (go_at_call 24; refine (sSlotDraw_any el sz id rd _).mono ?_; rintro e w1 ⟨rfl, rfl⟩)
    | (go_at_call 25; refine (slotDraw_any el sz id rd _).mono ?_; rintro e w1 ⟨rfl, rfl⟩))
  all_goals go_ret
  all_goals exact ⟨rfl, Below.refl _ _⟩

end Go.Proofs.Ytdobgdbceonjkaa
