/-
  impl.SlotDraw.
-/
import Derived.Test.YtdobgdbceonjkabMod
namespace Go.Proofs.Ytdobgdbceonjkab
open Go.RowKit
set_option linter.unusedVariables false

/-- a cluster's size -/
def sizeB (n : Int) : Bool := n == 3 || n == 5 || n == 7
theorem sizeB_iff (n : Int) : sizeB n = true ↔ n = 3 ∨ n = 5 ∨ n = 7 := by simp [sizeB, or_assoc]

set_option maxHeartbeats 400000 in
theorem sizeFits_any (n : Int) (w : World) :
    Calls Try.prog 40 #[.int .i64 n] w fun e w' => e = .returned (.bool (sizeB n)) ∧ w' = w := by
  by_cases h3 : n = 3
  · subst h3
    go_enter Try.func40, Try.ntmps40
    go_wp2
    go_ret
    exact ⟨rfl, rfl⟩
  · by_cases h5 : n = 5
    · subst h5
      go_enter Try.func40, Try.ntmps40
      go_wp2
      go_ret
      exact ⟨rfl, rfl⟩
    · by_cases h7 : n = 7
      · subst h7
        go_enter Try.func40, Try.ntmps40
        go_wp2
        go_ret
        exact ⟨rfl, rfl⟩
      · have hb : sizeB n = false := by simp [sizeB, h3, h5, h7]
        rw [hb]
        go_enter Try.func40, Try.ntmps40
        go_wp2
        go_ret
        exact ⟨by simp [h3, h5, h7], rfl⟩

def slotB (el sz id rd : Int) : Bool := inB el 1 1000 && sizeB sz && inB id 1 sz && inB rd 0 1099511627776
def slotC (el sz id rd : Int) : Int := if slotB el sz id rd = true then modI ((id - 1) * el.tdiv sz - rd) el else 0

theorem slot_facts {el sz id rd : Int} (h1 : inB el 1 1000 = true) (h2 : sizeB sz = true) (h3 : inB id 1 sz = true) (h4 : inB rd 0 1099511627776 = true) :
    0 ≤ el.tdiv sz ∧ el.tdiv sz ≤ 1000 ∧ 0 ≤ (id - 1) * el.tdiv sz ∧ (id - 1) * el.tdiv sz ≤ 7000 ∧ 0 < el ∧ el ≤ 1000 ∧ 3 ≤ sz ∧ sz ≤ 7 ∧ 1 ≤ id ∧ id ≤ 7 ∧ 0 ≤ rd ∧ rd ≤ 1099511627776 := by
  rw [inB_iff] at h1 h3 h4
  rw [sizeB_iff] at h2
  have q0 : 0 ≤ el.tdiv sz := Int.tdiv_nonneg (by omega) (by omega)
  have q1 : el.tdiv sz ≤ 1000 := by
    have : el.tdiv sz ≤ el := Int.tdiv_le_self _ (by omega)
    omega
  have m1 : (id - 1) * el.tdiv sz ≤ 7 * 1000 := Int.mul_le_mul (by omega) q1 q0 (by omega)
  have m0 : 0 ≤ (id - 1) * el.tdiv sz := Int.mul_nonneg (by omega) q0
  omega

set_option maxHeartbeats 1000000 in
theorem slotDraw_any (el sz id rd : Int) (w : World) :
    Calls Try.prog 20 #[.int .i64 el, .int .i64 sz, .int .i64 id, .int .i64 rd] w fun e w' => e = .returned (.int .i64 (slotC el sz id rd)) ∧ w' = w := by
  cases h1 : inB el 1 1000
  · have hz : slotC el sz id rd = 0 := by simp [slotC, slotB, h1]
    rw [hz]
    go_enter Try.func20, Try.ntmps20
    go_wp2_with (first
          | (go_at_call 34; refine (within_any _ _ _ _).mono ?_; rintro e w1 ⟨rfl, rfl⟩)
          | (go_at_call 40; refine (sizeFits_any _ _).mono ?_; rintro e w1 ⟨rfl, rfl⟩))
    go_ret
    exact ⟨rfl, rfl⟩
  ·
    cases h2 : sizeB sz
    · have hz : slotC el sz id rd = 0 := by simp [slotC, slotB, h1, h2]
      rw [hz]
      go_enter Try.func20, Try.ntmps20
      go_wp2_with (first
            | (go_at_call 34; refine (within_any _ _ _ _).mono ?_; rintro e w1 ⟨rfl, rfl⟩)
            | (go_at_call 40; refine (sizeFits_any _ _).mono ?_; rintro e w1 ⟨rfl, rfl⟩))
      go_ret
      exact ⟨rfl, rfl⟩
    ·
      cases h3 : inB id 1 sz
      · have hz : slotC el sz id rd = 0 := by simp [slotC, slotB, h1, h2, h3]
        rw [hz]
        go_enter Try.func20, Try.ntmps20
        go_wp2_with (first
              | (go_at_call 34; refine (within_any _ _ _ _).mono ?_; rintro e w1 ⟨rfl, rfl⟩)
              | (go_at_call 40; refine (sizeFits_any _ _).mono ?_; rintro e w1 ⟨rfl, rfl⟩))
        go_ret
        exact ⟨rfl, rfl⟩
      ·
        cases h4 : inB rd 0 1099511627776
        · have hz : slotC el sz id rd = 0 := by simp [slotC, slotB, h1, h2, h3, h4]
          rw [hz]
          go_enter Try.func20, Try.ntmps20
          go_wp2_with (first
                | (go_at_call 34; refine (within_any _ _ _ _).mono ?_; rintro e w1 ⟨rfl, rfl⟩)
                | (go_at_call 40; refine (sizeFits_any _ _).mono ?_; rintro e w1 ⟨rfl, rfl⟩))
          go_ret
          exact ⟨rfl, rfl⟩
        ·
          have hz : slotC el sz id rd = modI ((id - 1) * el.tdiv sz - rd) el := by simp [slotC, slotB, h1, h2, h3, h4]
          obtain ⟨f1, f2, f3, f4, f5, f6, f7, f8, f9, f10, f11, f12⟩ := slot_facts h1 h2 h3 h4
          rw [hz]
          go_enter Try.func20, Try.ntmps20
          go_wp2_with (first
                | (go_at_call 34; refine (within_any _ _ _ _).mono ?_; rintro e w1 ⟨rfl, rfl⟩)
                | (go_at_call 40; refine (sizeFits_any _ _).mono ?_; rintro e w1 ⟨rfl, rfl⟩)
                | (go_at_call 36; refine (mod_any _ el (by omega) (by omega) (by omega) (by omega) _).mono ?_; rintro e w1 ⟨rfl, rfl⟩))
          go_ret
          exact ⟨rfl, rfl⟩

end Go.Proofs.Ytdobgdbceonjkab
