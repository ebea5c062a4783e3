/-
  impl.mod and spec.l1mod: the document's mod.
-/
import Derived.Test.YthondmpnleleiaaL1in
namespace Go.Proofs.Ythondmpnleleiaa
open Go.RowKit
set_option linter.unusedVariables false

theorem tmod_lo (x n : Int) (hn : 0 < n) : -n < x.tmod n := Int.lt_tmod_of_pos x hn
theorem tmod_hi (x n : Int) (hn : 0 < n) : x.tmod n < n := Int.tmod_lt_of_pos x hn
theorem tmod_neg (x n : Int) (hn : 0 < n) (h : x.tmod n < 0) : x.tmod n + n = x % n := by
  have e := Int.tmod_add_mul_tdiv x n
  have b1 := tmod_lo x n hn
  have hx : x = (x.tmod n + n) + n * (x.tdiv n - 1) := by rw [Int.mul_sub]; omega
  have : x % n = ((x.tmod n + n) + n * (x.tdiv n - 1)) % n := by rw [← hx]
  rw [this, Int.add_mul_emod_self_left, Int.emod_eq_of_lt] <;> omega
theorem tmod_pos (x n : Int) (hn : 0 < n) (h : ¬ x.tmod n < 0) : x.tmod n = x % n := by
  have e := Int.tmod_add_mul_tdiv x n
  have b2 := tmod_hi x n hn
  have : x % n = (x.tmod n + n * x.tdiv n) % n := by rw [e]
  rw [this, Int.add_mul_emod_self_left, Int.emod_eq_of_lt] <;> omega

/-- the document's mod, as a name that the walk leaves whole -/
def modI (x n : Int) : Int := x % n
theorem modI_ge (x n : Int) (hn : 0 < n) : 0 ≤ modI x n := Int.emod_nonneg _ (by omega)
theorem modI_lt (x n : Int) (hn : 0 < n) : modI x n < n := Int.emod_lt_of_pos _ hn

set_option maxHeartbeats 400000 in
theorem mod_any (x n : Int) (hn : 0 < n) (hN : n < 2 ^ 62) (hx : -(2 ^ 63) ≤ x) (hX : x < 2 ^ 63) (w : World) :
    Calls Try.prog 79 #[.int .i64 x, .int .i64 n] w fun e w' => e = .returned (.int .i64 (modI x n)) ∧ w' = w := by
  have b1 := tmod_lo x n hn
  have b2 := tmod_hi x n hn
  by_cases h : x.tmod n < 0
  · have hb := tmod_neg x n hn h
    unfold modI; rw [← hb]
    go_enter Try.func79, Try.ntmps79
    go_wp2
    go_ret
    exact ⟨by simp; omega, rfl⟩
  · have hb := tmod_pos x n hn h
    unfold modI; rw [← hb]
    go_enter Try.func79, Try.ntmps79
    go_wp2
    go_ret
    exact ⟨by simp, rfl⟩

set_option maxHeartbeats 400000 in
theorem l1mod_any (x n : Int) (hn : 0 < n) (hN : n < 2 ^ 62) (hx : -(2 ^ 63) ≤ x) (hX : x < 2 ^ 63) (w : World) :
    Calls Try.prog 61 #[.int .i64 x, .int .i64 n] w fun e w' => e = .returned (.int .i64 (modI x n)) ∧ w' = w := by
  have b1 := tmod_lo x n hn
  have b2 := tmod_hi x n hn
  by_cases h : x.tmod n < 0
  · have hb := tmod_neg x n hn h
    unfold modI; rw [← hb]
    go_enter Try.func61, Try.ntmps61
    go_wp2
    go_ret
    exact ⟨by simp; omega, rfl⟩
  · have hb := tmod_pos x n hn h
    unfold modI; rw [← hb]
    go_enter Try.func61, Try.ntmps61
    go_wp2
    go_ret
    exact ⟨by simp, rfl⟩

end Go.Proofs.Ythondmpnleleiaa
