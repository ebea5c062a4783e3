/-
  The shortest form of a number, as a list of bytes.
-/
import Derived.Test.YtfcmffdljfljkaaGround
namespace Go.Proofs.Ytfcmffdljfljkaa
open Go.RowKit
set_option linter.unusedVariables false

/-- with so many steps at the most -/
def numA : Nat → Nat → List Int
  | 0, n => [(n : Int)]
  | f + 1, n => if n < 128 then [(n : Int)] else ((n % 128 + 128 : Nat) : Int) :: numA f (n / 128)
def numL (n : Nat) : List Int := numA n n

theorem numA_enough (f : Nat) : ∀ g n : Nat, n ≤ f → n ≤ g → numA f n = numA g n := by
  induction f with
  | zero =>
    intro g n hf hg
    have e : n = 0 := by omega
    subst e
    cases g with
    | zero => rfl
    | succ g => simp [numA]
  | succ f ih =>
    intro g n hf hg
    cases g with
    | zero =>
      have e : n = 0 := by omega
      subst e
      simp [numA]
    | succ g =>
      by_cases h : n < 128
      · simp [numA, h]
      · simp only [numA, if_neg h]
        rw [ih g (n / 128) (by omega) (by omega)]

theorem numL_small {n : Nat} (h : n < 128) : numL n = [(n : Int)] := by
  unfold numL
  cases n with
  | zero => rfl
  | succ n => simp [numA, h]
theorem numL_big {n : Nat} (h : ¬ n < 128) : numL n = ((n % 128 + 128 : Nat) : Int) :: numL (n / 128) := by
  unfold numL
  cases n with
  | zero => omega
  | succ n =>
    rw [numA, if_neg h, numA_enough n ((n + 1) / 128) ((n + 1) / 128) (by omega) (by omega)]
theorem numL_byte (n : Nat) : ∀ x ∈ numL n, 0 ≤ x ∧ x ≤ 255 := by
  induction n using Nat.strongRecOn with
  | ind n ih =>
    by_cases h : n < 128
    · rw [numL_small h]; intro x hx; simp at hx; subst hx; omega
    · rw [numL_big h]
      intro x hx
      rcases List.mem_cons.1 hx with rfl | hx
      · omega
      · exact ih (n / 128) (by omega) x hx
theorem numL_pos (n : Nat) : 0 < (numL n).length := by
  by_cases h : n < 128
  · rw [numL_small h]; simp
  · rw [numL_big h]; simp
theorem numL_len (k : Nat) : ∀ n : Nat, n < 128 ^ (k + 1) → (numL n).length ≤ k + 1 := by
  induction k with
  | zero => intro n h; rw [numL_small (by simpa using h)]; simp
  | succ k ih =>
    intro n h
    by_cases hn : n < 128
    · rw [numL_small hn]; simp
    · rw [numL_big hn, List.length_cons]
      have : n / 128 < 128 ^ (k + 1) := by
        rw [Nat.div_lt_iff_lt_mul (by decide)]
        rw [Nat.pow_succ] at h
        exact h
      have := ih _ this
      omega
theorem numL_len9 (n : Nat) (h : n < 9223372036854775808) : (numL n).length ≤ 9 := numL_len 8 n (by simpa using h)

/-- what 'byte(n) | 128' is -/
theorem or_128 (m : Nat) : bits .or .u8 ((m : Int) % 256) 128 = ((m % 128 + 128 : Nat) : Int) := by
  have e : (m : Int) % 256 = ((m % 256 : Nat) : Int) := by omega
  rw [e]
  have := u8_or_nat (m % 256) 128 (by omega) (by decide)
  refine this.trans ?_
  congr 1
  have h7 : m % 256 = m % 128 + 128 * (m / 128 % 2) := by omega
  have hj := nat_join 7 128 (m % 128) (by decide) (by omega)
  rcases (by omega : m / 128 % 2 = 0 ∨ m / 128 % 2 = 1) with h | h
  · rw [h7, h, Nat.or_comm]
    simpa [Nat.add_comm] using hj
  · have e2 : m % 256 = 128 ||| (m % 128) := by rw [hj]; omega
    rw [e2, Nat.or_comm, ← Nat.or_assoc, Nat.or_self, hj, Nat.add_comm]
end Go.Proofs.Ytfcmffdljfljkaa
