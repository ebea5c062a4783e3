/-
  The check sum: the program's and the specification's, over one plain function of lists.
-/
import Derived.Test.YtfcmffdljfljkaaGround
import Derived.Laws.BitsAllLaws
namespace Go.Proofs.Ytfcmffdljfljkaa
open Go.RowKit
set_option linter.unusedVariables false

def stepN (r : Nat) : Nat := if r % 2 = 1 then (r / 2) ^^^ 3988292384 else r / 2
def stepsN : Nat → Nat → Nat
  | 0, r => r
  | n + 1, r => stepN (stepsN n r)
/-- the register behind the first k bytes -/
def crcSt (l : List Int) : Nat → Nat
  | 0 => 4294967295
  | k + 1 => stepsN 8 (crcSt l k ^^^ (l[k]?.getD 0).toNat)

theorem stepN_lt (q : Nat) (h : q < 4294967296) : stepN q < 4294967296 := by
  unfold stepN
  split
  · exact Nat.xor_lt_two_pow (n := 32) (by omega) (by decide)
  · omega
theorem stepsN_lt (n q : Nat) (h : q < 4294967296) : stepsN n q < 4294967296 := by
  induction n with
  | zero => exact h
  | succ n ih => exact stepN_lt _ ih
theorem xor_lt (a b : Nat) (ha : a < 4294967296) (hb : b < 4294967296) : a ^^^ b < 4294967296 := Nat.xor_lt_two_pow (n := 32) ha hb
theorem crcSt_lt (l : List Int) (h8 : ∀ x ∈ l, 0 ≤ x ∧ x ≤ 255) (k : Nat) : crcSt l k < 4294967296 := by
  induction k with
  | zero => exact (by decide : (4294967295 : Nat) < 4294967296)
  | succ k ih =>
    have := byte_at h8 k
    exact stepsN_lt _ _ (xor_lt _ _ ih (by omega))

theorem bit0 (q : Nat) (hq : q < 4294967296) : bits .and .u32 (q : Int) 1 = ((q % 2 : Nat) : Int) := by
  have := u32_and_nat q 1 hq (by decide)
  rw [Nat.and_one_is_mod] at this
  exact this
theorem i1 (q : Nat) (hq : q < 4294967296) (h : (bits .and .u32 (q : Int) 1 == 1) = true) : bits .xor .u32 ((q : Int) / 2) 3988292384 = ((stepN q : Nat) : Int) := by
  rw [bit0 q hq] at h
  have h' : q % 2 = 1 := by simp at h; omega
  have := u32_xor_nat (q / 2) 3988292384 (by omega) (by decide)
  rw [stepN, if_pos h']
  rw [← this]
  congr 1
theorem i0 (q : Nat) (hq : q < 4294967296) (h : (bits .and .u32 (q : Int) 1 == 1) = false) : (q : Int) / 2 = ((stepN q : Nat) : Int) := by
  rw [bit0 q hq] at h
  have h' : ¬ q % 2 = 1 := by simp at h; omega
  rw [stepN, if_neg h']
  rfl
theorem x0 (r : Nat) (c : Int) (hr : r < 4294967296) (h0 : 0 ≤ c) (h1 : c ≤ 255) : bits .xor .u32 (r : Int) c = ((r ^^^ c.toNat : Nat) : Int) := by
  have e : c = (c.toNat : Int) := by omega
  have := u32_xor_nat r c.toNat hr (by omega)
  rw [← e] at this
  exact this

theorem xor_max (r : Nat) (hr : r < 4294967296) : bits .xor .u32 (r : Int) 4294967295 = ((r ^^^ 4294967295 : Nat) : Int) := u32_xor_nat r 4294967295 hr (by decide)
theorem max_xor (r : Nat) (hr : r < 4294967296) : bits .xor .u32 IntKind.u32.max (r : Int) = ((r ^^^ 4294967295 : Nat) : Int) := by
  rw [Nat.xor_comm]
  exact u32_xor_nat 4294967295 r (by decide) hr

/-! the specification's step: its register is the program's, with the rest of the byte taken out again -/
theorem low_eq (S d r : Nat) (hr : r = S ^^^ d) (hr' : r < 4294967296) (hd : d < 4294967296) :
    bits .and .u32 (bits .xor .u32 (r : Int) (bits .and .u32 (d : Int) 1)) 1 = ((S % 2 : Nat) : Int) := by
  rw [bit0 d hd, u32_xor_nat r (d % 2) hr' (by omega), bit0 _ (xor_lt _ _ hr' (by omega))]
  congr 1
  subst hr
  have m2 : ∀ a b : Nat, (a ^^^ b) % 2 = (a % 2) ^^^ (b % 2) := fun a b => Nat.xor_mod_two_pow (n := 1)
  rw [m2, m2, Nat.mod_mod, Nat.xor_assoc, Nat.xor_self, Nat.xor_zero]
theorem half_xor (S d : Nat) : (S ^^^ d) / 2 = (S / 2) ^^^ (d / 2) := by
  have := Nat.shiftRight_xor_distrib (a := S) (b := d) (i := 1)
  simpa [Nat.shiftRight_eq_div_pow] using this
theorem half_pow (c j : Nat) : c / 2 ^ j / 2 = c / 2 ^ (j + 1) := by rw [Nat.div_div_eq_div_mul, Nat.pow_succ]
theorem byte_shift (c : Int) (j : Nat) (h0 : 0 ≤ c) (h1 : c ≤ 255) : c / 2 ^ j % 4294967296 = ((c.toNat / 2 ^ j : Nat) : Int) := by
  obtain ⟨n, rfl⟩ := Int.eq_ofNat_of_zero_le h0
  have h : n / 2 ^ j ≤ n := Nat.div_le_self _ _
  have e : ((n : Int) / 2 ^ j) = ((n / 2 ^ j : Nat) : Int) := by simp
  rw [e]
  simp only [Int.toNat_natCast]
  generalize n / 2 ^ j = d at h
  omega
theorem s1 (S c : Nat) (j : Nat) (lk : Int) (h0 : 0 ≤ lk) (h1 : lk ≤ 255) (hc : c = lk.toNat) (hS : S < 4294967296)
    (h : (bits .and .u32 (bits .xor .u32 ((S ^^^ c / 2 ^ j : Nat) : Int) (bits .and .u32 (lk / 2 ^ j % 4294967296) 1)) 1 == 1) = true) :
    bits .xor .u32 (((S ^^^ c / 2 ^ j : Nat) : Int) / 2) 3988292384 = ((stepN S ^^^ c / 2 ^ (j + 1) : Nat) : Int) := by
  have hd : c / 2 ^ j ≤ c := Nat.div_le_self _ _
  have hlt := xor_lt S (c / 2 ^ j) hS (by omega)
  rw [byte_shift lk j h0 h1, ← hc, low_eq S (c / 2 ^ j) _ rfl hlt (by omega)] at h
  have h' : S % 2 = 1 := by simp at h; omega
  rw [stepN, if_pos h', ← half_pow]
  have := u32_xor_nat ((S ^^^ c / 2 ^ j) / 2) 3988292384 (by omega) (by decide)
  rw [half_xor] at this
  have e : ((S ^^^ c / 2 ^ j : Nat) : Int) / 2 = (((S / 2) ^^^ (c / 2 ^ j / 2) : Nat) : Int) := by rw [← half_xor]; rfl
  rw [e]
  refine this.trans ?_
  congr 1
  rw [Nat.xor_assoc, Nat.xor_comm (c / 2 ^ j / 2), ← Nat.xor_assoc]
theorem s0 (S c : Nat) (j : Nat) (lk : Int) (h0 : 0 ≤ lk) (h1 : lk ≤ 255) (hc : c = lk.toNat) (hS : S < 4294967296)
    (h : (bits .and .u32 (bits .xor .u32 ((S ^^^ c / 2 ^ j : Nat) : Int) (bits .and .u32 (lk / 2 ^ j % 4294967296) 1)) 1 == 1) = false) :
    ((S ^^^ c / 2 ^ j : Nat) : Int) / 2 = ((stepN S ^^^ c / 2 ^ (j + 1) : Nat) : Int) := by
  have hd : c / 2 ^ j ≤ c := Nat.div_le_self _ _
  have hlt := xor_lt S (c / 2 ^ j) hS (by omega)
  rw [byte_shift lk j h0 h1, ← hc, low_eq S (c / 2 ^ j) _ rfl hlt (by omega)] at h
  have h' : ¬ S % 2 = 1 := by simp at h; omega
  rw [stepN, if_neg h', ← half_pow, ← half_xor]
  rfl
end Go.Proofs.Ytfcmffdljfljkaa
