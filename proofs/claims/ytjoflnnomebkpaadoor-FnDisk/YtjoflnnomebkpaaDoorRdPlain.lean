/-
  Reading a body from left to right: on lists.
-/
import Derived.Test.YtjoflnnomebkpaaDoorGround
namespace Go.Proofs.YtjoflnnomebkpaaDoor
open Go.RowKit
set_option linter.unusedVariables false

/-- what the first k bytes of a number's form add up to -/
def valL (l : List Int) : Nat → Nat
  | 0 => 0
  | k + 1 => valL l k + (l[k]?.getD 0).toNat % 128 * 128 ^ k
theorem valL_lt (l : List Int) (k : Nat) : valL l k < 128 ^ k := by
  induction k with
  | zero => simp [valL]
  | succ k ih =>
    have h : (l[k]?.getD 0).toNat % 128 ≤ 127 := by omega
    have := Nat.mul_le_mul_right (128 ^ k) h
    rw [valL, Nat.pow_succ]
    omega

/-- the number whose form begins at place k, in at most f bytes: its value and how many bytes there are in all -/
def numAt (l : List Int) : Nat → Nat → Option (Nat × Nat)
  | 0, _ => none
  | f + 1, k =>
    if k < l.length then
      (if 128 ≤ l[k]?.getD 0 then numAt l f (k + 1)
       else if l[k]?.getD 0 = 0 ∧ 0 < k then none
       else some (valL l (k + 1), k + 1))
    else none
def numR (l : List Int) : Option (Nat × Nat) := numAt l 5 0

theorem numAt_bounds (l : List Int) (f : Nat) : ∀ k v n, f + k ≤ 5 → numAt l f k = some (v, n) → n ≤ l.length ∧ k < n ∧ v < 34359738368 := by
  induction f with
  | zero => intro k v n _ h; cases h
  | succ f ih =>
    intro k v n hk h
    unfold numAt at h
    split at h
    · next hl =>
      split at h
      · have := ih (k + 1) v n (by omega) h
        omega
      · split at h
        · cases h
        · injection h with h
          injection h with h1 h2
          have hv := valL_lt l (k + 1)
          have hp : 128 ^ (k + 1) ≤ 128 ^ 5 := Nat.pow_le_pow_right (by decide) (by omega)
          have : (128 : Nat) ^ 5 = 34359738368 := by decide
          omega
    · cases h
theorem numR_bounds {l : List Int} {v n : Nat} (h : numR l = some (v, n)) : n ≤ l.length ∧ 0 < n ∧ v < 34359738368 := numAt_bounds l 5 0 v n (by decide) h

/-- a reader's state: what is left, none behind a refusal -/
abbrev RSt := Option (List Int)

def rdNum : RSt → Nat × RSt
  | none => (0, none)
  | some l => match numR l with
    | none => (0, none)
    | some (v, n) => (v, some (l.drop n))
theorem rdNum_lt (st : RSt) : (rdNum st).1 < 34359738368 := by
  unfold rdNum
  split
  · simp
  · split
    · simp
    · next h => exact (numR_bounds h).2.2
def stLen : RSt → Nat
  | none => 0
  | some l => l.length
theorem rdNum_len (st : RSt) : stLen (rdNum st).2 ≤ stLen st := by
  unfold rdNum
  split
  · simp
  · split
    · simp [stLen]
    · next h => simp [stLen]

/-- the text of bytes -/
def textOf (l : List Int) : ByteArray := strOfNums l

def rdText (st : RSt) : ByteArray × RSt :=
  match (rdNum st).2 with
  | none => (ByteArray.empty, none)
  | some l => if 64 < (rdNum st).1 ∨ l.length < (rdNum st).1 then (ByteArray.empty, none) else (strOfNums (l.take (rdNum st).1), some (l.drop (rdNum st).1))

theorem rdText_size (st : RSt) : (rdText st).1.size ≤ 64 := by
  unfold rdText
  split
  · decide
  · split
    · decide
    · next h =>
      rw [strOfNums_size, List.length_take]
      omega
theorem rdText_len (st : RSt) : stLen (rdText st).2 ≤ stLen st := by
  have h := rdNum_len st
  unfold rdText
  split
  · simp [stLen]
  · next l e =>
    rw [e] at h
    split
    · simp [stLen]
    · simp only [stLen, List.length_drop] at h ⊢
      omega

theorem i64_or_nat (a b : Nat) (ha : a < 9223372036854775808) (hb : b < 9223372036854775808) : bits .or .i64 (a : Int) (b : Int) = ((a ||| b : Nat) : Int) := by
  have hx : a ||| b < 2 ^ 63 := Nat.or_lt_two_pow (by omega) (by omega)
  show IntKind.i64.wrap ((BitVec.ofInt 64 (a : Int) ||| BitVec.ofInt 64 (b : Int)).toNat : Int) = _
  rw [BitVec.toNat_or, ofInt_u64 a (by omega), ofInt_u64 b (by omega)]
  rw [IntKind.wrap_i64]
  omega
theorem or_step (a x k : Nat) (ha : a < 128 ^ k) (hx : x < 128) (hk : k ≤ 4) : bits .or .i64 (a : Int) ((x : Int) * 128 ^ k) = ((a + x * 128 ^ k : Nat) : Int) := by
  have h2 : (128 : Nat) ^ k = 2 ^ (7 * k) := by rw [Nat.pow_mul]
  have hp : 128 ^ k ≤ 128 ^ 4 := Nat.pow_le_pow_right (by decide) hk
  have h5 : (128 : Nat) ^ 4 = 268435456 := by decide
  have hm : x * 128 ^ k ≤ 127 * 128 ^ k := Nat.mul_le_mul_right _ (by omega)
  have e : (x : Int) * 128 ^ k = ((x * 128 ^ k : Nat) : Int) := by simp
  rw [e, i64_or_nat a (x * 128 ^ k) (by omega) (by omega)]
  congr 1
  rw [Nat.or_comm, nat_join (7 * k) (x * 128 ^ k) a (by rw [h2]; exact Nat.mul_mod_left _ _) (by rw [← h2]; exact ha), Nat.add_comm]
theorem and_127 (c : Int) (h0 : 0 ≤ c) (h1 : c ≤ 255) : bits .and .u8 c 127 = ((c.toNat % 128 : Nat) : Int) := by
  rw [u8_and c 127 h0 (by omega) (by decide) (by decide)]
  congr 1
  exact Nat.and_two_pow_sub_one_eq_mod _ 7
end Go.Proofs.YtjoflnnomebkpaaDoor
