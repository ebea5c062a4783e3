/-
  impl.wordAt, impl.openFrame.
-/
import Derived.Test.YtjoflnnomebkpaaDoorRdText
import Derived.Test.YtjoflnnomebkpaaDoorGround
namespace Go.Proofs.YtjoflnnomebkpaaDoor
open Go.RowKit
set_option linter.unusedVariables false

/-- the word at a place, lowest byte first -/
def wordN (l : List Int) (i : Nat) : Int := l[i]?.getD 0 + l[i + 1]?.getD 0 * 256 + l[i + 2]?.getD 0 * 65536 + l[i + 3]?.getD 0 * 16777216

theorem or_u32 (k : Nat) (a b : Int) (ha : 0 ≤ a) (ha' : a < 2 ^ k) (hb : 0 ≤ b) (hb' : b ≤ 255) (hk : k ≤ 24) : bits .or .u32 a (b * 2 ^ k) = a + b * 2 ^ k := by
  obtain ⟨a, rfl⟩ := Int.eq_ofNat_of_zero_le ha
  obtain ⟨b, rfl⟩ := Int.eq_ofNat_of_zero_le hb
  have hp : 2 ^ k ≤ 2 ^ 24 := Nat.pow_le_pow_right (by decide) hk
  have h5 : (2 : Nat) ^ 24 = 16777216 := by decide
  have ha2 : a < 2 ^ k := by exact_mod_cast ha'
  have hm : b * 2 ^ k ≤ 255 * 2 ^ k := Nat.mul_le_mul_right _ (by omega)
  have e : (b : Int) * 2 ^ k = ((b * 2 ^ k : Nat) : Int) := by simp
  rw [e, u32_or_nat a (b * 2 ^ k) (by omega) (by omega), Nat.or_comm, nat_join k (b * 2 ^ k) a (Nat.mul_mod_left _ _) ha2]
  omega

set_option maxHeartbeats 2000000 in
set_option maxRecDepth 100000 in
theorem wordAt0 (v : Value) (l : List Int) (w : World) (hv : Bs w v l) (hl : 8 < l.length) :
    Calls Tryd.prog 131 #[v, .int .i64 0] w fun e w' => e = .returned (.int .u32 (wordN l 0)) ∧ Below w.heap.size w w' := by
  obtain ⟨hm, h8, a, cap, rfl, hc⟩ := hv
  obtain ⟨b, off, rfl, hcell⟩ := hc 0 (by omega)
  have c0 := hcell 0 (by omega)
  have c1 := hcell 1 (by omega)
  have c2 := hcell 2 (by omega)
  have c3 := hcell 3 (by omega)
  have b0 := byte_at h8 0
  have b1 := byte_at h8 1
  have b2 := byte_at h8 2
  have b3 := byte_at h8 3
  unfold wordN
  simp only [Nat.zero_add, Nat.add_zero] at *
  generalize l[0]?.getD 0 = x0 at *
  generalize l[1]?.getD 0 = x1 at *
  generalize l[2]?.getD 0 = x2 at *
  generalize l[3]?.getD 0 = x3 at *
  have o1 := or_u32 8 x0 x1 (by omega) (by omega) (by omega) (by omega) (by omega)
  have o2 := or_u32 16 (x0 + x1 * 256) x2 (by omega) (by omega) (by omega) (by omega) (by omega)
  have o3 := or_u32 24 (x0 + x1 * 256 + x2 * 65536) x3 (by omega) (by omega) (by omega) (by omega) (by omega)
  simp only [Int.reducePow] at o1 o2 o3
  clear hcell hc h8
  unfold maxLen at hm
  go_enter Tryd.func131, Tryd.ntmps131
  go_wp2
  go_quiet (fail)
  go_wp2
  go_ret
  exact ⟨rfl, rfl, rfl, rfl, Nat.le_refl _, fun _ _ => rfl⟩
set_option maxHeartbeats 2000000 in
set_option maxRecDepth 100000 in
theorem wordAt4 (v : Value) (l : List Int) (w : World) (hv : Bs w v l) (hl : 8 < l.length) :
    Calls Tryd.prog 131 #[v, .int .i64 4] w fun e w' => e = .returned (.int .u32 (wordN l 4)) ∧ Below w.heap.size w w' := by
  obtain ⟨hm, h8, a, cap, rfl, hc⟩ := hv
  obtain ⟨b, off, rfl, hcell⟩ := hc 0 (by omega)
  have c0 := hcell 4 (by omega)
  have c1 := hcell 5 (by omega)
  have c2 := hcell 6 (by omega)
  have c3 := hcell 7 (by omega)
  have b0 := byte_at h8 4
  have b1 := byte_at h8 5
  have b2 := byte_at h8 6
  have b3 := byte_at h8 7
  unfold wordN
  simp only [Nat.reduceAdd] at *
  generalize l[4]?.getD 0 = x0 at *
  generalize l[5]?.getD 0 = x1 at *
  generalize l[6]?.getD 0 = x2 at *
  generalize l[7]?.getD 0 = x3 at *
  have o1 := or_u32 8 x0 x1 (by omega) (by omega) (by omega) (by omega) (by omega)
  have o2 := or_u32 16 (x0 + x1 * 256) x2 (by omega) (by omega) (by omega) (by omega) (by omega)
  have o3 := or_u32 24 (x0 + x1 * 256 + x2 * 65536) x3 (by omega) (by omega) (by omega) (by omega) (by omega)
  simp only [Int.reducePow] at o1 o2 o3
  clear hcell hc h8
  unfold maxLen at hm
  go_enter Tryd.func131, Tryd.ntmps131
  go_wp2
  go_quiet (fail)
  go_wp2
  go_ret
  exact ⟨rfl, rfl, rfl, rfl, Nat.le_refl _, fun _ _ => rfl⟩

end Go.Proofs.YtjoflnnomebkpaaDoor
