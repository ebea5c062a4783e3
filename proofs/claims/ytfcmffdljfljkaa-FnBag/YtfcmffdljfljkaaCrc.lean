/-
  The walks of both Crc32 and of the law FnExactCrc32.
-/
import Derived.Test.YtfcmffdljfljkaaCrcPlain
namespace Go.Proofs.Ytfcmffdljfljkaa
open Go.RowKit
set_option linter.unusedVariables false

/-- the check sum -/
def crcOf (l : List Int) : Nat := crcSt l l.length ^^^ 4294967295

set_option maxHeartbeats 1000000 in
theorem implCrc_any (v : Value) (l : List Int) (w : World) (hv : Bs w v l) :
    Calls Try.prog 115 #[v] w fun e w' => e = .returned (.int .u32 (crcOf l : Nat)) ∧ w' = w := by
  obtain ⟨hl, h8, a, cap, rfl, hc⟩ := hv
  unfold maxLen at hl
  go_enter Try.func115, Try.ntmps115
  go_wp2
  go_loop [3, 9] (fun s i => ∃ k : Nat, k ≤ l.length ∧ i = .int .i64 k ∧ s = .int .u32 (crcSt l k : Nat)) (fun _ i => l.length - (intOf i).toNat)
  case atStart => exact ⟨0, Nat.zero_le _, rfl, rfl⟩
  case round =>
    obtain ⟨k, hk, rfl, rfl⟩ := hrel
    have hr := crcSt_lt l h8 k
    by_cases hlt : k < l.length
    · obtain ⟨b, off, rfl, hcell⟩ := hc k hlt
      have hck := hcell k hlt
      have h8k := byte_at h8 k
      have hx := x0 (crcSt l k) _ hr h8k.1 h8k.2
      have hS : Hid (crcSt l (k + 1) = stepsN 8 (crcSt l k ^^^ (l[k]?.getD 0).toNat)) := rfl
      have hs0 := xor_lt (crcSt l k) (l[k]?.getD 0).toNat hr (by omega)
      generalize hg : crcSt l k ^^^ (l[k]?.getD 0).toNat = s0 at hx hS hs0
      have eg : l[k]?.getD 0 = l[k] := by simp [hlt]
      rw [eg] at hx h8k hck
      clear hcell hc hg eg
      go_wp2
      go_loop [3, 17] (fun s i => ∃ j : Nat, j ≤ 8 ∧ i = .int .i64 j ∧ s = .int .u32 (stepsN j s0 : Nat)) (fun _ i => 8 - (intOf i).toNat)
      case atStart => exact ⟨0, by omega, rfl, by simp [stepsN]⟩
      case round =>
        obtain ⟨j, hj, rfl, rfl⟩ := hrel
        have hq := stepsN_lt j s0 hs0
        by_cases hlt' : j < 8
        · have H1 := i1 (stepsN j s0) hq
          have H0 := i0 (stepsN j s0) hq
          have HS : Hid (stepsN (j + 1) s0 = stepN (stepsN j s0)) := rfl
          generalize stepsN j s0 = q at HS hq H1 H0
          have K1 : Hid ((bits .and .u32 (q : Int) 1 == 1) = true → bits .xor .u32 ((q : Int) / 2) 3988292384 = ((stepN q : Nat) : Int)) := H1
          have K0 : Hid ((bits .and .u32 (q : Int) 1 == 1) = false → (q : Int) / 2 = ((stepN q : Nat) : Int)) := H0
          clear H1 H0
          go_wp2
          · go_round
            case rel => exact ⟨j + 1, by omega, by go_num, by rw [HS.out, ← K1.out (by assumption)]⟩
            case measure => simp [intOf]; omega
          · go_round
            case rel => exact ⟨j + 1, by omega, by go_num, by rw [HS.out, ← K0.out (by assumption)]⟩
            case measure => simp [intOf]; omega
        · have e8 : j = 8 := by omega
          subst e8
          go_wp2
          go_round
          case rel => exact ⟨k + 1, by omega, by go_num, by rw [hS.out]⟩
          case measure => simp [intOf]; omega
    · have e : k = l.length := by omega
      subst e
      have hm := max_xor _ hr
      go_wp2
      go_ret
      exact ⟨by simp [crcOf], rfl⟩

set_option maxHeartbeats 1000000 in
theorem specCrc_any (v : Value) (l : List Int) (w : World) (hv : Bs w v l) :
    Calls Try.prog 96 #[v] w fun e w' => e = .returned (.int .u32 (crcOf l : Nat)) ∧ w' = w := by
  obtain ⟨hl, h8, a, cap, rfl, hc⟩ := hv
  unfold maxLen at hl
  go_enter Try.func96, Try.ntmps96
  go_wp2
  go_loop [3, 4] (fun s i => ∃ k : Nat, k ≤ l.length ∧ i = .int .i64 k ∧ s = .int .u32 (crcSt l k : Nat)) (fun _ i => l.length - (intOf i).toNat)
  case atStart => exact ⟨0, Nat.zero_le _, rfl, rfl⟩
  case round =>
    obtain ⟨k, hk, rfl, rfl⟩ := hrel
    have hr := crcSt_lt l h8 k
    by_cases hlt : k < l.length
    · obtain ⟨b, off, rfl, hcell⟩ := hc k hlt
      have hck := hcell k hlt
      have h8k := byte_at h8 k
      have hS : Hid (crcSt l (k + 1) = stepsN 8 (crcSt l k ^^^ (l[k]?.getD 0).toNat)) := rfl
      have eg : l[k]?.getD 0 = l[k] := by simp [hlt]
      rw [eg] at h8k hck hS
      generalize hlk : l[k] = lk at h8k hck hS
      obtain ⟨b0, b1⟩ := h8k
      clear hcell hc eg
      go_wp2
      go_loop [3, 5] (fun s i => ∃ j : Nat, j ≤ 8 ∧ i = .int .i64 j ∧ s = .int .u32 ((stepsN j (crcSt l k ^^^ lk.toNat) ^^^ lk.toNat / 2 ^ j : Nat))) (fun _ i => 8 - (intOf i).toNat)
      case atStart => exact ⟨0, by omega, rfl, by simp [stepsN, Nat.xor_assoc]⟩
      case round =>
        obtain ⟨j, hj, rfl, rfl⟩ := hrel
        have hq := stepsN_lt j (crcSt l k ^^^ lk.toNat) (xor_lt _ _ hr (by omega))
        by_cases hlt' : j < 8
        · have HS : Hid (stepsN (j + 1) (crcSt l k ^^^ lk.toNat) = stepN (stepsN j (crcSt l k ^^^ lk.toNat))) := rfl
          generalize stepsN j (crcSt l k ^^^ lk.toNat) = S at HS hq
          have K1 : Hid _ := s1 S lk.toNat j lk b0 b1 rfl hq
          have K0 : Hid _ := s0 S lk.toNat j lk b0 b1 rfl hq
          have hXlt := xor_lt S (lk.toNat / 2 ^ j) hq (by have := Nat.div_le_self lk.toNat (2 ^ j); omega)
          generalize S ^^^ lk.toNat / 2 ^ j = X at K1 K0 hXlt
          go_wp2
          · go_round
            case rel => exact ⟨j + 1, by omega, by go_num, by rw [HS.out, ← K1.out (by assumption)]⟩
            case measure => simp [intOf]; omega
          · go_round
            case rel => exact ⟨j + 1, by omega, by go_num, by rw [HS.out, ← K0.out (by assumption)]⟩
            case measure => simp [intOf]; omega
        · have e8 : j = 8 := by omega
          subst e8
          have hz : lk.toNat / 2 ^ 8 = 0 := by omega
          rw [hz, Nat.xor_zero]
          go_wp2
          go_round
          case rel => exact ⟨k + 1, by omega, by go_num, by rw [hS.out]⟩
          case measure => simp [intOf]; omega
    · have e : k = l.length := by omega
      subst e
      have hm := xor_max _ hr
      go_wp2
      go_ret
      exact ⟨by simp [crcOf], rfl⟩
end Go.Proofs.Ytfcmffdljfljkaa
