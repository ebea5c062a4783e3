/-
  spec.l1four, spec.l1open.
-/
import Derived.Test.YtafmjckpbcijoaaGreatDoorGround4
import Derived.Test.YtafmjckpbcijoaaGreatDoorGround
import Derived.Test.YtafmjckpbcijoaaGreatDoorGround3
namespace Go.Proofs.YtafmjckpbcijoaaGreatDoor
open Go.RowKit
set_option linter.unusedVariables false
set_option linter.unusedSimpArgs false

/-- the four bytes of a word, lowest first -/
def fourL (x : Nat) : List Int := [(x : Int) % 256, (x : Int) / 256 % 256, (x : Int) / 65536 % 256, (x : Int) / 16777216]

set_option maxHeartbeats 1000000 in
theorem specFour_at (x : Nat) (w : World) (hx : x < 4294967296) :
    Calls Tryz.prog 58 #[.int .u32 x] w fun e w' => ∃ v', e = .returned v' ∧ Own w' w.heap.size v' (fourL x) ∧ Below w.heap.size w w' := by
  have hO := Own.lit w [(x : Int) % 256, (x : Int) / 256 % 256, (x : Int) / 65536 % 256, (x : Int) / 16777216] #[.int .u8 ((x : Int) % 256), .int .u8 ((x : Int) / 256 % 256), .int .u8 ((x : Int) / 65536 % 256), .int .u8 ((x : Int) / 16777216)] rfl (by intro y hy; simp only [List.mem_cons, List.not_mem_nil, or_false] at hy; omega) (by simp [maxLen])
  have HO : Hid _ := hO
  clear hO
  go_enter Tryz.func58, Tryz.ntmps58
  go_wp2
  go_ret
  exact ⟨_, rfl, HO.out, (Below.refl _ _).alloc (Nat.le_refl _) _⟩

theorem four_at (x k : Nat) (hk : k < 4) (hx : x < 4294967296) : (0 : Int) ≤ (fourL x)[k]?.getD 0 ∧ (fourL x)[k]?.getD 0 ≤ 255 := by
  rcases (show k = 0 ∨ k = 1 ∨ k = 2 ∨ k = 3 by omega) with rfl | rfl | rfl | rfl <;> simp [fourL] <;> omega

/-- the word at a place is x if and only if its four bytes are -/
theorem word_four (l : List Int) (h8 : ∀ x ∈ l, 0 ≤ x ∧ x ≤ 255) (i x : Nat) (hx : x < 4294967296) : wordN l i = (x : Nat) ↔ ∀ k : Nat, k < 4 → (fourL x)[k]?.getD 0 = l[i + k]?.getD 0 := by
  have b0 := byte_at h8 i
  have b1 := byte_at h8 (i + 1)
  have b2 := byte_at h8 (i + 2)
  have b3 := byte_at h8 (i + 3)
  constructor
  · intro h k hk
    unfold wordN at h
    rcases (show k = 0 ∨ k = 1 ∨ k = 2 ∨ k = 3 by omega) with rfl | rfl | rfl | rfl <;> simp [fourL] <;> omega
  · intro h
    have h0 := h 0 (by omega)
    have h1 := h 1 (by omega)
    have h2 := h 2 (by omega)
    have h3 := h 3 (by omega)
    simp [fourL] at h0 h1 h2 h3
    unfold wordN
    omega

theorem openC_eq (l : List Int) (lo hi : Int) (h1 : 9 ≤ l.length ∧ l.length ≤ 16384) :
    openC l lo hi = if wordN l 0 ≠ (l.length : Int) - 8 then 2 else if wordN l 4 ≠ (crcOf (l.drop 8) : Nat) then 3 else if inB (l[8]?.getD 0) lo hi = false then 4 else 0 := by
  have hs : sumC l = if wordN l 0 ≠ (l.length : Int) - 8 then 2 else if wordN l 4 ≠ (crcOf (l.drop 8) : Nat) then 3 else 0 := by
    unfold sumC
    rw [if_neg (fun h => h h1)]
  unfold openC
  rw [hs]
  generalize wordN l 0 = a
  generalize wordN l 4 = b
  by_cases e1 : a = (l.length : Int) - 8
  · by_cases e2 : b = (crcOf (l.drop 8) : Nat)
    · simp [e1, e2]
    · simp [e1, e2]
  · simp [e1]

set_option maxHeartbeats 4000000 in
set_option maxRecDepth 100000 in
theorem l1open_any (a : Option Addr) (len c : Nat) (l : List Int) (lo hi : Int) (w : World) (hv : Bs w (.slice a len c) l) (hc : len ≤ c) (D : Nat) (hD : 0 < l.length → ∃ x, a = some x ∧ x.block < D) :
    Calls Tryz.prog 68 #[.slice a len c, .int .i64 lo, .int .i64 hi] w fun e w' => e = .returned (.int .i64 (openC l lo hi : Nat)) ∧ Below w.heap.size w w' := by
  have HV : Hid (Bs w (.slice a len c) l) := hv
  have el : len = l.length := by obtain ⟨_, _, _, _, e, _⟩ := hv; injection e
  have hml := hv.1
  unfold maxLen at hml
  subst el
  by_cases h1 : 9 ≤ l.length ∧ l.length ≤ 16384
  · have t1 : ∀ wx, (Instr.slice 22 (.slice a l.length c) (some (.int .i64 8)) none none).run Tryz.prog wx = .ok (sliced a 8 l.length c 1) wx := slice_l a l.length c 8 (by omega)
    have hd := HV.out.drop hc hD 8 (by omega)
    obtain ⟨a2, n2, c2, e2, _, hbad⟩ := hd.2
    clear hbad
    rw [e2] at t1 hd
    have HD8 : Hid (Bs w (.slice a2 n2 c2) (l.drop 8)) := hd.1
    clear hd e2 hD
    obtain ⟨_, h8, a', cap, e, hcell⟩ := hv
    injection e with ea _ ec
    subst ea ec
    obtain ⟨b0, off, rfl, hj⟩ := hcell 0 (by omega)
    have hcr : crcOf (l.drop 8) < 4294967296 := xor_lt _ _ (crcSt_lt (l.drop 8) HD8.out.2.1 _) (by decide)
    have hW := word_four l h8 4 (crcOf (l.drop 8)) hcr
    have HC : ∀ w' : World, Bs w' (.slice a2 n2 c2) (l.drop 8) → Hid (Calls Tryz.prog 59 #[.slice a2 n2 c2] w' fun e w'' => e = .returned (.int .u32 (crcOf (l.drop 8) : Nat)) ∧ w'' = w') := fun w' h => specCrc_any _ _ w' h
    have HO : Hid (openC l lo hi = if wordN l 0 ≠ (l.length : Int) - 8 then 2 else if wordN l 4 ≠ (crcOf (l.drop 8) : Nat) then 3 else if inB (l[8]?.getD 0) lo hi = false then 4 else 0) := openC_eq l lo hi h1
    have HW0 : Hid (wordN l 0 = l[0]?.getD 0 + l[1]?.getD 0 * 256 + l[2]?.getD 0 * 65536 + l[3]?.getD 0 * 16777216) := rfl
    have q0 := hj 0 (by omega)
    have q1 := hj 1 (by omega)
    have q2 := hj 2 (by omega)
    have q3 := hj 3 (by omega)
    have q8 := hj 8 (by omega)
    have r0 := byte_at h8 0
    have r1 := byte_at h8 1
    have r2 := byte_at h8 2
    have r3 := byte_at h8 3
    have r8 := byte_at h8 8
    have HQ : Hid (∀ k, k < 4 → w.cell? ⟨b0, off + (4 + k), none⟩ = some (.int .u8 (l[4 + k]?.getD 0))) := fun k hk => hj (4 + k) (by omega)
    rw [Nat.add_zero] at q0
    have p0 : 0 < l.length := by omega
    have p1 : 1 < l.length := by omega
    have p2 : 2 < l.length := by omega
    have p3 : 3 < l.length := by omega
    have p8 : 8 < l.length := by omega
    generalize crcOf (l.drop 8) = cr at *
    generalize l[0]?.getD 0 = x0 at *
    generalize l[1]?.getD 0 = x1 at *
    generalize l[2]?.getD 0 = x2 at *
    generalize l[3]?.getD 0 = x3 at *
    generalize l[8]?.getD 0 = x8 at *
    generalize openC l lo hi = oc at *
    rw [HW0.out] at HO
    clear hj hcell h8 HW0
    by_cases e1 : x0 + x1 * 256 + x2 * 65536 + x3 * 16777216 = (l.length : Int) - 8
    · have hoc : oc = if wordN l 4 ≠ (cr : Nat) then 3 else if inB x8 lo hi = false then 4 else 0 := by simpa [e1] using HO.out
      have HOC : Hid (oc = if wordN l 4 ≠ (cr : Nat) then 3 else if inB x8 lo hi = false then 4 else 0) := hoc
      have HW : Hid (wordN l 4 = (cr : Nat) ↔ ∀ k : Nat, k < 4 → (fourL cr)[k]?.getD 0 = l[4 + k]?.getD 0) := hW
      have e1' : (x0 + x1 * 256 + x2 * 65536 + x3 * 16777216 != (l.length : Int) - 8) = false := by simpa using e1
      have hb0 : b0 < w.heap.size := cell_lt q0
      have HE : ∀ k : Nat, Hid ((0 : Int) ≤ (fourL cr)[k]?.getD 0 ∧ (fourL cr)[k]?.getD 0 ≤ 255 ∨ 4 ≤ k) := fun k => by
        rcases Nat.lt_or_ge k 4 with h | h
        · exact .inl (four_at cr k h hcr)
        · exact .inr h
      have HF : Hid (∀ w' : World, Calls Tryz.prog 58 #[.int .u32 cr] w' fun e w'' => ∃ v', e = .returned v' ∧ Own w'' w'.heap.size v' (fourL cr) ∧ Below w'.heap.size w' w'') := fun w' => specFour_at cr w' hcr
      clear HO hoc hW
      obtain ⟨hl9, hl16⟩ := h1
      go_enter Tryz.func68, Tryz.ntmps68
      go_wp2
      go_quiet (fail)
      go_wp2_with (first
        | (go_at_call 59; refine Calls.mono (HC _ (by exact HD8.out)).out ?_; rintro e w1 ⟨rfl, rfl⟩)
        | (go_at_call 58; refine Calls.mono (HF.out _) ?_; rintro e w2 ⟨v2, rfl, ho, hb⟩; have hbs := ho.bs (by simp [fourL, maxLen]); obtain ⟨_, _, sa, sc, rfl, hsc⟩ := hbs; obtain ⟨sb, so, rfl, hs4⟩ := hsc 0 (by simp [fourL]); have HS4 : Hid (∀ k, k < 4 → w2.cell? ⟨sb, so + k, none⟩ = some (.int .u8 ((fourL cr)[k]?.getD 0))) := hs4; have hl4 : (fourL cr).length = 4 := rfl; rw [hl4]; have HB : Hid (Below w.heap.size w w2) := ⟨hb.os, hb.tape, hb.output, hb.size, hb.block⟩; have q8' := HB.out.cell (p := ⟨b0, off + 8, none⟩) hb0; rw [q8] at q8'; clear hsc hs4 ho hb))
      go_loopw [9] (fun i wr => ∃ k m : Nat, k ≤ 4 ∧ i = .int .i64 k ∧ (∀ j : Nat, j < k → (fourL cr)[j]?.getD 0 = l[4 + j]?.getD 0) ∧ wr = w2.drewN m) (fun i _ => 4 - (intOf i).toNat)
      case atStart => exact ⟨0, 0, by omega, rfl, fun j hj => by omega, rfl⟩
      case round =>
        obtain ⟨k, m, hk, rfl, hall, rfl⟩ := hrel
        have HA : Hid (∀ j : Nat, j < k → (fourL cr)[j]?.getD 0 = l[4 + j]?.getD 0) := hall
        clear hall
        by_cases hk4 : k < 4
        · have s1 := HS4.out k hk4
          have s2 := HB.out.cell (p := ⟨b0, off + (4 + k), none⟩) hb0
          rw [HQ.out k hk4] at s2
          by_cases heq : (fourL cr)[k]?.getD 0 = l[4 + k]?.getD 0
          · rw [heq] at s1
            have HEQ : Hid ((fourL cr)[k]?.getD 0 = l[4 + k]?.getD 0) := heq
            clear heq
            generalize l[4 + k]?.getD 0 = y at s1 s2
            go_wp2
            go_quiet (fail)
            go_wp2
            go_roundw
            case rel =>
              refine ⟨k + 1, _, by omega, by go_num, fun j hj => ?_, rfl⟩
              by_cases hjk : j < k
              · exact HA.out j hjk
              · have e : j = k := by omega
                subst e
                exact HEQ.out
            case measure => simp [intOf]; omega
          · have hne : ((fourL cr)[k]?.getD 0 != l[4 + k]?.getD 0) = true := by simpa using heq
            have h3 : oc = 3 := by
              rw [HOC.out, if_pos]
              intro h
              exact heq (HW.out.1 h k hk4)
            subst h3
            generalize l[4 + k]?.getD 0 = y at *
            generalize (fourL cr)[k]?.getD 0 = z at *
            clear heq HOC
            go_wp2
            go_quiet (fail)
            go_wp2
            go_ret
            exact ⟨rfl, HB.out.os, HB.out.tape, HB.out.output, HB.out.size, HB.out.block⟩
        · have e : k = 4 := by omega
          subst e
          have hw4 := HW.out.2 HA.out
          have h3 : oc = if inB x8 lo hi = false then 4 else 0 := by rw [HOC.out, if_neg (fun h => h hw4)]
          clear HOC HA hw4
          by_cases hin : inB x8 lo hi = true
          · have h0 : oc = 0 := by rw [h3, if_neg (by simp [hin])]
            subst h0
            clear h3
            go_wp2_with (go_at_call 25; refine (l1in_any _ _ _ _).mono ?_; rw [hin]; rintro e w3 ⟨rfl, rfl⟩)
            go_ret
            exact ⟨rfl, HB.out.os, HB.out.tape, HB.out.output, HB.out.size, HB.out.block⟩
          · have hin' : inB x8 lo hi = false := by simpa using hin
            have h0 : oc = 4 := by rw [h3, if_pos hin']
            subst h0
            clear h3
            go_wp2_with (go_at_call 25; refine (l1in_any _ _ _ _).mono ?_; rw [hin']; rintro e w3 ⟨rfl, rfl⟩)
            go_ret
            exact ⟨rfl, HB.out.os, HB.out.tape, HB.out.output, HB.out.size, HB.out.block⟩
    · have hoc : oc = 2 := by simpa [e1] using HO.out
      subst hoc
      have n2 : (x0 + x1 * 256 + x2 * 65536 + x3 * 16777216 != (l.length : Int) - 8) = true := by simpa using e1
      clear HO
      obtain ⟨hl9, hl16⟩ := h1
      go_enter Tryz.func68, Tryz.ntmps68
      go_wp2
      go_quiet (fail)
      go_wp2
      go_ret
      exact ⟨rfl, rfl, rfl, rfl, Nat.le_refl _, fun _ _ => rfl⟩
  · have hsc : openC l lo hi = 1 := by simp [openC, sumC, h1]
    rw [hsc]
    clear hD hv
    have hor : ¬ (9 ≤ (l.length : Int) ∧ (l.length : Int) ≤ 16384) := by omega
    go_enter Tryz.func68, Tryz.ntmps68
    go_wp2
    all_goals go_ret
    all_goals exact ⟨rfl, rfl, rfl, rfl, Nat.le_refl _, fun _ _ => rfl⟩
end Go.Proofs.YtafmjckpbcijoaaGreatDoor
