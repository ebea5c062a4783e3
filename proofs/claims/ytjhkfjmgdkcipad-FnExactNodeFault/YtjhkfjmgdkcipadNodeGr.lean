/-
  Who has granted.
-/
import Derived.Test.YtjhkfjmgdkcipadNodeHas
import Derived.Test.YtjhkfjmgdkcipadRises
import Derived.Test.YtjhkfjmgdkcipadNodeFit
import Derived.Test.YtjhkfjmgdkcipadBlk
import Derived.Deep.QuietTactic
import Derived.BigQuiet
namespace Go.Proofs.Ytjhkfjmgdkcipad
open Go.RowKit
set_option linter.unusedVariables false
set_option linter.unusedSimpArgs false

theorem riseB_len (most : Int) : ∀ (l : List Int) (last : Int), riseB most last l = true → last ≤ most → (l.length : Int) ≤ most - last
  | [], last, _, h => by simp; omega
  | x :: l, last, h, hm => by
    simp only [riseB, Bool.and_eq_true, inB_iff] at h
    have := riseB_len most l x h.2 h.1.2
    simp only [List.length_cons]
    omega
/-- who has granted -/
def grantB (ro sz id : Int) (l : List Int) : Bool := if ro ≠ 1 ∧ ro ≠ 2 then (l.length : Int) == 0 else riseB sz 0 l && (hasB id l && !majB l.length sz)

set_option maxHeartbeats 4000000 in
set_option maxRecDepth 100000 in
theorem grantedFits_any (i0 i1 i2 i3 i4 i5 i6 i7 i8 i9 i10 i11 : Int) (a12 a13 a14 a15 a16 a17 : Option Addr) (cap12 cap13 cap14 cap15 cap16 cap17 : Nat) (l12 : List Ent) (l13 l14 l15 l16 l17 : List Int) (w : World) (h13 : Ix w (.slice a13 l13.length cap13) l13) (hs : 0 ≤ i1) (hs7 : i1 ≤ 7) : Calls Try.prog 73 #[.agg #[.int .i64 i0, .int .i64 i1, .int .i64 i2, .int .i64 i3, .int .i64 i4, .int .i64 i5, .int .i64 i6, .int .i64 i7, .int .i64 i8, .int .i64 i9, .int .i64 i10, .int .i64 i11, .slice a12 l12.length cap12, .slice a13 l13.length cap13, .slice a14 l14.length cap14, .slice a15 l15.length cap15, .slice a16 l16.length cap16, .slice a17 l17.length cap17]] w fun e w' => e = .returned (.bool (grantB i6 i1 i0 l13)) ∧ Below w.heap.size w w' := by
  have hb0 : Hid (Below w.heap.size w (w.alloc (.cells #[.int .i64 i0, .int .i64 i1, .int .i64 i2, .int .i64 i3, .int .i64 i4, .int .i64 i5, .int .i64 i6, .int .i64 i7, .int .i64 i8, .int .i64 i9, .int .i64 i10, .int .i64 i11, .slice a12 l12.length cap12, .slice a13 l13.length cap13, .slice a14 l14.length cap14, .slice a15 l15.length cap15, .slice a16 l16.length cap16, .slice a17 l17.length cap17] 62))) := (Below.refl _ _).alloc (Nat.le_refl _) _
  have H13 : Hid (Ix w (.slice a13 l13.length cap13) l13) := h13
  replace h13 := h13.1
  have hl := h13
  clear h13
  unfold maxLen at hl
  by_cases h12 : i6 ≠ 1 ∧ i6 ≠ 2
  · obtain ⟨ha, hb⟩ := h12
    rw [show grantB i6 i1 i0 l13 = ((l13.length : Int) == 0) by simp [grantB, ha, hb]]
    have na : (i6 != 1) = true := by simpa using ha
    have nb : (i6 != 2) = true := by simpa using hb
    clear ha hb
    go_enter Try.func73, Try.ntmps73
    go_wp2
    go_ret
    exact ⟨rfl, hb0.out⟩
  rw [show grantB i6 i1 i0 l13 = (riseB i1 0 l13 && (hasB i0 l13 && !majB l13.length i1)) by unfold grantB; rw [if_neg h12]]
  by_cases h1 : i6 = 1
  · subst h1
    clear h12
    cases hr : riseB i1 0 l13
    · go_enter Try.func73, Try.ntmps73
      go_wp2_with (go_at_call 126; refine (serversRise_any _ l13 _ _ (H13.out.below hb0.out) hs (by omega)).mono ?_; rintro e w1 ⟨rfl, hw⟩; obtain rfl := hw.symm; clear hw; rw [hr])
      go_ret
      exact ⟨rfl, hb0.out⟩
    cases hc : hasB i0 l13
    · go_enter Try.func73, Try.ntmps73
      go_wp2_with (first
        | (go_at_call 126; refine (serversRise_any _ l13 _ _ (H13.out.below hb0.out) hs (by omega)).mono ?_; rintro e w1 ⟨rfl, hw⟩; obtain rfl := hw.symm; clear hw; rw [hr])
        | (go_at_call 127; refine (containsI_any _ l13 _ _ (H13.out.below hb0.out)).mono ?_; rintro e w1 ⟨rfl, hw⟩; obtain rfl := hw.symm; clear hw; rw [hc]))
      go_ret
      exact ⟨rfl, hb0.out⟩
    · go_enter Try.func73, Try.ntmps73
      go_wp2_with (first
        | (go_at_call 126; refine (serversRise_any _ l13 _ _ (H13.out.below hb0.out) hs (by omega)).mono ?_; rintro e w1 ⟨rfl, hw⟩; obtain rfl := hw.symm; clear hw; rw [hr])
        | (go_at_call 127; refine (containsI_any _ l13 _ _ (H13.out.below hb0.out)).mono ?_; rintro e w1 ⟨rfl, hw⟩; obtain rfl := hw.symm; clear hw; rw [hc])
        | (go_at_call 128; refine (isMajority_any _ _ hs hs7 _).mono ?_; rintro e w1 ⟨rfl, hw⟩; obtain rfl := hw.symm; clear hw))
      go_ret
      exact ⟨by simp, hb0.out⟩
  by_cases h2 : i6 = 2
  · subst h2
    clear h12
    cases hr : riseB i1 0 l13
    · go_enter Try.func73, Try.ntmps73
      go_wp2_with (go_at_call 126; refine (serversRise_any _ l13 _ _ (H13.out.below hb0.out) hs (by omega)).mono ?_; rintro e w1 ⟨rfl, hw⟩; obtain rfl := hw.symm; clear hw; rw [hr])
      go_ret
      exact ⟨rfl, hb0.out⟩
    cases hc : hasB i0 l13
    · go_enter Try.func73, Try.ntmps73
      go_wp2_with (first
        | (go_at_call 126; refine (serversRise_any _ l13 _ _ (H13.out.below hb0.out) hs (by omega)).mono ?_; rintro e w1 ⟨rfl, hw⟩; obtain rfl := hw.symm; clear hw; rw [hr])
        | (go_at_call 127; refine (containsI_any _ l13 _ _ (H13.out.below hb0.out)).mono ?_; rintro e w1 ⟨rfl, hw⟩; obtain rfl := hw.symm; clear hw; rw [hc]))
      go_ret
      exact ⟨rfl, hb0.out⟩
    · go_enter Try.func73, Try.ntmps73
      go_wp2_with (first
        | (go_at_call 126; refine (serversRise_any _ l13 _ _ (H13.out.below hb0.out) hs (by omega)).mono ?_; rintro e w1 ⟨rfl, hw⟩; obtain rfl := hw.symm; clear hw; rw [hr])
        | (go_at_call 127; refine (containsI_any _ l13 _ _ (H13.out.below hb0.out)).mono ?_; rintro e w1 ⟨rfl, hw⟩; obtain rfl := hw.symm; clear hw; rw [hc])
        | (go_at_call 128; refine (isMajority_any _ _ hs hs7 _).mono ?_; rintro e w1 ⟨rfl, hw⟩; obtain rfl := hw.symm; clear hw))
      go_ret
      exact ⟨by simp, hb0.out⟩
  exact absurd ⟨h1, h2⟩ h12

/-- the spec's way: in range, and above the one ahead -/
theorem rise_step (most : Int) (l : List Int) (k : Nat) (h : k < l.length) (last : Int) (hl : (k = 0 → last = 0) ∧ ((hk : 0 < k) → last = l[k - 1]) ∧ 0 ≤ last) :
    (inB l[k] (last + 1) most = true) ↔ (inB l[k] 1 most = true ∧ (0 < k → ∀ (h' : k - 1 < l.length), l[k - 1] < l[k])) := by
  simp only [inB_iff]
  by_cases h0 : k = 0
  · subst h0
    rw [hl.1 rfl]
    simp
  · rw [hl.2.1 (by omega)]
    have := hl.2.2
    rw [hl.2.1 (by omega)] at this
    constructor
    · rintro ⟨a, b⟩; exact ⟨⟨by omega, b⟩, fun _ _ => by omega⟩
    · rintro ⟨⟨a, b⟩, c⟩; exact ⟨by have := c (by omega) (by omega); omega, b⟩

set_option maxHeartbeats 4000000 in
set_option maxRecDepth 100000 in
theorem l4grantedOk_any (i0 i1 i2 i3 i4 i5 i6 i7 i8 i9 i10 i11 : Int) (a12 a13 a14 a15 a16 a17 : Option Addr) (cap12 cap13 cap14 cap15 cap16 cap17 : Nat) (l12 : List Ent) (l13 l14 l15 l16 l17 : List Int) (w : World) (h13 : Ix w (.slice a13 l13.length cap13) l13) (hs : sizB i1 = true) : Calls Try.prog 64 #[.agg #[.int .i64 i0, .int .i64 i1, .int .i64 i2, .int .i64 i3, .int .i64 i4, .int .i64 i5, .int .i64 i6, .int .i64 i7, .int .i64 i8, .int .i64 i9, .int .i64 i10, .int .i64 i11, .slice a12 l12.length cap12, .slice a13 l13.length cap13, .slice a14 l14.length cap14, .slice a15 l15.length cap15, .slice a16 l16.length cap16, .slice a17 l17.length cap17]] w fun e w' => e = .returned (.bool (grantB i6 i1 i0 l13)) ∧ Below w.heap.size w w' := by
  have hb0 : Hid (Below w.heap.size w (w.alloc (.cells #[.int .i64 i0, .int .i64 i1, .int .i64 i2, .int .i64 i3, .int .i64 i4, .int .i64 i5, .int .i64 i6, .int .i64 i7, .int .i64 i8, .int .i64 i9, .int .i64 i10, .int .i64 i11, .slice a12 l12.length cap12, .slice a13 l13.length cap13, .slice a14 l14.length cap14, .slice a15 l15.length cap15, .slice a16 l16.length cap16, .slice a17 l17.length cap17] 62))) := (Below.refl _ _).alloc (Nat.le_refl _) _
  have H13 : Hid (Ix w (.slice a13 l13.length cap13) l13) := h13
  have hs2 : i1 = 3 ∨ i1 = 5 ∨ i1 = 7 := by simpa [sizB, or_assoc] using hs
  clear hs
  have hodd : i1 % 2 = 1 := by omega
  obtain ⟨hl, a0, cap0, e0, hc⟩ := h13
  injection e0 with e1 _ e3
  subst e1 e3
  unfold maxLen at hl
  by_cases h12 : i6 ≠ 1 ∧ i6 ≠ 2
  · obtain ⟨ha, hb⟩ := h12
    rw [show grantB i6 i1 i0 l13 = ((l13.length : Int) == 0) by simp [grantB, ha, hb]]
    have na : (i6 != 1) = true := by simpa using ha
    have nb : (i6 != 2) = true := by simpa using hb
    clear ha hb hc
    go_enter Try.func64, Try.ntmps64
    go_wp2
    go_ret
    exact ⟨rfl, hb0.out⟩
  rw [show grantB i6 i1 i0 l13 = (riseB i1 0 l13 && (hasB i0 l13 && !majB l13.length i1)) by unfold grantB; rw [if_neg h12]]
  by_cases h1 : i6 = 1
  · subst h1
    clear h12
    go_enter Try.func64, Try.ntmps64
    go_wp2
    go_loopw [3] (fun i wr => ∃ (k : Nat) (last : Int), k ≤ l13.length ∧ i = .int .i64 k ∧ (k = 0 → last = 0) ∧ (∀ (hk : 0 < k) (h' : k - 1 < l13.length), last = l13[k - 1]) ∧ 0 ≤ last ∧ riseB i1 0 l13 = riseB i1 last (l13.drop k) ∧ Blk wr w.heap.size #[.int .i64 i0, .int .i64 i1, .int .i64 i2, .int .i64 i3, .int .i64 i4, .int .i64 i5, .int .i64 1, .int .i64 i7, .int .i64 i8, .int .i64 i9, .int .i64 i10, .int .i64 i11, .slice a12 l12.length cap12, .slice a13 l13.length cap13, .slice a14 l14.length cap14, .slice a15 l15.length cap15, .slice a16 l16.length cap16, .slice a17 l17.length cap17] 62 ∧ Below w.heap.size w wr) (fun i _ => l13.length - (intOf i).toNat)
    case atStart => exact ⟨0, 0, Nat.zero_le _, rfl, fun _ => rfl, fun h => absurd h (by omega), by omega, by simp, Blk.new _ _ _, (Below.refl _ _).alloc (Nat.le_refl _) _⟩
    case round =>
      obtain ⟨k, last, hk, rfl, hz0, hp, h0, hr, BA, hB⟩ := hrel
      have HR : Hid (riseB i1 0 l13 = riseB i1 last (l13.drop k)) := hr
      have hz := hB.size
      have cA := BA.cell
      have HA : Hid (Blk wr w.heap.size #[.int .i64 i0, .int .i64 i1, .int .i64 i2, .int .i64 i3, .int .i64 i4, .int .i64 i5, .int .i64 1, .int .i64 i7, .int .i64 i8, .int .i64 i9, .int .i64 i10, .int .i64 i11, .slice a12 l12.length cap12, .slice a13 l13.length cap13, .slice a14 l14.length cap14, .slice a15 l15.length cap15, .slice a16 l16.length cap16, .slice a17 l17.length cap17] 62) := BA
      have HBB : Hid (Below w.heap.size w wr) := hB
      clear hr BA
      by_cases hlt : k < l13.length
      · obtain ⟨b, off, rfl, hj⟩ := hc k hlt
        have hck := (hB.cell (p := ⟨b, off + k, none⟩) (cell_lt (hj k hlt))).trans (hj k hlt)
        have HD : Hid (riseB i1 last (l13.drop k) = (inB l13[k] (last + 1) i1 && riseB i1 l13[k] (l13.drop (k + 1)))) := riseB_drop i1 last l13 k hlt
        cases hi : inB l13[k] 1 i1
        · have HL : Hid (∀ u : World, Calls Try.prog 62 #[.int .i64 l13[k], .int .i64 1, .int .i64 i1] u fun e w' => e = .returned (.bool false) ∧ w' = u) := fun u => by rw [← hi]; exact l1in_any _ _ _ _
          have hno : inB l13[k] (last + 1) i1 = false := by rw [inB_not] at hi ⊢; omega
          rw [hno] at HD
          clear hc hj hp hno hi hB
          generalize l13[k] = y at *
          go_wp2_with fail
          go_quiet ((go_at_call 62; exact Calls.quiet_of_same (HL.out _)))
          go_wp2
          go_ret
          exact ⟨by rw [HR.out, HD.out]; rfl, HBB.out.trans ⟨rfl, rfl, rfl, Nat.le_refl _, fun _ _ => rfl⟩⟩
        · have HL : Hid (∀ u : World, Calls Try.prog 62 #[.int .i64 l13[k], .int .i64 1, .int .i64 i1] u fun e w' => e = .returned (.bool true) ∧ w' = u) := fun u => by rw [← hi]; exact l1in_any _ _ _ _
          have hi2 := (inB_iff _ _ _).1 hi
          by_cases hk0 : k = 0
          · subst hk0
            obtain rfl := hz0 rfl
            rw [show inB l13[0] (0 + 1) i1 = true by simpa using hi] at HD
            clear hc hj hp hi hB hz0
            simp only [Nat.add_zero] at hck
            generalize hy : l13[0] = y at hck HD HL hi2
            have HN : Hid (∀ (hk : 0 < 1) (h' : 1 - 1 < l13.length), y = l13[1 - 1]) := fun _ _ => hy.symm
            clear hy
            go_wp2_with fail
            go_quiet ((go_at_call 62; exact Calls.quiet_of_same (HL.out _)))
            go_wp2
            go_roundw
            case rel => exact ⟨1, y, by omega, by go_num, fun h => absurd h (by omega), HN.out, by omega, by rw [HR.out, HD.out]; rfl, HA.out.keep rfl, HBB.out.trans ⟨rfl, rfl, rfl, Nat.le_refl _, fun _ _ => rfl⟩⟩
            case measure => simp [intOf]; omega
          · obtain ⟨j, rfl⟩ : ∃ j, k = j + 1 := ⟨k - 1, by omega⟩
            have hjl : j < l13.length := by omega
            have hcj := (hB.cell (p := ⟨b, off + j, none⟩) (cell_lt (hj j hjl))).trans (hj j hjl)
            have hla := hp (by omega) hjl
            simp only [Nat.add_sub_cancel] at hla
            by_cases hle : l13[j + 1] ≤ l13[j]
            · have hno : inB l13[j + 1] (last + 1) i1 = false := by rw [inB_not]; omega
              rw [hno] at HD
              clear hc hj hp hi hB hz0 hno hla
              generalize l13[j + 1] = y at *
              generalize l13[j] = x at *
              go_wp2_with fail
              go_quiet ((go_at_call 62; exact Calls.quiet_of_same (HL.out _)))
              go_wp2
              go_ret
              exact ⟨by rw [HR.out, HD.out]; rfl, HBB.out.trans ⟨rfl, rfl, rfl, Nat.le_refl _, fun _ _ => rfl⟩⟩
            · have hno : inB l13[j + 1] (last + 1) i1 = true := by rw [inB_iff]; omega
              rw [hno] at HD
              clear hc hj hp hi hB hz0 hno hla
              generalize hy : l13[j + 1] = y at hck HD HL hi2 hle
              have HN : Hid (∀ (hk : 0 < j + 1 + 1) (h' : j + 1 + 1 - 1 < l13.length), y = l13[j + 1 + 1 - 1]) := fun _ _ => hy.symm
              clear hy
              generalize l13[j] = x at hcj hle
              go_wp2_with fail
              go_quiet ((go_at_call 62; exact Calls.quiet_of_same (HL.out _)))
              go_wp2
              go_roundw
              case rel => exact ⟨j + 1 + 1, y, by omega, by go_num, fun h => absurd h (by omega), HN.out, by omega, by rw [HR.out, HD.out]; rfl, HA.out.keep rfl, HBB.out.trans ⟨rfl, rfl, rfl, Nat.le_refl _, fun _ _ => rfl⟩⟩
              case measure => simp [intOf]; omega
      · have hd : l13.drop k = [] := List.drop_of_length_le (by omega)
        have HX : Hid (Ix wr (.slice a13 l13.length cap13) l13) := H13.out.below hB
        have HT : Hid (riseB i1 0 l13 = true) := by rw [HR.out, hd]; rfl
        have hlen := riseB_len i1 l13 0 HT.out (by omega)
        clear hc hp hd hB
        cases hh : hasB i0 l13
        · go_wp2_with (go_at_call 123; refine (l4has_any _ l13 _ _ HX.out).mono ?_; rintro e w1 ⟨rfl, hw⟩; obtain rfl := hw.symm; clear hw; rw [hh])
          go_ret
          exact ⟨by rw [HT.out, hh]; rfl, HBB.out⟩
        · go_wp2_with (first
            | (go_at_call 123; refine (l4has_any _ l13 _ _ HX.out).mono ?_; rintro e w1 ⟨rfl, hw⟩; obtain rfl := hw.symm; clear hw; rw [hh])
            | (go_at_call 124; refine (l4majority_any _ _ hodd (by omega) (by omega) _).mono ?_; rintro e w1 ⟨rfl, hw⟩; obtain rfl := hw.symm; clear hw))
          go_ret
          exact ⟨by rw [HT.out, hh]; simp, HBB.out⟩
  by_cases h2 : i6 = 2
  · subst h2
    clear h12
    go_enter Try.func64, Try.ntmps64
    go_wp2
    go_loopw [3] (fun i wr => ∃ (k : Nat) (last : Int), k ≤ l13.length ∧ i = .int .i64 k ∧ (k = 0 → last = 0) ∧ (∀ (hk : 0 < k) (h' : k - 1 < l13.length), last = l13[k - 1]) ∧ 0 ≤ last ∧ riseB i1 0 l13 = riseB i1 last (l13.drop k) ∧ Blk wr w.heap.size #[.int .i64 i0, .int .i64 i1, .int .i64 i2, .int .i64 i3, .int .i64 i4, .int .i64 i5, .int .i64 2, .int .i64 i7, .int .i64 i8, .int .i64 i9, .int .i64 i10, .int .i64 i11, .slice a12 l12.length cap12, .slice a13 l13.length cap13, .slice a14 l14.length cap14, .slice a15 l15.length cap15, .slice a16 l16.length cap16, .slice a17 l17.length cap17] 62 ∧ Below w.heap.size w wr) (fun i _ => l13.length - (intOf i).toNat)
    case atStart => exact ⟨0, 0, Nat.zero_le _, rfl, fun _ => rfl, fun h => absurd h (by omega), by omega, by simp, Blk.new _ _ _, (Below.refl _ _).alloc (Nat.le_refl _) _⟩
    case round =>
      obtain ⟨k, last, hk, rfl, hz0, hp, h0, hr, BA, hB⟩ := hrel
      have HR : Hid (riseB i1 0 l13 = riseB i1 last (l13.drop k)) := hr
      have hz := hB.size
      have cA := BA.cell
      have HA : Hid (Blk wr w.heap.size #[.int .i64 i0, .int .i64 i1, .int .i64 i2, .int .i64 i3, .int .i64 i4, .int .i64 i5, .int .i64 2, .int .i64 i7, .int .i64 i8, .int .i64 i9, .int .i64 i10, .int .i64 i11, .slice a12 l12.length cap12, .slice a13 l13.length cap13, .slice a14 l14.length cap14, .slice a15 l15.length cap15, .slice a16 l16.length cap16, .slice a17 l17.length cap17] 62) := BA
      have HBB : Hid (Below w.heap.size w wr) := hB
      clear hr BA
      by_cases hlt : k < l13.length
      · obtain ⟨b, off, rfl, hj⟩ := hc k hlt
        have hck := (hB.cell (p := ⟨b, off + k, none⟩) (cell_lt (hj k hlt))).trans (hj k hlt)
        have HD : Hid (riseB i1 last (l13.drop k) = (inB l13[k] (last + 1) i1 && riseB i1 l13[k] (l13.drop (k + 1)))) := riseB_drop i1 last l13 k hlt
        cases hi : inB l13[k] 1 i1
        · have HL : Hid (∀ u : World, Calls Try.prog 62 #[.int .i64 l13[k], .int .i64 1, .int .i64 i1] u fun e w' => e = .returned (.bool false) ∧ w' = u) := fun u => by rw [← hi]; exact l1in_any _ _ _ _
          have hno : inB l13[k] (last + 1) i1 = false := by rw [inB_not] at hi ⊢; omega
          rw [hno] at HD
          clear hc hj hp hno hi hB
          generalize l13[k] = y at *
          go_wp2_with fail
          go_quiet ((go_at_call 62; exact Calls.quiet_of_same (HL.out _)))
          go_wp2
          go_ret
          exact ⟨by rw [HR.out, HD.out]; rfl, HBB.out.trans ⟨rfl, rfl, rfl, Nat.le_refl _, fun _ _ => rfl⟩⟩
        · have HL : Hid (∀ u : World, Calls Try.prog 62 #[.int .i64 l13[k], .int .i64 1, .int .i64 i1] u fun e w' => e = .returned (.bool true) ∧ w' = u) := fun u => by rw [← hi]; exact l1in_any _ _ _ _
          have hi2 := (inB_iff _ _ _).1 hi
          by_cases hk0 : k = 0
          · subst hk0
            obtain rfl := hz0 rfl
            rw [show inB l13[0] (0 + 1) i1 = true by simpa using hi] at HD
            clear hc hj hp hi hB hz0
            simp only [Nat.add_zero] at hck
            generalize hy : l13[0] = y at hck HD HL hi2
            have HN : Hid (∀ (hk : 0 < 1) (h' : 1 - 1 < l13.length), y = l13[1 - 1]) := fun _ _ => hy.symm
            clear hy
            go_wp2_with fail
            go_quiet ((go_at_call 62; exact Calls.quiet_of_same (HL.out _)))
            go_wp2
            go_roundw
            case rel => exact ⟨1, y, by omega, by go_num, fun h => absurd h (by omega), HN.out, by omega, by rw [HR.out, HD.out]; rfl, HA.out.keep rfl, HBB.out.trans ⟨rfl, rfl, rfl, Nat.le_refl _, fun _ _ => rfl⟩⟩
            case measure => simp [intOf]; omega
          · obtain ⟨j, rfl⟩ : ∃ j, k = j + 1 := ⟨k - 1, by omega⟩
            have hjl : j < l13.length := by omega
            have hcj := (hB.cell (p := ⟨b, off + j, none⟩) (cell_lt (hj j hjl))).trans (hj j hjl)
            have hla := hp (by omega) hjl
            simp only [Nat.add_sub_cancel] at hla
            by_cases hle : l13[j + 1] ≤ l13[j]
            · have hno : inB l13[j + 1] (last + 1) i1 = false := by rw [inB_not]; omega
              rw [hno] at HD
              clear hc hj hp hi hB hz0 hno hla
              generalize l13[j + 1] = y at *
              generalize l13[j] = x at *
              go_wp2_with fail
              go_quiet ((go_at_call 62; exact Calls.quiet_of_same (HL.out _)))
              go_wp2
              go_ret
              exact ⟨by rw [HR.out, HD.out]; rfl, HBB.out.trans ⟨rfl, rfl, rfl, Nat.le_refl _, fun _ _ => rfl⟩⟩
            · have hno : inB l13[j + 1] (last + 1) i1 = true := by rw [inB_iff]; omega
              rw [hno] at HD
              clear hc hj hp hi hB hz0 hno hla
              generalize hy : l13[j + 1] = y at hck HD HL hi2 hle
              have HN : Hid (∀ (hk : 0 < j + 1 + 1) (h' : j + 1 + 1 - 1 < l13.length), y = l13[j + 1 + 1 - 1]) := fun _ _ => hy.symm
              clear hy
              generalize l13[j] = x at hcj hle
              go_wp2_with fail
              go_quiet ((go_at_call 62; exact Calls.quiet_of_same (HL.out _)))
              go_wp2
              go_roundw
              case rel => exact ⟨j + 1 + 1, y, by omega, by go_num, fun h => absurd h (by omega), HN.out, by omega, by rw [HR.out, HD.out]; rfl, HA.out.keep rfl, HBB.out.trans ⟨rfl, rfl, rfl, Nat.le_refl _, fun _ _ => rfl⟩⟩
              case measure => simp [intOf]; omega
      · have hd : l13.drop k = [] := List.drop_of_length_le (by omega)
        have HX : Hid (Ix wr (.slice a13 l13.length cap13) l13) := H13.out.below hB
        have HT : Hid (riseB i1 0 l13 = true) := by rw [HR.out, hd]; rfl
        have hlen := riseB_len i1 l13 0 HT.out (by omega)
        clear hc hp hd hB
        cases hh : hasB i0 l13
        · go_wp2_with (go_at_call 123; refine (l4has_any _ l13 _ _ HX.out).mono ?_; rintro e w1 ⟨rfl, hw⟩; obtain rfl := hw.symm; clear hw; rw [hh])
          go_ret
          exact ⟨by rw [HT.out, hh]; rfl, HBB.out⟩
        · go_wp2_with (first
            | (go_at_call 123; refine (l4has_any _ l13 _ _ HX.out).mono ?_; rintro e w1 ⟨rfl, hw⟩; obtain rfl := hw.symm; clear hw; rw [hh])
            | (go_at_call 124; refine (l4majority_any _ _ hodd (by omega) (by omega) _).mono ?_; rintro e w1 ⟨rfl, hw⟩; obtain rfl := hw.symm; clear hw))
          go_ret
          exact ⟨by rw [HT.out, hh]; simp, HBB.out⟩
  exact absurd ⟨h1, h2⟩ h12
end Go.Proofs.Ytjhkfjmgdkcipad
