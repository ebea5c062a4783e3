/-
  The node's form: the first rules.
-/
import Derived.Test.YtjhkfjmgdkcipadSize
namespace Go.Proofs.Ytjhkfjmgdkcipad
open Go.RowKit
set_option linter.unusedVariables false
set_option linter.unusedSimpArgs false

def placeB (id sz el bt : Int) : Bool := sizB sz && (inB id 1 sz && (inB el 2 1000 && inB bt 1 el))

theorem placeFits_any (id sz el bt : Int) (w : World) : Calls Try.prog 67 #[.int .i64 id, .int .i64 sz, .int .i64 el, .int .i64 bt] w fun e w' => e = .returned (.bool (placeB id sz el bt)) ∧ w' = w := by
  have g1 : True := trivial
  have g2 : True := trivial
  cases h1 : sizB sz
  · have e : placeB id sz el bt = false := by simp [placeB, h1]
    rw [e]
    go_enter Try.func67, Try.ntmps67
    go_wp2_with (go_at_call 125; refine (sizeFitsN_any _ _).mono ?_; rintro e w1 ⟨rfl, hw⟩; obtain rfl := hw.symm; rw [h1])
    go_ret
    exact ⟨rfl, rfl⟩
  · cases h2 : inB id 1 sz
    · have e : placeB id sz el bt = false := by simp [placeB, h2]
      rw [e]
      go_enter Try.func67, Try.ntmps67
      go_wp2_with (first
        | (go_at_call 125; refine (sizeFitsN_any _ _).mono ?_; rintro e w1 ⟨rfl, hw⟩; obtain rfl := hw.symm; rw [h1])
        | (go_at_call 71; clear g1; refine (within_any id 1 sz _).mono ?_; rintro e w1 ⟨rfl, hw⟩; obtain rfl := hw.symm; rw [h2]))
      go_ret
      exact ⟨rfl, rfl⟩
    · cases h3 : inB el 2 1000
      · have e : placeB id sz el bt = false := by simp [placeB, h3]
        rw [e]
        go_enter Try.func67, Try.ntmps67
        go_wp2_with (first
          | (go_at_call 125; refine (sizeFitsN_any _ _).mono ?_; rintro e w1 ⟨rfl, hw⟩; obtain rfl := hw.symm; rw [h1])
          | (go_at_call 71; clear g1; refine (within_any id 1 sz _).mono ?_; rintro e w1 ⟨rfl, hw⟩; obtain rfl := hw.symm; rw [h2])
          | (go_at_call 71; clear g2; refine (within_any el 2 1000 _).mono ?_; rintro e w1 ⟨rfl, hw⟩; obtain rfl := hw.symm; rw [h3]))
        go_ret
        exact ⟨rfl, rfl⟩
      · have e : placeB id sz el bt = inB bt 1 el := by simp [placeB, h1, h2, h3]
        rw [e]
        go_enter Try.func67, Try.ntmps67
        go_wp2_with (first
          | (go_at_call 125; refine (sizeFitsN_any _ _).mono ?_; rintro e w1 ⟨rfl, hw⟩; obtain rfl := hw.symm; rw [h1])
          | (go_at_call 71; clear g1; refine (within_any id 1 sz _).mono ?_; rintro e w1 ⟨rfl, hw⟩; obtain rfl := hw.symm; rw [h2])
          | (go_at_call 71; clear g2; refine (within_any el 2 1000 _).mono ?_; rintro e w1 ⟨rfl, hw⟩; obtain rfl := hw.symm; rw [h3])
          | (go_at_call 71; refine (within_any bt 1 el _).mono ?_; rintro e w1 ⟨rfl, hw⟩; obtain rfl := hw.symm))
        go_ret
        exact ⟨rfl, rfl⟩
theorem configOk_any (id sz el bt : Int) (w : World) : Calls Try.prog 61 #[.int .i64 id, .int .i64 sz, .int .i64 el, .int .i64 bt] w fun e w' => e = .returned (.bool (placeB id sz el bt)) ∧ w' = w := by
  have g1 : True := trivial
  have g2 : True := trivial
  cases h1 : sizB sz
  · have e : placeB id sz el bt = false := by simp [placeB, h1]
    rw [e]
    go_enter Try.func61, Try.ntmps61
    go_wp2_with (go_at_call 122; refine (l3size_any _ _).mono ?_; rintro e w1 ⟨rfl, hw⟩; obtain rfl := hw.symm; rw [h1])
    go_ret
    exact ⟨rfl, rfl⟩
  · cases h2 : inB id 1 sz
    · have e : placeB id sz el bt = false := by simp [placeB, h2]
      rw [e]
      go_enter Try.func61, Try.ntmps61
      go_wp2_with (first
        | (go_at_call 122; refine (l3size_any _ _).mono ?_; rintro e w1 ⟨rfl, hw⟩; obtain rfl := hw.symm; rw [h1])
        | (go_at_call 62; clear g1; refine (l1in_any id 1 sz _).mono ?_; rintro e w1 ⟨rfl, hw⟩; obtain rfl := hw.symm; rw [h2]))
      go_ret
      exact ⟨rfl, rfl⟩
    · cases h3 : inB el 2 1000
      · have e : placeB id sz el bt = false := by simp [placeB, h3]
        rw [e]
        go_enter Try.func61, Try.ntmps61
        go_wp2_with (first
          | (go_at_call 122; refine (l3size_any _ _).mono ?_; rintro e w1 ⟨rfl, hw⟩; obtain rfl := hw.symm; rw [h1])
          | (go_at_call 62; clear g1; refine (l1in_any id 1 sz _).mono ?_; rintro e w1 ⟨rfl, hw⟩; obtain rfl := hw.symm; rw [h2])
          | (go_at_call 62; clear g2; refine (l1in_any el 2 1000 _).mono ?_; rintro e w1 ⟨rfl, hw⟩; obtain rfl := hw.symm; rw [h3]))
        go_ret
        exact ⟨rfl, rfl⟩
      · have e : placeB id sz el bt = inB bt 1 el := by simp [placeB, h1, h2, h3]
        rw [e]
        go_enter Try.func61, Try.ntmps61
        go_wp2_with (first
          | (go_at_call 122; refine (l3size_any _ _).mono ?_; rintro e w1 ⟨rfl, hw⟩; obtain rfl := hw.symm; rw [h1])
          | (go_at_call 62; clear g1; refine (l1in_any id 1 sz _).mono ?_; rintro e w1 ⟨rfl, hw⟩; obtain rfl := hw.symm; rw [h2])
          | (go_at_call 62; clear g2; refine (l1in_any el 2 1000 _).mono ?_; rintro e w1 ⟨rfl, hw⟩; obtain rfl := hw.symm; rw [h3])
          | (go_at_call 62; refine (l1in_any bt 1 el _).mono ?_; rintro e w1 ⟨rfl, hw⟩; obtain rfl := hw.symm))
        go_ret
        exact ⟨rfl, rfl⟩
def voteB (sz tm vo : Int) : Bool := inB tm 0 1073741824 && (inB vo 0 sz && (vo == 0 || decide (0 < tm)))
set_option maxHeartbeats 1000000 in
theorem voteFits_any (i0 i1 i2 i3 i4 i5 i6 i7 i8 i9 i10 i11 : Int) (a12 a13 a14 a15 a16 a17 : Option Addr) (n12 cap12 n13 cap13 n14 cap14 n15 cap15 n16 cap16 n17 cap17 : Nat) (w : World) : Calls Try.prog 68 #[.agg #[.int .i64 i0, .int .i64 i1, .int .i64 i2, .int .i64 i3, .int .i64 i4, .int .i64 i5, .int .i64 i6, .int .i64 i7, .int .i64 i8, .int .i64 i9, .int .i64 i10, .int .i64 i11, .slice a12 n12 cap12, .slice a13 n13 cap13, .slice a14 n14 cap14, .slice a15 n15 cap15, .slice a16 n16 cap16, .slice a17 n17 cap17]] w fun e w' => e = .returned (.bool (voteB i1 i4 i5)) ∧ Below w.heap.size w w' := by
  have hb0 : Hid (Below w.heap.size w (w.alloc (.cells #[.int .i64 i0, .int .i64 i1, .int .i64 i2, .int .i64 i3, .int .i64 i4, .int .i64 i5, .int .i64 i6, .int .i64 i7, .int .i64 i8, .int .i64 i9, .int .i64 i10, .int .i64 i11, .slice a12 n12 cap12, .slice a13 n13 cap13, .slice a14 n14 cap14, .slice a15 n15 cap15, .slice a16 n16 cap16, .slice a17 n17 cap17] 62))) := (Below.refl _ _).alloc (Nat.le_refl _) _
  have g1 : True := trivial
  cases h1 : inB i4 0 1073741824
  · have e : voteB i1 i4 i5 = false := by simp [voteB, h1]
    rw [e]
    go_enter Try.func68, Try.ntmps68
    go_wp2_with (go_at_call 71; clear g1; refine (within_any i4 0 1073741824 _).mono ?_; rintro e w1 ⟨rfl, hw⟩; obtain rfl := hw.symm; rw [h1])
    go_ret
    exact ⟨rfl, hb0.out⟩
  · cases h2 : inB i5 0 i1
    · have e : voteB i1 i4 i5 = false := by simp [voteB, h2]
      rw [e]
      go_enter Try.func68, Try.ntmps68
      go_wp2_with (first
        | (go_at_call 71; clear g1; refine (within_any i4 0 1073741824 _).mono ?_; rintro e w1 ⟨rfl, hw⟩; obtain rfl := hw.symm; rw [h1])
        | (go_at_call 71; refine (within_any i5 0 i1 _).mono ?_; rintro e w1 ⟨rfl, hw⟩; obtain rfl := hw.symm; rw [h2]))
      go_ret
      exact ⟨rfl, hb0.out⟩
    · by_cases h0 : i5 = 0
      · subst h0
        have e : voteB i1 i4 0 = true := by simp [voteB, h1, h2]
        rw [e]
        go_enter Try.func68, Try.ntmps68
        go_wp2_with (first
          | (go_at_call 71; clear g1; refine (within_any i4 0 1073741824 _).mono ?_; rintro e w1 ⟨rfl, hw⟩; obtain rfl := hw.symm; rw [h1])
          | (go_at_call 71; refine (within_any 0 0 i1 _).mono ?_; rintro e w1 ⟨rfl, hw⟩; obtain rfl := hw.symm; rw [h2]))
        go_ret
        exact ⟨rfl, hb0.out⟩
      · have e : voteB i1 i4 i5 = decide (0 < i4) := by simp [voteB, h1, h2, h0]
        rw [e]
        go_enter Try.func68, Try.ntmps68
        go_wp2_with (first
          | (go_at_call 71; clear g1; refine (within_any i4 0 1073741824 _).mono ?_; rintro e w1 ⟨rfl, hw⟩; obtain rfl := hw.symm; rw [h1])
          | (go_at_call 71; refine (within_any i5 0 i1 _).mono ?_; rintro e w1 ⟨rfl, hw⟩; obtain rfl := hw.symm; rw [h2]))
        go_ret
        exact ⟨by simp [h0], hb0.out⟩
def clockB (el nw dl hd : Int) : Bool := inB nw 0 1099511627776 && (inB dl 0 (nw + 2 * el) && inB hd 0 nw)
set_option maxHeartbeats 1000000 in
theorem clockFits_any (i0 i1 i2 i3 i4 i5 i6 i7 i8 i9 i10 i11 : Int) (a12 a13 a14 a15 a16 a17 : Option Addr) (n12 cap12 n13 cap13 n14 cap14 n15 cap15 n16 cap16 n17 cap17 : Nat) (w : World) (hel : 0 ≤ i2) (hel' : i2 ≤ 1000) : Calls Try.prog 72 #[.agg #[.int .i64 i0, .int .i64 i1, .int .i64 i2, .int .i64 i3, .int .i64 i4, .int .i64 i5, .int .i64 i6, .int .i64 i7, .int .i64 i8, .int .i64 i9, .int .i64 i10, .int .i64 i11, .slice a12 n12 cap12, .slice a13 n13 cap13, .slice a14 n14 cap14, .slice a15 n15 cap15, .slice a16 n16 cap16, .slice a17 n17 cap17]] w fun e w' => e = .returned (.bool (clockB i2 i9 i10 i11)) ∧ Below w.heap.size w w' := by
  have hb0 : Hid (Below w.heap.size w (w.alloc (.cells #[.int .i64 i0, .int .i64 i1, .int .i64 i2, .int .i64 i3, .int .i64 i4, .int .i64 i5, .int .i64 i6, .int .i64 i7, .int .i64 i8, .int .i64 i9, .int .i64 i10, .int .i64 i11, .slice a12 n12 cap12, .slice a13 n13 cap13, .slice a14 n14 cap14, .slice a15 n15 cap15, .slice a16 n16 cap16, .slice a17 n17 cap17] 62))) := (Below.refl _ _).alloc (Nat.le_refl _) _
  have g1 : True := trivial
  have g2 : True := trivial
  cases h1 : inB i9 0 1099511627776
  · have e : clockB i2 i9 i10 i11 = false := by simp [clockB, h1]
    rw [e]
    go_enter Try.func72, Try.ntmps72
    go_wp2_with (go_at_call 71; clear g1; refine (within_any i9 0 1099511627776 _).mono ?_; rintro e w1 ⟨rfl, hw⟩; obtain rfl := hw.symm; rw [h1])
    go_ret
    exact ⟨rfl, hb0.out⟩
  · have hn := (inB_iff _ _ _).1 h1
    cases h2 : inB i10 0 (i9 + 2 * i2)
    · have e : clockB i2 i9 i10 i11 = false := by simp [clockB, h2]
      rw [e]
      go_enter Try.func72, Try.ntmps72
      go_wp2_with (first
        | (go_at_call 71; clear g1; refine (within_any i9 0 1099511627776 _).mono ?_; rintro e w1 ⟨rfl, hw⟩; obtain rfl := hw.symm; rw [h1])
        | (go_at_call 71; clear g2; refine (within_any i10 0 (i9 + 2 * i2) _).mono ?_; rintro e w1 ⟨rfl, hw⟩; obtain rfl := hw.symm; rw [h2]))
      go_ret
      exact ⟨rfl, hb0.out⟩
    · have e : clockB i2 i9 i10 i11 = inB i11 0 i9 := by simp [clockB, h1, h2]
      rw [e]
      go_enter Try.func72, Try.ntmps72
      go_wp2_with (first
        | (go_at_call 71; clear g1; refine (within_any i9 0 1099511627776 _).mono ?_; rintro e w1 ⟨rfl, hw⟩; obtain rfl := hw.symm; rw [h1])
        | (go_at_call 71; clear g2; refine (within_any i10 0 (i9 + 2 * i2) _).mono ?_; rintro e w1 ⟨rfl, hw⟩; obtain rfl := hw.symm; rw [h2])
        | (go_at_call 71; refine (within_any i11 0 i9 _).mono ?_; rintro e w1 ⟨rfl, hw⟩; obtain rfl := hw.symm))
      go_ret
      exact ⟨rfl, hb0.out⟩
end Go.Proofs.Ytjhkfjmgdkcipad
