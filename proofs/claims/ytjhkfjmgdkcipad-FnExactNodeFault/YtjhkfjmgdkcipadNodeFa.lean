/-
  NodeFault: spec.
-/
import Derived.Test.YtjhkfjmgdkcipadNodeFf
import Derived.Test.YtjhkfjmgdkcipadNodeFs0z
import Derived.Test.YtjhkfjmgdkcipadNodeFs0p
import Derived.Test.YtjhkfjmgdkcipadNodeFs1z
import Derived.Test.YtjhkfjmgdkcipadNodeFs1p
import Derived.Test.YtjhkfjmgdkcipadNodeFs2
import Derived.Test.YtjhkfjmgdkcipadNodeFs3
namespace Go.Proofs.Ytjhkfjmgdkcipad
open Go.RowKit
set_option linter.unusedVariables false
set_option linter.unusedSimpArgs false

set_option maxHeartbeats 4000000 in
set_option maxRecDepth 100000 in
theorem sNodeFault_any (i0 i1 i2 i3 i4 i5 i6 i7 i8 i9 i10 i11 : Int) (a12 a13 a14 a15 a16 a17 : Option Addr) (cap12 cap13 cap14 cap15 cap16 cap17 : Nat) (l12 : List Ent) (l13 l14 l15 l16 l17 : List Int) (w : World) (h12 : Es w (.slice a12 l12.length cap12) l12) (h13 : Ix w (.slice a13 l13.length cap13) l13) (h14 : Ix w (.slice a14 l14.length cap14) l14) (h15 : Ix w (.slice a15 l15.length cap15) l15) (h16 : Ix w (.slice a16 l16.length cap16) l16) (h17 : Ix w (.slice a17 l17.length cap17) l17) (z12 : l12.length ≤ 1048576) (z13 : l13.length ≤ 1048576) (z14 : l14.length ≤ 1048576) (z15 : l15.length ≤ 1048576) (z16 : l16.length ≤ 1048576) (z17 : l17.length ≤ 1048576) : Calls Try.prog 23 #[.agg #[.int .i64 i0, .int .i64 i1, .int .i64 i2, .int .i64 i3, .int .i64 i4, .int .i64 i5, .int .i64 i6, .int .i64 i7, .int .i64 i8, .int .i64 i9, .int .i64 i10, .int .i64 i11, .slice a12 l12.length cap12, .slice a13 l13.length cap13, .slice a14 l14.length cap14, .slice a15 l15.length cap15, .slice a16 l16.length cap16, .slice a17 l17.length cap17]] w fun e w' => e = .returned (.int .i64 (nodeF i0 i1 i2 i3 i4 i5 i6 i7 i8 i9 i10 i11 l12 l13 l14 l15 l16 l17)) ∧ Below w.heap.size w w' := by
  cases hpl : placeB i0 i1 i2 i3
  · rw [show nodeF i0 i1 i2 i3 i4 i5 i6 i7 i8 i9 i10 i11 l12 l13 l14 l15 l16 l17 = 1 by simp [nodeF, hpl]]
    exact sNF_1 i0 i1 i2 i3 i4 i5 i6 i7 i8 i9 i10 i11 a12 a13 a14 a15 a16 a17 cap12 cap13 cap14 cap15 cap16 cap17 l12 l13 l14 l15 l16 l17 w hpl
  obtain ⟨_, ⟨hs3, hs7⟩, ⟨hid1, hid2⟩, _, _⟩ := placeB_facts hpl
  cases hv : voteB i1 i4 i5
  · rw [show nodeF i0 i1 i2 i3 i4 i5 i6 i7 i8 i9 i10 i11 l12 l13 l14 l15 l16 l17 = 2 by simp [nodeF, hpl, hv]]
    cases k1 : inB i4 0 1073741824
    · exact sNF_2a i0 i1 i2 i3 i4 i5 i6 i7 i8 i9 i10 i11 a12 a13 a14 a15 a16 a17 cap12 cap13 cap14 cap15 cap16 cap17 l12 l13 l14 l15 l16 l17 w hpl k1
    cases k2 : inB i5 0 i1
    · exact sNF_2b i0 i1 i2 i3 i4 i5 i6 i7 i8 i9 i10 i11 a12 a13 a14 a15 a16 a17 cap12 cap13 cap14 cap15 cap16 cap17 l12 l13 l14 l15 l16 l17 w hpl k1 k2
    have r1 := (inB_iff _ _ _).1 k1
    have hv2 : i5 ≠ 0 ∧ i4 ≤ 0 := by simpa [voteB, k1, k2] using hv
    obtain rfl : i4 = 0 := by omega
    exact sNF_2c i0 i1 i2 i3 i5 i6 i7 i8 i9 i10 i11 a12 a13 a14 a15 a16 a17 cap12 cap13 cap14 cap15 cap16 cap17 l12 l13 l14 l15 l16 l17 w hpl k1 k2 (by simpa using hv2.1)
  have hvs := hv
  simp only [voteB, Bool.and_eq_true] at hvs
  obtain ⟨k1, k2, hvt⟩ := hvs
  have r1 := (inB_iff _ _ _).1 k1
  have hvt2 : i5 = 0 ∨ 0 < i4 := by simpa using hvt
  clear hvt
  cases hr : roleB i0 i1 i4 i5 i6 i7
  · rw [show nodeF i0 i1 i2 i3 i4 i5 i6 i7 i8 i9 i10 i11 l12 l13 l14 l15 l16 l17 = 3 by simp [nodeF, hpl, hv, hr]]
    clear hv
    by_cases h0 : i4 = 0
    · subst h0
      obtain rfl : i5 = 0 := by omega
      cases k3 : inB i6 0 3
      · exact sNF_3az i0 i1 i2 i3 i6 i7 i8 i9 i10 i11 a12 a13 a14 a15 a16 a17 cap12 cap13 cap14 cap15 cap16 cap17 l12 l13 l14 l15 l16 l17 w hpl k1 k2 k3
      cases k4 : inB i7 0 i1
      · exact sNF_3bz i0 i1 i2 i3 i6 i7 i8 i9 i10 i11 a12 a13 a14 a15 a16 a17 cap12 cap13 cap14 cap15 cap16 cap17 l12 l13 l14 l15 l16 l17 w hpl k1 k2 k3 k4
      have r3 := (inB_iff _ _ _).1 k3
      rcases (show i6 = 0 ∨ i6 = 1 ∨ i6 = 2 ∨ i6 = 3 by omega) with rfl | rfl | rfl | rfl
      · obtain rfl : i7 = i0 := by simpa [roleB, k3, k4] using hr
        exact sNF_30z i7 i1 i2 i3 i8 i9 i10 i11 a12 a13 a14 a15 a16 a17 cap12 cap13 cap14 cap15 cap16 cap17 l12 l13 l14 l15 l16 l17 w hpl k1 k2 k4
      · have hl : i7 ≠ 0 := by simpa [roleB, k3, k4] using hr
        exact sNF_31z i0 i1 i2 i3 i7 i8 i9 i10 i11 a12 a13 a14 a15 a16 a17 cap12 cap13 cap14 cap15 cap16 cap17 l12 l13 l14 l15 l16 l17 w hpl k1 k2 k4 (by simpa using hl) (by simpa using hl)
      · exact sNF_32tz i0 i1 i2 i3 i7 i8 i9 i10 i11 a12 a13 a14 a15 a16 a17 cap12 cap13 cap14 cap15 cap16 cap17 l12 l13 l14 l15 l16 l17 w hpl k1 k2 k4
      · exact sNF_33tz i0 i1 i2 i3 i7 i8 i9 i10 i11 a12 a13 a14 a15 a16 a17 cap12 cap13 cap14 cap15 cap16 cap17 l12 l13 l14 l15 l16 l17 w hpl k1 k2 k4
    have hp : 0 < i4 := by omega
    have nt : (i4 == 0) = false := by simpa using h0
    cases k3 : inB i6 0 3
    · exact sNF_3ap i0 i1 i2 i3 i4 i5 i6 i7 i8 i9 i10 i11 a12 a13 a14 a15 a16 a17 cap12 cap13 cap14 cap15 cap16 cap17 l12 l13 l14 l15 l16 l17 w hpl k1 k2 nt hp k3
    cases k4 : inB i7 0 i1
    · exact sNF_3bp i0 i1 i2 i3 i4 i5 i6 i7 i8 i9 i10 i11 a12 a13 a14 a15 a16 a17 cap12 cap13 cap14 cap15 cap16 cap17 l12 l13 l14 l15 l16 l17 w hpl k1 k2 nt hp k3 k4
    have r3 := (inB_iff _ _ _).1 k3
    rcases (show i6 = 0 ∨ i6 = 1 ∨ i6 = 2 ∨ i6 = 3 by omega) with rfl | rfl | rfl | rfl
    · obtain rfl : i7 = i0 := by simpa [roleB, k3, k4] using hr
      exact sNF_30p i7 i1 i2 i3 i4 i5 i8 i9 i10 i11 a12 a13 a14 a15 a16 a17 cap12 cap13 cap14 cap15 cap16 cap17 l12 l13 l14 l15 l16 l17 w hpl k1 k2 nt hp k4
    · have hl : i7 ≠ 0 := by simpa [roleB, k3, k4] using hr
      exact sNF_31p i0 i1 i2 i3 i4 i5 i7 i8 i9 i10 i11 a12 a13 a14 a15 a16 a17 cap12 cap13 cap14 cap15 cap16 cap17 l12 l13 l14 l15 l16 l17 w hpl k1 k2 nt hp k4 (by simpa using hl) (by simpa using hl)
    · by_cases hvi : i5 = i0
      · subst hvi
        have hl : i7 ≠ 0 := by simpa [roleB, k3, k4, hp] using hr
        exact sNF_32lp i5 i1 i2 i3 i4 i7 i8 i9 i10 i11 a12 a13 a14 a15 a16 a17 cap12 cap13 cap14 cap15 cap16 cap17 l12 l13 l14 l15 l16 l17 w hpl k1 k2 nt hp k4 (by simpa using hl) (by simpa using hl)
      · exact sNF_32vp i0 i1 i2 i3 i4 i5 i7 i8 i9 i10 i11 a12 a13 a14 a15 a16 a17 cap12 cap13 cap14 cap15 cap16 cap17 l12 l13 l14 l15 l16 l17 w hpl k1 k2 nt hp k4 (by simpa using hvi)
    · by_cases hvi : i5 = i0
      · subst hvi
        have hl : i7 ≠ i5 := by simpa [roleB, k3, k4, hp] using hr
        exact sNF_33lp i5 i1 i2 i3 i4 i7 i8 i9 i10 i11 a12 a13 a14 a15 a16 a17 cap12 cap13 cap14 cap15 cap16 cap17 l12 l13 l14 l15 l16 l17 w hpl k1 k2 nt hp k4 (by simpa using hl)
      · exact sNF_33vp i0 i1 i2 i3 i4 i5 i7 i8 i9 i10 i11 a12 a13 a14 a15 a16 a17 cap12 cap13 cap14 cap15 cap16 cap17 l12 l13 l14 l15 l16 l17 w hpl k1 k2 nt hp k4 (by simpa using hvi)
  have hrs := hr
  simp only [roleB, Bool.and_eq_true] at hrs
  obtain ⟨k3, k4, hrr⟩ := hrs
  have r3 := (inB_iff _ _ _).1 k3
  rcases (show i6 = 0 ∨ i6 = 1 ∨ i6 = 2 ∨ i6 = 3 by omega) with rfl | rfl | rfl | rfl
  · have hl : i7 ≠ i0 := by simpa using hrr
    by_cases h0 : i4 = 0
    · subst h0
      obtain rfl : i5 = 0 := by omega
      exact sNodeFault_0z i0 i1 i2 i3 i7 i8 i9 i10 i11 a12 a13 a14 a15 a16 a17 cap12 cap13 cap14 cap15 cap16 cap17 l12 l13 l14 l15 l16 l17 w h12 h13 h14 h15 h16 h17 z12 z13 z14 z15 z16 z17 hpl hv hr (by simpa using hl)
    · exact sNodeFault_0p i0 i1 i2 i3 i4 i5 i7 i8 i9 i10 i11 a12 a13 a14 a15 a16 a17 cap12 cap13 cap14 cap15 cap16 cap17 l12 l13 l14 l15 l16 l17 w h12 h13 h14 h15 h16 h17 z12 z13 z14 z15 z16 z17 hpl hv hr (by simpa using hl) (by omega)
  · obtain rfl : i7 = 0 := by simpa using hrr
    by_cases h0 : i4 = 0
    · subst h0
      obtain rfl : i5 = 0 := by omega
      exact sNodeFault_1z i0 i1 i2 i3 i8 i9 i10 i11 a12 a13 a14 a15 a16 a17 cap12 cap13 cap14 cap15 cap16 cap17 l12 l13 l14 l15 l16 l17 w h12 h13 h14 h15 h16 h17 z12 z13 z14 z15 z16 z17 hpl hv hr 
    · exact sNodeFault_1p i0 i1 i2 i3 i4 i5 i8 i9 i10 i11 a12 a13 a14 a15 a16 a17 cap12 cap13 cap14 cap15 cap16 cap17 l12 l13 l14 l15 l16 l17 w h12 h13 h14 h15 h16 h17 z12 z13 z14 z15 z16 z17 hpl hv hr (by omega)
  · have h3 : i7 = 0 ∧ 0 < i4 ∧ i5 = i0 := by simpa using hrr
    obtain ⟨rfl, hp, rfl⟩ := h3
    exact sNodeFault_2 i5 i1 i2 i3 i4 i8 i9 i10 i11 a12 a13 a14 a15 a16 a17 cap12 cap13 cap14 cap15 cap16 cap17 l12 l13 l14 l15 l16 l17 w h12 h13 h14 h15 h16 h17 z12 z13 z14 z15 z16 z17 hpl hv hr hp
  · have h3 : i7 = i0 ∧ 0 < i4 ∧ i5 = i0 := by simpa using hrr
    obtain ⟨rfl, hp, rfl⟩ := h3
    exact sNodeFault_3 i5 i1 i2 i3 i4 i8 i9 i10 i11 a12 a13 a14 a15 a16 a17 cap12 cap13 cap14 cap15 cap16 cap17 l12 l13 l14 l15 l16 l17 w h12 h13 h14 h15 h16 h17 z12 z13 z14 z15 z16 z17 hpl hv hr hp
end Go.Proofs.Ytjhkfjmgdkcipad
