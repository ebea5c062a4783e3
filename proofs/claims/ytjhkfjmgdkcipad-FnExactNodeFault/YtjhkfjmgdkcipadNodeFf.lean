/-
  NodeFault: spec, where it is refused early.
-/
import Derived.Test.YtjhkfjmgdkcipadNodeFsB
namespace Go.Proofs.Ytjhkfjmgdkcipad
open Go.RowKit
set_option linter.unusedVariables false
set_option linter.unusedSimpArgs false

set_option maxHeartbeats 4000000 in
set_option maxRecDepth 100000 in
theorem sNF_1 (i0 i1 i2 i3 i4 i5 i6 i7 i8 i9 i10 i11 : Int) (a12 a13 a14 a15 a16 a17 : Option Addr) (cap12 cap13 cap14 cap15 cap16 cap17 : Nat) (l12 : List Ent) (l13 l14 l15 l16 l17 : List Int) (w : World) (hpl : placeB i0 i1 i2 i3 = false) : Calls Try.prog 23 #[.agg #[.int .i64 i0, .int .i64 i1, .int .i64 i2, .int .i64 i3, .int .i64 i4, .int .i64 i5, .int .i64 i6, .int .i64 i7, .int .i64 i8, .int .i64 i9, .int .i64 i10, .int .i64 i11, .slice a12 l12.length cap12, .slice a13 l13.length cap13, .slice a14 l14.length cap14, .slice a15 l15.length cap15, .slice a16 l16.length cap16, .slice a17 l17.length cap17]] w fun e w' => e = .returned (.int .i64 1) ∧ Below w.heap.size w w' := by
  have hb0 : Hid (Below w.heap.size w (w.alloc (.cells #[.int .i64 i0, .int .i64 i1, .int .i64 i2, .int .i64 i3, .int .i64 i4, .int .i64 i5, .int .i64 i6, .int .i64 i7, .int .i64 i8, .int .i64 i9, .int .i64 i10, .int .i64 i11, .slice a12 l12.length cap12, .slice a13 l13.length cap13, .slice a14 l14.length cap14, .slice a15 l15.length cap15, .slice a16 l16.length cap16, .slice a17 l17.length cap17] 62))) := (Below.refl _ _).alloc (Nat.le_refl _) _
  have g1 : True := trivial
  have g2 : True := trivial
  have g3 : True := trivial
  have g4 : True := trivial
  go_enter Try.func23, Try.ntmps23
  go_wp2_with (first
    | (go_at_call 61; refine (configOk_any _ _ _ _ _).mono ?_; rintro e w1 ⟨rfl, hw⟩; obtain rfl := hw.symm; clear hw; rw [hpl]))
  all_goals go_ret
  all_goals exact ⟨rfl, hb0.out⟩

set_option maxHeartbeats 4000000 in
set_option maxRecDepth 100000 in
theorem sNF_2a (i0 i1 i2 i3 i4 i5 i6 i7 i8 i9 i10 i11 : Int) (a12 a13 a14 a15 a16 a17 : Option Addr) (cap12 cap13 cap14 cap15 cap16 cap17 : Nat) (l12 : List Ent) (l13 l14 l15 l16 l17 : List Int) (w : World) (hpl : placeB i0 i1 i2 i3 = true) (k1 : inB i4 0 1073741824 = false) : Calls Try.prog 23 #[.agg #[.int .i64 i0, .int .i64 i1, .int .i64 i2, .int .i64 i3, .int .i64 i4, .int .i64 i5, .int .i64 i6, .int .i64 i7, .int .i64 i8, .int .i64 i9, .int .i64 i10, .int .i64 i11, .slice a12 l12.length cap12, .slice a13 l13.length cap13, .slice a14 l14.length cap14, .slice a15 l15.length cap15, .slice a16 l16.length cap16, .slice a17 l17.length cap17]] w fun e w' => e = .returned (.int .i64 2) ∧ Below w.heap.size w w' := by
  have hb0 : Hid (Below w.heap.size w (w.alloc (.cells #[.int .i64 i0, .int .i64 i1, .int .i64 i2, .int .i64 i3, .int .i64 i4, .int .i64 i5, .int .i64 i6, .int .i64 i7, .int .i64 i8, .int .i64 i9, .int .i64 i10, .int .i64 i11, .slice a12 l12.length cap12, .slice a13 l13.length cap13, .slice a14 l14.length cap14, .slice a15 l15.length cap15, .slice a16 l16.length cap16, .slice a17 l17.length cap17] 62))) := (Below.refl _ _).alloc (Nat.le_refl _) _
  have g1 : True := trivial
  have g2 : True := trivial
  have g3 : True := trivial
  have g4 : True := trivial
  go_enter Try.func23, Try.ntmps23
  go_wp2_with (first
    | (go_at_call 61; refine (configOk_any _ _ _ _ _).mono ?_; rintro e w1 ⟨rfl, hw⟩; obtain rfl := hw.symm; clear hw; rw [hpl])
    | (go_at_call 62; clear g1; refine (l1in_any i4 0 1073741824 _).mono ?_; rintro e w9 ⟨rfl, hw⟩; obtain rfl := hw.symm; clear hw; rw [k1]))
  all_goals go_ret
  all_goals exact ⟨rfl, hb0.out⟩

set_option maxHeartbeats 4000000 in
set_option maxRecDepth 100000 in
theorem sNF_2b (i0 i1 i2 i3 i4 i5 i6 i7 i8 i9 i10 i11 : Int) (a12 a13 a14 a15 a16 a17 : Option Addr) (cap12 cap13 cap14 cap15 cap16 cap17 : Nat) (l12 : List Ent) (l13 l14 l15 l16 l17 : List Int) (w : World) (hpl : placeB i0 i1 i2 i3 = true) (k1 : inB i4 0 1073741824 = true) (k2 : inB i5 0 i1 = false) : Calls Try.prog 23 #[.agg #[.int .i64 i0, .int .i64 i1, .int .i64 i2, .int .i64 i3, .int .i64 i4, .int .i64 i5, .int .i64 i6, .int .i64 i7, .int .i64 i8, .int .i64 i9, .int .i64 i10, .int .i64 i11, .slice a12 l12.length cap12, .slice a13 l13.length cap13, .slice a14 l14.length cap14, .slice a15 l15.length cap15, .slice a16 l16.length cap16, .slice a17 l17.length cap17]] w fun e w' => e = .returned (.int .i64 2) ∧ Below w.heap.size w w' := by
  have hb0 : Hid (Below w.heap.size w (w.alloc (.cells #[.int .i64 i0, .int .i64 i1, .int .i64 i2, .int .i64 i3, .int .i64 i4, .int .i64 i5, .int .i64 i6, .int .i64 i7, .int .i64 i8, .int .i64 i9, .int .i64 i10, .int .i64 i11, .slice a12 l12.length cap12, .slice a13 l13.length cap13, .slice a14 l14.length cap14, .slice a15 l15.length cap15, .slice a16 l16.length cap16, .slice a17 l17.length cap17] 62))) := (Below.refl _ _).alloc (Nat.le_refl _) _
  have g1 : True := trivial
  have g2 : True := trivial
  have g3 : True := trivial
  have g4 : True := trivial
  go_enter Try.func23, Try.ntmps23
  go_wp2_with (first
    | (go_at_call 61; refine (configOk_any _ _ _ _ _).mono ?_; rintro e w1 ⟨rfl, hw⟩; obtain rfl := hw.symm; clear hw; rw [hpl])
    | (go_at_call 62; clear g1; refine (l1in_any i4 0 1073741824 _).mono ?_; rintro e w9 ⟨rfl, hw⟩; obtain rfl := hw.symm; clear hw; rw [k1])
    | (go_at_call 62; clear g2; refine (l1in_any i5 0 i1 _).mono ?_; rintro e w9 ⟨rfl, hw⟩; obtain rfl := hw.symm; clear hw; rw [k2]))
  all_goals go_ret
  all_goals exact ⟨rfl, hb0.out⟩

set_option maxHeartbeats 4000000 in
set_option maxRecDepth 100000 in
theorem sNF_2c (i0 i1 i2 i3 i5 i6 i7 i8 i9 i10 i11 : Int) (a12 a13 a14 a15 a16 a17 : Option Addr) (cap12 cap13 cap14 cap15 cap16 cap17 : Nat) (l12 : List Ent) (l13 l14 l15 l16 l17 : List Int) (w : World) (hpl : placeB i0 i1 i2 i3 = true) (k1 : inB 0 0 1073741824 = true) (k2 : inB i5 0 i1 = true) (nv : (i5 != 0) = true) : Calls Try.prog 23 #[.agg #[.int .i64 i0, .int .i64 i1, .int .i64 i2, .int .i64 i3, .int .i64 0, .int .i64 i5, .int .i64 i6, .int .i64 i7, .int .i64 i8, .int .i64 i9, .int .i64 i10, .int .i64 i11, .slice a12 l12.length cap12, .slice a13 l13.length cap13, .slice a14 l14.length cap14, .slice a15 l15.length cap15, .slice a16 l16.length cap16, .slice a17 l17.length cap17]] w fun e w' => e = .returned (.int .i64 2) ∧ Below w.heap.size w w' := by
  have hb0 : Hid (Below w.heap.size w (w.alloc (.cells #[.int .i64 i0, .int .i64 i1, .int .i64 i2, .int .i64 i3, .int .i64 0, .int .i64 i5, .int .i64 i6, .int .i64 i7, .int .i64 i8, .int .i64 i9, .int .i64 i10, .int .i64 i11, .slice a12 l12.length cap12, .slice a13 l13.length cap13, .slice a14 l14.length cap14, .slice a15 l15.length cap15, .slice a16 l16.length cap16, .slice a17 l17.length cap17] 62))) := (Below.refl _ _).alloc (Nat.le_refl _) _
  have g1 : True := trivial
  have g2 : True := trivial
  have g3 : True := trivial
  have g4 : True := trivial
  go_enter Try.func23, Try.ntmps23
  go_wp2_with (first
    | (go_at_call 61; refine (configOk_any _ _ _ _ _).mono ?_; rintro e w1 ⟨rfl, hw⟩; obtain rfl := hw.symm; clear hw; rw [hpl])
    | (go_at_call 62; clear g1; refine (l1in_any 0 0 1073741824 _).mono ?_; rintro e w9 ⟨rfl, hw⟩; obtain rfl := hw.symm; clear hw; rw [k1])
    | (go_at_call 62; clear g2; refine (l1in_any i5 0 i1 _).mono ?_; rintro e w9 ⟨rfl, hw⟩; obtain rfl := hw.symm; clear hw; rw [k2]))
  all_goals go_ret
  all_goals exact ⟨rfl, hb0.out⟩

set_option maxHeartbeats 4000000 in
set_option maxRecDepth 100000 in
theorem sNF_3az (i0 i1 i2 i3 i6 i7 i8 i9 i10 i11 : Int) (a12 a13 a14 a15 a16 a17 : Option Addr) (cap12 cap13 cap14 cap15 cap16 cap17 : Nat) (l12 : List Ent) (l13 l14 l15 l16 l17 : List Int) (w : World) (hpl : placeB i0 i1 i2 i3 = true) (k1 : inB 0 0 1073741824 = true) (k2 : inB 0 0 i1 = true) (k3 : inB i6 0 3 = false) : Calls Try.prog 23 #[.agg #[.int .i64 i0, .int .i64 i1, .int .i64 i2, .int .i64 i3, .int .i64 0, .int .i64 0, .int .i64 i6, .int .i64 i7, .int .i64 i8, .int .i64 i9, .int .i64 i10, .int .i64 i11, .slice a12 l12.length cap12, .slice a13 l13.length cap13, .slice a14 l14.length cap14, .slice a15 l15.length cap15, .slice a16 l16.length cap16, .slice a17 l17.length cap17]] w fun e w' => e = .returned (.int .i64 3) ∧ Below w.heap.size w w' := by
  have hb0 : Hid (Below w.heap.size w (w.alloc (.cells #[.int .i64 i0, .int .i64 i1, .int .i64 i2, .int .i64 i3, .int .i64 0, .int .i64 0, .int .i64 i6, .int .i64 i7, .int .i64 i8, .int .i64 i9, .int .i64 i10, .int .i64 i11, .slice a12 l12.length cap12, .slice a13 l13.length cap13, .slice a14 l14.length cap14, .slice a15 l15.length cap15, .slice a16 l16.length cap16, .slice a17 l17.length cap17] 62))) := (Below.refl _ _).alloc (Nat.le_refl _) _
  have g1 : True := trivial
  have g2 : True := trivial
  have g3 : True := trivial
  have g4 : True := trivial
  go_enter Try.func23, Try.ntmps23
  go_wp2_with (first
    | (go_at_call 61; refine (configOk_any _ _ _ _ _).mono ?_; rintro e w1 ⟨rfl, hw⟩; obtain rfl := hw.symm; clear hw; rw [hpl])
    | (go_at_call 62; clear g1; refine (l1in_any 0 0 1073741824 _).mono ?_; rintro e w9 ⟨rfl, hw⟩; obtain rfl := hw.symm; clear hw; rw [k1])
    | (go_at_call 62; clear g2; refine (l1in_any 0 0 i1 _).mono ?_; rintro e w9 ⟨rfl, hw⟩; obtain rfl := hw.symm; clear hw; rw [k2])
    | (go_at_call 62; clear g3; refine (l1in_any i6 0 3 _).mono ?_; rintro e w9 ⟨rfl, hw⟩; obtain rfl := hw.symm; clear hw; rw [k3]))
  all_goals go_ret
  all_goals exact ⟨rfl, hb0.out⟩

set_option maxHeartbeats 4000000 in
set_option maxRecDepth 100000 in
theorem sNF_3bz (i0 i1 i2 i3 i6 i7 i8 i9 i10 i11 : Int) (a12 a13 a14 a15 a16 a17 : Option Addr) (cap12 cap13 cap14 cap15 cap16 cap17 : Nat) (l12 : List Ent) (l13 l14 l15 l16 l17 : List Int) (w : World) (hpl : placeB i0 i1 i2 i3 = true) (k1 : inB 0 0 1073741824 = true) (k2 : inB 0 0 i1 = true) (k3 : inB i6 0 3 = true) (k4 : inB i7 0 i1 = false) : Calls Try.prog 23 #[.agg #[.int .i64 i0, .int .i64 i1, .int .i64 i2, .int .i64 i3, .int .i64 0, .int .i64 0, .int .i64 i6, .int .i64 i7, .int .i64 i8, .int .i64 i9, .int .i64 i10, .int .i64 i11, .slice a12 l12.length cap12, .slice a13 l13.length cap13, .slice a14 l14.length cap14, .slice a15 l15.length cap15, .slice a16 l16.length cap16, .slice a17 l17.length cap17]] w fun e w' => e = .returned (.int .i64 3) ∧ Below w.heap.size w w' := by
  have hb0 : Hid (Below w.heap.size w (w.alloc (.cells #[.int .i64 i0, .int .i64 i1, .int .i64 i2, .int .i64 i3, .int .i64 0, .int .i64 0, .int .i64 i6, .int .i64 i7, .int .i64 i8, .int .i64 i9, .int .i64 i10, .int .i64 i11, .slice a12 l12.length cap12, .slice a13 l13.length cap13, .slice a14 l14.length cap14, .slice a15 l15.length cap15, .slice a16 l16.length cap16, .slice a17 l17.length cap17] 62))) := (Below.refl _ _).alloc (Nat.le_refl _) _
  have g1 : True := trivial
  have g2 : True := trivial
  have g3 : True := trivial
  have g4 : True := trivial
  go_enter Try.func23, Try.ntmps23
  go_wp2_with (first
    | (go_at_call 61; refine (configOk_any _ _ _ _ _).mono ?_; rintro e w1 ⟨rfl, hw⟩; obtain rfl := hw.symm; clear hw; rw [hpl])
    | (go_at_call 62; clear g1; refine (l1in_any 0 0 1073741824 _).mono ?_; rintro e w9 ⟨rfl, hw⟩; obtain rfl := hw.symm; clear hw; rw [k1])
    | (go_at_call 62; clear g2; refine (l1in_any 0 0 i1 _).mono ?_; rintro e w9 ⟨rfl, hw⟩; obtain rfl := hw.symm; clear hw; rw [k2])
    | (go_at_call 62; clear g3; refine (l1in_any i6 0 3 _).mono ?_; rintro e w9 ⟨rfl, hw⟩; obtain rfl := hw.symm; clear hw; rw [k3])
    | (go_at_call 62; clear g4; refine (l1in_any i7 0 i1 _).mono ?_; rintro e w9 ⟨rfl, hw⟩; obtain rfl := hw.symm; clear hw; rw [k4]))
  all_goals go_ret
  all_goals exact ⟨rfl, hb0.out⟩

set_option maxHeartbeats 4000000 in
set_option maxRecDepth 100000 in
theorem sNF_30z (i0 i1 i2 i3 i8 i9 i10 i11 : Int) (a12 a13 a14 a15 a16 a17 : Option Addr) (cap12 cap13 cap14 cap15 cap16 cap17 : Nat) (l12 : List Ent) (l13 l14 l15 l16 l17 : List Int) (w : World) (hpl : placeB i0 i1 i2 i3 = true) (k1 : inB 0 0 1073741824 = true) (k2 : inB 0 0 i1 = true) (k4 : inB i0 0 i1 = true) : Calls Try.prog 23 #[.agg #[.int .i64 i0, .int .i64 i1, .int .i64 i2, .int .i64 i3, .int .i64 0, .int .i64 0, .int .i64 0, .int .i64 i0, .int .i64 i8, .int .i64 i9, .int .i64 i10, .int .i64 i11, .slice a12 l12.length cap12, .slice a13 l13.length cap13, .slice a14 l14.length cap14, .slice a15 l15.length cap15, .slice a16 l16.length cap16, .slice a17 l17.length cap17]] w fun e w' => e = .returned (.int .i64 3) ∧ Below w.heap.size w w' := by
  have hb0 : Hid (Below w.heap.size w (w.alloc (.cells #[.int .i64 i0, .int .i64 i1, .int .i64 i2, .int .i64 i3, .int .i64 0, .int .i64 0, .int .i64 0, .int .i64 i0, .int .i64 i8, .int .i64 i9, .int .i64 i10, .int .i64 i11, .slice a12 l12.length cap12, .slice a13 l13.length cap13, .slice a14 l14.length cap14, .slice a15 l15.length cap15, .slice a16 l16.length cap16, .slice a17 l17.length cap17] 62))) := (Below.refl _ _).alloc (Nat.le_refl _) _
  have g1 : True := trivial
  have g2 : True := trivial
  have g3 : True := trivial
  have g4 : True := trivial
  go_enter Try.func23, Try.ntmps23
  go_wp2_with (first
    | (go_at_call 61; refine (configOk_any _ _ _ _ _).mono ?_; rintro e w1 ⟨rfl, hw⟩; obtain rfl := hw.symm; clear hw; rw [hpl])
    | (go_at_call 62; clear g1; refine (l1in_any 0 0 1073741824 _).mono ?_; rintro e w9 ⟨rfl, hw⟩; obtain rfl := hw.symm; clear hw; rw [k1])
    | (go_at_call 62; clear g2; refine (l1in_any 0 0 i1 _).mono ?_; rintro e w9 ⟨rfl, hw⟩; obtain rfl := hw.symm; clear hw; rw [k2])
    | (go_at_call 62; clear g3; refine (l1in_any 0 0 3 _).mono ?_; rintro e w9 ⟨rfl, hw⟩; obtain rfl := hw.symm; clear hw; rw [rb0])
    | (go_at_call 62; clear g4; refine (l1in_any i0 0 i1 _).mono ?_; rintro e w9 ⟨rfl, hw⟩; obtain rfl := hw.symm; clear hw; rw [k4]))
  all_goals go_ret
  all_goals exact ⟨rfl, hb0.out⟩

set_option maxHeartbeats 4000000 in
set_option maxRecDepth 100000 in
theorem sNF_31z (i0 i1 i2 i3 i7 i8 i9 i10 i11 : Int) (a12 a13 a14 a15 a16 a17 : Option Addr) (cap12 cap13 cap14 cap15 cap16 cap17 : Nat) (l12 : List Ent) (l13 l14 l15 l16 l17 : List Int) (w : World) (hpl : placeB i0 i1 i2 i3 = true) (k1 : inB 0 0 1073741824 = true) (k2 : inB 0 0 i1 = true) (k4 : inB i7 0 i1 = true) (nl : (i7 != 0) = true) (nl2 : (i7 == 0) = false) : Calls Try.prog 23 #[.agg #[.int .i64 i0, .int .i64 i1, .int .i64 i2, .int .i64 i3, .int .i64 0, .int .i64 0, .int .i64 1, .int .i64 i7, .int .i64 i8, .int .i64 i9, .int .i64 i10, .int .i64 i11, .slice a12 l12.length cap12, .slice a13 l13.length cap13, .slice a14 l14.length cap14, .slice a15 l15.length cap15, .slice a16 l16.length cap16, .slice a17 l17.length cap17]] w fun e w' => e = .returned (.int .i64 3) ∧ Below w.heap.size w w' := by
  have hb0 : Hid (Below w.heap.size w (w.alloc (.cells #[.int .i64 i0, .int .i64 i1, .int .i64 i2, .int .i64 i3, .int .i64 0, .int .i64 0, .int .i64 1, .int .i64 i7, .int .i64 i8, .int .i64 i9, .int .i64 i10, .int .i64 i11, .slice a12 l12.length cap12, .slice a13 l13.length cap13, .slice a14 l14.length cap14, .slice a15 l15.length cap15, .slice a16 l16.length cap16, .slice a17 l17.length cap17] 62))) := (Below.refl _ _).alloc (Nat.le_refl _) _
  have g1 : True := trivial
  have g2 : True := trivial
  have g3 : True := trivial
  have g4 : True := trivial
  go_enter Try.func23, Try.ntmps23
  go_wp2_with (first
    | (go_at_call 61; refine (configOk_any _ _ _ _ _).mono ?_; rintro e w1 ⟨rfl, hw⟩; obtain rfl := hw.symm; clear hw; rw [hpl])
    | (go_at_call 62; clear g1; refine (l1in_any 0 0 1073741824 _).mono ?_; rintro e w9 ⟨rfl, hw⟩; obtain rfl := hw.symm; clear hw; rw [k1])
    | (go_at_call 62; clear g2; refine (l1in_any 0 0 i1 _).mono ?_; rintro e w9 ⟨rfl, hw⟩; obtain rfl := hw.symm; clear hw; rw [k2])
    | (go_at_call 62; clear g3; refine (l1in_any 1 0 3 _).mono ?_; rintro e w9 ⟨rfl, hw⟩; obtain rfl := hw.symm; clear hw; rw [rb1])
    | (go_at_call 62; clear g4; refine (l1in_any i7 0 i1 _).mono ?_; rintro e w9 ⟨rfl, hw⟩; obtain rfl := hw.symm; clear hw; rw [k4]))
  all_goals go_ret
  all_goals exact ⟨rfl, hb0.out⟩

set_option maxHeartbeats 4000000 in
set_option maxRecDepth 100000 in
theorem sNF_32tz (i0 i1 i2 i3 i7 i8 i9 i10 i11 : Int) (a12 a13 a14 a15 a16 a17 : Option Addr) (cap12 cap13 cap14 cap15 cap16 cap17 : Nat) (l12 : List Ent) (l13 l14 l15 l16 l17 : List Int) (w : World) (hpl : placeB i0 i1 i2 i3 = true) (k1 : inB 0 0 1073741824 = true) (k2 : inB 0 0 i1 = true) (k4 : inB i7 0 i1 = true) : Calls Try.prog 23 #[.agg #[.int .i64 i0, .int .i64 i1, .int .i64 i2, .int .i64 i3, .int .i64 0, .int .i64 0, .int .i64 2, .int .i64 i7, .int .i64 i8, .int .i64 i9, .int .i64 i10, .int .i64 i11, .slice a12 l12.length cap12, .slice a13 l13.length cap13, .slice a14 l14.length cap14, .slice a15 l15.length cap15, .slice a16 l16.length cap16, .slice a17 l17.length cap17]] w fun e w' => e = .returned (.int .i64 3) ∧ Below w.heap.size w w' := by
  have hb0 : Hid (Below w.heap.size w (w.alloc (.cells #[.int .i64 i0, .int .i64 i1, .int .i64 i2, .int .i64 i3, .int .i64 0, .int .i64 0, .int .i64 2, .int .i64 i7, .int .i64 i8, .int .i64 i9, .int .i64 i10, .int .i64 i11, .slice a12 l12.length cap12, .slice a13 l13.length cap13, .slice a14 l14.length cap14, .slice a15 l15.length cap15, .slice a16 l16.length cap16, .slice a17 l17.length cap17] 62))) := (Below.refl _ _).alloc (Nat.le_refl _) _
  have g1 : True := trivial
  have g2 : True := trivial
  have g3 : True := trivial
  have g4 : True := trivial
  go_enter Try.func23, Try.ntmps23
  go_wp2_with (first
    | (go_at_call 61; refine (configOk_any _ _ _ _ _).mono ?_; rintro e w1 ⟨rfl, hw⟩; obtain rfl := hw.symm; clear hw; rw [hpl])
    | (go_at_call 62; clear g1; refine (l1in_any 0 0 1073741824 _).mono ?_; rintro e w9 ⟨rfl, hw⟩; obtain rfl := hw.symm; clear hw; rw [k1])
    | (go_at_call 62; clear g2; refine (l1in_any 0 0 i1 _).mono ?_; rintro e w9 ⟨rfl, hw⟩; obtain rfl := hw.symm; clear hw; rw [k2])
    | (go_at_call 62; clear g3; refine (l1in_any 2 0 3 _).mono ?_; rintro e w9 ⟨rfl, hw⟩; obtain rfl := hw.symm; clear hw; rw [rb2])
    | (go_at_call 62; clear g4; refine (l1in_any i7 0 i1 _).mono ?_; rintro e w9 ⟨rfl, hw⟩; obtain rfl := hw.symm; clear hw; rw [k4]))
  all_goals go_ret
  all_goals exact ⟨rfl, hb0.out⟩

set_option maxHeartbeats 4000000 in
set_option maxRecDepth 100000 in
theorem sNF_33tz (i0 i1 i2 i3 i7 i8 i9 i10 i11 : Int) (a12 a13 a14 a15 a16 a17 : Option Addr) (cap12 cap13 cap14 cap15 cap16 cap17 : Nat) (l12 : List Ent) (l13 l14 l15 l16 l17 : List Int) (w : World) (hpl : placeB i0 i1 i2 i3 = true) (k1 : inB 0 0 1073741824 = true) (k2 : inB 0 0 i1 = true) (k4 : inB i7 0 i1 = true) : Calls Try.prog 23 #[.agg #[.int .i64 i0, .int .i64 i1, .int .i64 i2, .int .i64 i3, .int .i64 0, .int .i64 0, .int .i64 3, .int .i64 i7, .int .i64 i8, .int .i64 i9, .int .i64 i10, .int .i64 i11, .slice a12 l12.length cap12, .slice a13 l13.length cap13, .slice a14 l14.length cap14, .slice a15 l15.length cap15, .slice a16 l16.length cap16, .slice a17 l17.length cap17]] w fun e w' => e = .returned (.int .i64 3) ∧ Below w.heap.size w w' := by
  have hb0 : Hid (Below w.heap.size w (w.alloc (.cells #[.int .i64 i0, .int .i64 i1, .int .i64 i2, .int .i64 i3, .int .i64 0, .int .i64 0, .int .i64 3, .int .i64 i7, .int .i64 i8, .int .i64 i9, .int .i64 i10, .int .i64 i11, .slice a12 l12.length cap12, .slice a13 l13.length cap13, .slice a14 l14.length cap14, .slice a15 l15.length cap15, .slice a16 l16.length cap16, .slice a17 l17.length cap17] 62))) := (Below.refl _ _).alloc (Nat.le_refl _) _
  have g1 : True := trivial
  have g2 : True := trivial
  have g3 : True := trivial
  have g4 : True := trivial
  go_enter Try.func23, Try.ntmps23
  go_wp2_with (first
    | (go_at_call 61; refine (configOk_any _ _ _ _ _).mono ?_; rintro e w1 ⟨rfl, hw⟩; obtain rfl := hw.symm; clear hw; rw [hpl])
    | (go_at_call 62; clear g1; refine (l1in_any 0 0 1073741824 _).mono ?_; rintro e w9 ⟨rfl, hw⟩; obtain rfl := hw.symm; clear hw; rw [k1])
    | (go_at_call 62; clear g2; refine (l1in_any 0 0 i1 _).mono ?_; rintro e w9 ⟨rfl, hw⟩; obtain rfl := hw.symm; clear hw; rw [k2])
    | (go_at_call 62; clear g3; refine (l1in_any 3 0 3 _).mono ?_; rintro e w9 ⟨rfl, hw⟩; obtain rfl := hw.symm; clear hw; rw [rb3])
    | (go_at_call 62; clear g4; refine (l1in_any i7 0 i1 _).mono ?_; rintro e w9 ⟨rfl, hw⟩; obtain rfl := hw.symm; clear hw; rw [k4]))
  all_goals go_ret
  all_goals exact ⟨rfl, hb0.out⟩

set_option maxHeartbeats 4000000 in
set_option maxRecDepth 100000 in
theorem sNF_3ap (i0 i1 i2 i3 i4 i5 i6 i7 i8 i9 i10 i11 : Int) (a12 a13 a14 a15 a16 a17 : Option Addr) (cap12 cap13 cap14 cap15 cap16 cap17 : Nat) (l12 : List Ent) (l13 l14 l15 l16 l17 : List Int) (w : World) (hpl : placeB i0 i1 i2 i3 = true) (k1 : inB i4 0 1073741824 = true) (k2 : inB i5 0 i1 = true) (nt : (i4 == 0) = false) (hp : 0 < i4) (k3 : inB i6 0 3 = false) : Calls Try.prog 23 #[.agg #[.int .i64 i0, .int .i64 i1, .int .i64 i2, .int .i64 i3, .int .i64 i4, .int .i64 i5, .int .i64 i6, .int .i64 i7, .int .i64 i8, .int .i64 i9, .int .i64 i10, .int .i64 i11, .slice a12 l12.length cap12, .slice a13 l13.length cap13, .slice a14 l14.length cap14, .slice a15 l15.length cap15, .slice a16 l16.length cap16, .slice a17 l17.length cap17]] w fun e w' => e = .returned (.int .i64 3) ∧ Below w.heap.size w w' := by
  have hb0 : Hid (Below w.heap.size w (w.alloc (.cells #[.int .i64 i0, .int .i64 i1, .int .i64 i2, .int .i64 i3, .int .i64 i4, .int .i64 i5, .int .i64 i6, .int .i64 i7, .int .i64 i8, .int .i64 i9, .int .i64 i10, .int .i64 i11, .slice a12 l12.length cap12, .slice a13 l13.length cap13, .slice a14 l14.length cap14, .slice a15 l15.length cap15, .slice a16 l16.length cap16, .slice a17 l17.length cap17] 62))) := (Below.refl _ _).alloc (Nat.le_refl _) _
  have g1 : True := trivial
  have g2 : True := trivial
  have g3 : True := trivial
  have g4 : True := trivial
  go_enter Try.func23, Try.ntmps23
  go_wp2_with (first
    | (go_at_call 61; refine (configOk_any _ _ _ _ _).mono ?_; rintro e w1 ⟨rfl, hw⟩; obtain rfl := hw.symm; clear hw; rw [hpl])
    | (go_at_call 62; clear g1; refine (l1in_any i4 0 1073741824 _).mono ?_; rintro e w9 ⟨rfl, hw⟩; obtain rfl := hw.symm; clear hw; rw [k1])
    | (go_at_call 62; clear g2; refine (l1in_any i5 0 i1 _).mono ?_; rintro e w9 ⟨rfl, hw⟩; obtain rfl := hw.symm; clear hw; rw [k2])
    | (go_at_call 62; clear g3; refine (l1in_any i6 0 3 _).mono ?_; rintro e w9 ⟨rfl, hw⟩; obtain rfl := hw.symm; clear hw; rw [k3]))
  all_goals go_ret
  all_goals exact ⟨rfl, hb0.out⟩

set_option maxHeartbeats 4000000 in
set_option maxRecDepth 100000 in
theorem sNF_3bp (i0 i1 i2 i3 i4 i5 i6 i7 i8 i9 i10 i11 : Int) (a12 a13 a14 a15 a16 a17 : Option Addr) (cap12 cap13 cap14 cap15 cap16 cap17 : Nat) (l12 : List Ent) (l13 l14 l15 l16 l17 : List Int) (w : World) (hpl : placeB i0 i1 i2 i3 = true) (k1 : inB i4 0 1073741824 = true) (k2 : inB i5 0 i1 = true) (nt : (i4 == 0) = false) (hp : 0 < i4) (k3 : inB i6 0 3 = true) (k4 : inB i7 0 i1 = false) : Calls Try.prog 23 #[.agg #[.int .i64 i0, .int .i64 i1, .int .i64 i2, .int .i64 i3, .int .i64 i4, .int .i64 i5, .int .i64 i6, .int .i64 i7, .int .i64 i8, .int .i64 i9, .int .i64 i10, .int .i64 i11, .slice a12 l12.length cap12, .slice a13 l13.length cap13, .slice a14 l14.length cap14, .slice a15 l15.length cap15, .slice a16 l16.length cap16, .slice a17 l17.length cap17]] w fun e w' => e = .returned (.int .i64 3) ∧ Below w.heap.size w w' := by
  have hb0 : Hid (Below w.heap.size w (w.alloc (.cells #[.int .i64 i0, .int .i64 i1, .int .i64 i2, .int .i64 i3, .int .i64 i4, .int .i64 i5, .int .i64 i6, .int .i64 i7, .int .i64 i8, .int .i64 i9, .int .i64 i10, .int .i64 i11, .slice a12 l12.length cap12, .slice a13 l13.length cap13, .slice a14 l14.length cap14, .slice a15 l15.length cap15, .slice a16 l16.length cap16, .slice a17 l17.length cap17] 62))) := (Below.refl _ _).alloc (Nat.le_refl _) _
  have g1 : True := trivial
  have g2 : True := trivial
  have g3 : True := trivial
  have g4 : True := trivial
  go_enter Try.func23, Try.ntmps23
  go_wp2_with (first
    | (go_at_call 61; refine (configOk_any _ _ _ _ _).mono ?_; rintro e w1 ⟨rfl, hw⟩; obtain rfl := hw.symm; clear hw; rw [hpl])
    | (go_at_call 62; clear g1; refine (l1in_any i4 0 1073741824 _).mono ?_; rintro e w9 ⟨rfl, hw⟩; obtain rfl := hw.symm; clear hw; rw [k1])
    | (go_at_call 62; clear g2; refine (l1in_any i5 0 i1 _).mono ?_; rintro e w9 ⟨rfl, hw⟩; obtain rfl := hw.symm; clear hw; rw [k2])
    | (go_at_call 62; clear g3; refine (l1in_any i6 0 3 _).mono ?_; rintro e w9 ⟨rfl, hw⟩; obtain rfl := hw.symm; clear hw; rw [k3])
    | (go_at_call 62; clear g4; refine (l1in_any i7 0 i1 _).mono ?_; rintro e w9 ⟨rfl, hw⟩; obtain rfl := hw.symm; clear hw; rw [k4]))
  all_goals go_ret
  all_goals exact ⟨rfl, hb0.out⟩

set_option maxHeartbeats 4000000 in
set_option maxRecDepth 100000 in
theorem sNF_30p (i0 i1 i2 i3 i4 i5 i8 i9 i10 i11 : Int) (a12 a13 a14 a15 a16 a17 : Option Addr) (cap12 cap13 cap14 cap15 cap16 cap17 : Nat) (l12 : List Ent) (l13 l14 l15 l16 l17 : List Int) (w : World) (hpl : placeB i0 i1 i2 i3 = true) (k1 : inB i4 0 1073741824 = true) (k2 : inB i5 0 i1 = true) (nt : (i4 == 0) = false) (hp : 0 < i4) (k4 : inB i0 0 i1 = true) : Calls Try.prog 23 #[.agg #[.int .i64 i0, .int .i64 i1, .int .i64 i2, .int .i64 i3, .int .i64 i4, .int .i64 i5, .int .i64 0, .int .i64 i0, .int .i64 i8, .int .i64 i9, .int .i64 i10, .int .i64 i11, .slice a12 l12.length cap12, .slice a13 l13.length cap13, .slice a14 l14.length cap14, .slice a15 l15.length cap15, .slice a16 l16.length cap16, .slice a17 l17.length cap17]] w fun e w' => e = .returned (.int .i64 3) ∧ Below w.heap.size w w' := by
  have hb0 : Hid (Below w.heap.size w (w.alloc (.cells #[.int .i64 i0, .int .i64 i1, .int .i64 i2, .int .i64 i3, .int .i64 i4, .int .i64 i5, .int .i64 0, .int .i64 i0, .int .i64 i8, .int .i64 i9, .int .i64 i10, .int .i64 i11, .slice a12 l12.length cap12, .slice a13 l13.length cap13, .slice a14 l14.length cap14, .slice a15 l15.length cap15, .slice a16 l16.length cap16, .slice a17 l17.length cap17] 62))) := (Below.refl _ _).alloc (Nat.le_refl _) _
  have g1 : True := trivial
  have g2 : True := trivial
  have g3 : True := trivial
  have g4 : True := trivial
  go_enter Try.func23, Try.ntmps23
  go_wp2_with (first
    | (go_at_call 61; refine (configOk_any _ _ _ _ _).mono ?_; rintro e w1 ⟨rfl, hw⟩; obtain rfl := hw.symm; clear hw; rw [hpl])
    | (go_at_call 62; clear g1; refine (l1in_any i4 0 1073741824 _).mono ?_; rintro e w9 ⟨rfl, hw⟩; obtain rfl := hw.symm; clear hw; rw [k1])
    | (go_at_call 62; clear g2; refine (l1in_any i5 0 i1 _).mono ?_; rintro e w9 ⟨rfl, hw⟩; obtain rfl := hw.symm; clear hw; rw [k2])
    | (go_at_call 62; clear g3; refine (l1in_any 0 0 3 _).mono ?_; rintro e w9 ⟨rfl, hw⟩; obtain rfl := hw.symm; clear hw; rw [rb0])
    | (go_at_call 62; clear g4; refine (l1in_any i0 0 i1 _).mono ?_; rintro e w9 ⟨rfl, hw⟩; obtain rfl := hw.symm; clear hw; rw [k4]))
  all_goals go_ret
  all_goals exact ⟨rfl, hb0.out⟩

set_option maxHeartbeats 4000000 in
set_option maxRecDepth 100000 in
theorem sNF_31p (i0 i1 i2 i3 i4 i5 i7 i8 i9 i10 i11 : Int) (a12 a13 a14 a15 a16 a17 : Option Addr) (cap12 cap13 cap14 cap15 cap16 cap17 : Nat) (l12 : List Ent) (l13 l14 l15 l16 l17 : List Int) (w : World) (hpl : placeB i0 i1 i2 i3 = true) (k1 : inB i4 0 1073741824 = true) (k2 : inB i5 0 i1 = true) (nt : (i4 == 0) = false) (hp : 0 < i4) (k4 : inB i7 0 i1 = true) (nl : (i7 != 0) = true) (nl2 : (i7 == 0) = false) : Calls Try.prog 23 #[.agg #[.int .i64 i0, .int .i64 i1, .int .i64 i2, .int .i64 i3, .int .i64 i4, .int .i64 i5, .int .i64 1, .int .i64 i7, .int .i64 i8, .int .i64 i9, .int .i64 i10, .int .i64 i11, .slice a12 l12.length cap12, .slice a13 l13.length cap13, .slice a14 l14.length cap14, .slice a15 l15.length cap15, .slice a16 l16.length cap16, .slice a17 l17.length cap17]] w fun e w' => e = .returned (.int .i64 3) ∧ Below w.heap.size w w' := by
  have hb0 : Hid (Below w.heap.size w (w.alloc (.cells #[.int .i64 i0, .int .i64 i1, .int .i64 i2, .int .i64 i3, .int .i64 i4, .int .i64 i5, .int .i64 1, .int .i64 i7, .int .i64 i8, .int .i64 i9, .int .i64 i10, .int .i64 i11, .slice a12 l12.length cap12, .slice a13 l13.length cap13, .slice a14 l14.length cap14, .slice a15 l15.length cap15, .slice a16 l16.length cap16, .slice a17 l17.length cap17] 62))) := (Below.refl _ _).alloc (Nat.le_refl _) _
  have g1 : True := trivial
  have g2 : True := trivial
  have g3 : True := trivial
  have g4 : True := trivial
  go_enter Try.func23, Try.ntmps23
  go_wp2_with (first
    | (go_at_call 61; refine (configOk_any _ _ _ _ _).mono ?_; rintro e w1 ⟨rfl, hw⟩; obtain rfl := hw.symm; clear hw; rw [hpl])
    | (go_at_call 62; clear g1; refine (l1in_any i4 0 1073741824 _).mono ?_; rintro e w9 ⟨rfl, hw⟩; obtain rfl := hw.symm; clear hw; rw [k1])
    | (go_at_call 62; clear g2; refine (l1in_any i5 0 i1 _).mono ?_; rintro e w9 ⟨rfl, hw⟩; obtain rfl := hw.symm; clear hw; rw [k2])
    | (go_at_call 62; clear g3; refine (l1in_any 1 0 3 _).mono ?_; rintro e w9 ⟨rfl, hw⟩; obtain rfl := hw.symm; clear hw; rw [rb1])
    | (go_at_call 62; clear g4; refine (l1in_any i7 0 i1 _).mono ?_; rintro e w9 ⟨rfl, hw⟩; obtain rfl := hw.symm; clear hw; rw [k4]))
  all_goals go_ret
  all_goals exact ⟨rfl, hb0.out⟩

set_option maxHeartbeats 4000000 in
set_option maxRecDepth 100000 in
theorem sNF_32vp (i0 i1 i2 i3 i4 i5 i7 i8 i9 i10 i11 : Int) (a12 a13 a14 a15 a16 a17 : Option Addr) (cap12 cap13 cap14 cap15 cap16 cap17 : Nat) (l12 : List Ent) (l13 l14 l15 l16 l17 : List Int) (w : World) (hpl : placeB i0 i1 i2 i3 = true) (k1 : inB i4 0 1073741824 = true) (k2 : inB i5 0 i1 = true) (nt : (i4 == 0) = false) (hp : 0 < i4) (k4 : inB i7 0 i1 = true) (nv : (i5 != i0) = true) : Calls Try.prog 23 #[.agg #[.int .i64 i0, .int .i64 i1, .int .i64 i2, .int .i64 i3, .int .i64 i4, .int .i64 i5, .int .i64 2, .int .i64 i7, .int .i64 i8, .int .i64 i9, .int .i64 i10, .int .i64 i11, .slice a12 l12.length cap12, .slice a13 l13.length cap13, .slice a14 l14.length cap14, .slice a15 l15.length cap15, .slice a16 l16.length cap16, .slice a17 l17.length cap17]] w fun e w' => e = .returned (.int .i64 3) ∧ Below w.heap.size w w' := by
  have hb0 : Hid (Below w.heap.size w (w.alloc (.cells #[.int .i64 i0, .int .i64 i1, .int .i64 i2, .int .i64 i3, .int .i64 i4, .int .i64 i5, .int .i64 2, .int .i64 i7, .int .i64 i8, .int .i64 i9, .int .i64 i10, .int .i64 i11, .slice a12 l12.length cap12, .slice a13 l13.length cap13, .slice a14 l14.length cap14, .slice a15 l15.length cap15, .slice a16 l16.length cap16, .slice a17 l17.length cap17] 62))) := (Below.refl _ _).alloc (Nat.le_refl _) _
  have g1 : True := trivial
  have g2 : True := trivial
  have g3 : True := trivial
  have g4 : True := trivial
  go_enter Try.func23, Try.ntmps23
  go_wp2_with (first
    | (go_at_call 61; refine (configOk_any _ _ _ _ _).mono ?_; rintro e w1 ⟨rfl, hw⟩; obtain rfl := hw.symm; clear hw; rw [hpl])
    | (go_at_call 62; clear g1; refine (l1in_any i4 0 1073741824 _).mono ?_; rintro e w9 ⟨rfl, hw⟩; obtain rfl := hw.symm; clear hw; rw [k1])
    | (go_at_call 62; clear g2; refine (l1in_any i5 0 i1 _).mono ?_; rintro e w9 ⟨rfl, hw⟩; obtain rfl := hw.symm; clear hw; rw [k2])
    | (go_at_call 62; clear g3; refine (l1in_any 2 0 3 _).mono ?_; rintro e w9 ⟨rfl, hw⟩; obtain rfl := hw.symm; clear hw; rw [rb2])
    | (go_at_call 62; clear g4; refine (l1in_any i7 0 i1 _).mono ?_; rintro e w9 ⟨rfl, hw⟩; obtain rfl := hw.symm; clear hw; rw [k4]))
  all_goals go_ret
  all_goals exact ⟨rfl, hb0.out⟩

set_option maxHeartbeats 4000000 in
set_option maxRecDepth 100000 in
theorem sNF_32lp (i0 i1 i2 i3 i4 i7 i8 i9 i10 i11 : Int) (a12 a13 a14 a15 a16 a17 : Option Addr) (cap12 cap13 cap14 cap15 cap16 cap17 : Nat) (l12 : List Ent) (l13 l14 l15 l16 l17 : List Int) (w : World) (hpl : placeB i0 i1 i2 i3 = true) (k1 : inB i4 0 1073741824 = true) (k2 : inB i0 0 i1 = true) (nt : (i4 == 0) = false) (hp : 0 < i4) (k4 : inB i7 0 i1 = true) (nl : (i7 != 0) = true) (nl2 : (i7 == 0) = false) : Calls Try.prog 23 #[.agg #[.int .i64 i0, .int .i64 i1, .int .i64 i2, .int .i64 i3, .int .i64 i4, .int .i64 i0, .int .i64 2, .int .i64 i7, .int .i64 i8, .int .i64 i9, .int .i64 i10, .int .i64 i11, .slice a12 l12.length cap12, .slice a13 l13.length cap13, .slice a14 l14.length cap14, .slice a15 l15.length cap15, .slice a16 l16.length cap16, .slice a17 l17.length cap17]] w fun e w' => e = .returned (.int .i64 3) ∧ Below w.heap.size w w' := by
  have hb0 : Hid (Below w.heap.size w (w.alloc (.cells #[.int .i64 i0, .int .i64 i1, .int .i64 i2, .int .i64 i3, .int .i64 i4, .int .i64 i0, .int .i64 2, .int .i64 i7, .int .i64 i8, .int .i64 i9, .int .i64 i10, .int .i64 i11, .slice a12 l12.length cap12, .slice a13 l13.length cap13, .slice a14 l14.length cap14, .slice a15 l15.length cap15, .slice a16 l16.length cap16, .slice a17 l17.length cap17] 62))) := (Below.refl _ _).alloc (Nat.le_refl _) _
  have g1 : True := trivial
  have g2 : True := trivial
  have g3 : True := trivial
  have g4 : True := trivial
  go_enter Try.func23, Try.ntmps23
  go_wp2_with (first
    | (go_at_call 61; refine (configOk_any _ _ _ _ _).mono ?_; rintro e w1 ⟨rfl, hw⟩; obtain rfl := hw.symm; clear hw; rw [hpl])
    | (go_at_call 62; clear g1; refine (l1in_any i4 0 1073741824 _).mono ?_; rintro e w9 ⟨rfl, hw⟩; obtain rfl := hw.symm; clear hw; rw [k1])
    | (go_at_call 62; clear g2; refine (l1in_any i0 0 i1 _).mono ?_; rintro e w9 ⟨rfl, hw⟩; obtain rfl := hw.symm; clear hw; rw [k2])
    | (go_at_call 62; clear g3; refine (l1in_any 2 0 3 _).mono ?_; rintro e w9 ⟨rfl, hw⟩; obtain rfl := hw.symm; clear hw; rw [rb2])
    | (go_at_call 62; clear g4; refine (l1in_any i7 0 i1 _).mono ?_; rintro e w9 ⟨rfl, hw⟩; obtain rfl := hw.symm; clear hw; rw [k4]))
  all_goals go_ret
  all_goals exact ⟨rfl, hb0.out⟩

set_option maxHeartbeats 4000000 in
set_option maxRecDepth 100000 in
theorem sNF_33vp (i0 i1 i2 i3 i4 i5 i7 i8 i9 i10 i11 : Int) (a12 a13 a14 a15 a16 a17 : Option Addr) (cap12 cap13 cap14 cap15 cap16 cap17 : Nat) (l12 : List Ent) (l13 l14 l15 l16 l17 : List Int) (w : World) (hpl : placeB i0 i1 i2 i3 = true) (k1 : inB i4 0 1073741824 = true) (k2 : inB i5 0 i1 = true) (nt : (i4 == 0) = false) (hp : 0 < i4) (k4 : inB i7 0 i1 = true) (nv : (i5 != i0) = true) : Calls Try.prog 23 #[.agg #[.int .i64 i0, .int .i64 i1, .int .i64 i2, .int .i64 i3, .int .i64 i4, .int .i64 i5, .int .i64 3, .int .i64 i7, .int .i64 i8, .int .i64 i9, .int .i64 i10, .int .i64 i11, .slice a12 l12.length cap12, .slice a13 l13.length cap13, .slice a14 l14.length cap14, .slice a15 l15.length cap15, .slice a16 l16.length cap16, .slice a17 l17.length cap17]] w fun e w' => e = .returned (.int .i64 3) ∧ Below w.heap.size w w' := by
  have hb0 : Hid (Below w.heap.size w (w.alloc (.cells #[.int .i64 i0, .int .i64 i1, .int .i64 i2, .int .i64 i3, .int .i64 i4, .int .i64 i5, .int .i64 3, .int .i64 i7, .int .i64 i8, .int .i64 i9, .int .i64 i10, .int .i64 i11, .slice a12 l12.length cap12, .slice a13 l13.length cap13, .slice a14 l14.length cap14, .slice a15 l15.length cap15, .slice a16 l16.length cap16, .slice a17 l17.length cap17] 62))) := (Below.refl _ _).alloc (Nat.le_refl _) _
  have g1 : True := trivial
  have g2 : True := trivial
  have g3 : True := trivial
  have g4 : True := trivial
  go_enter Try.func23, Try.ntmps23
  go_wp2_with (first
    | (go_at_call 61; refine (configOk_any _ _ _ _ _).mono ?_; rintro e w1 ⟨rfl, hw⟩; obtain rfl := hw.symm; clear hw; rw [hpl])
    | (go_at_call 62; clear g1; refine (l1in_any i4 0 1073741824 _).mono ?_; rintro e w9 ⟨rfl, hw⟩; obtain rfl := hw.symm; clear hw; rw [k1])
    | (go_at_call 62; clear g2; refine (l1in_any i5 0 i1 _).mono ?_; rintro e w9 ⟨rfl, hw⟩; obtain rfl := hw.symm; clear hw; rw [k2])
    | (go_at_call 62; clear g3; refine (l1in_any 3 0 3 _).mono ?_; rintro e w9 ⟨rfl, hw⟩; obtain rfl := hw.symm; clear hw; rw [rb3])
    | (go_at_call 62; clear g4; refine (l1in_any i7 0 i1 _).mono ?_; rintro e w9 ⟨rfl, hw⟩; obtain rfl := hw.symm; clear hw; rw [k4]))
  all_goals go_ret
  all_goals exact ⟨rfl, hb0.out⟩

set_option maxHeartbeats 4000000 in
set_option maxRecDepth 100000 in
theorem sNF_33lp (i0 i1 i2 i3 i4 i7 i8 i9 i10 i11 : Int) (a12 a13 a14 a15 a16 a17 : Option Addr) (cap12 cap13 cap14 cap15 cap16 cap17 : Nat) (l12 : List Ent) (l13 l14 l15 l16 l17 : List Int) (w : World) (hpl : placeB i0 i1 i2 i3 = true) (k1 : inB i4 0 1073741824 = true) (k2 : inB i0 0 i1 = true) (nt : (i4 == 0) = false) (hp : 0 < i4) (k4 : inB i7 0 i1 = true) (nl : (i7 == i0) = false) : Calls Try.prog 23 #[.agg #[.int .i64 i0, .int .i64 i1, .int .i64 i2, .int .i64 i3, .int .i64 i4, .int .i64 i0, .int .i64 3, .int .i64 i7, .int .i64 i8, .int .i64 i9, .int .i64 i10, .int .i64 i11, .slice a12 l12.length cap12, .slice a13 l13.length cap13, .slice a14 l14.length cap14, .slice a15 l15.length cap15, .slice a16 l16.length cap16, .slice a17 l17.length cap17]] w fun e w' => e = .returned (.int .i64 3) ∧ Below w.heap.size w w' := by
  have hb0 : Hid (Below w.heap.size w (w.alloc (.cells #[.int .i64 i0, .int .i64 i1, .int .i64 i2, .int .i64 i3, .int .i64 i4, .int .i64 i0, .int .i64 3, .int .i64 i7, .int .i64 i8, .int .i64 i9, .int .i64 i10, .int .i64 i11, .slice a12 l12.length cap12, .slice a13 l13.length cap13, .slice a14 l14.length cap14, .slice a15 l15.length cap15, .slice a16 l16.length cap16, .slice a17 l17.length cap17] 62))) := (Below.refl _ _).alloc (Nat.le_refl _) _
  have g1 : True := trivial
  have g2 : True := trivial
  have g3 : True := trivial
  have g4 : True := trivial
  go_enter Try.func23, Try.ntmps23
  go_wp2_with (first
    | (go_at_call 61; refine (configOk_any _ _ _ _ _).mono ?_; rintro e w1 ⟨rfl, hw⟩; obtain rfl := hw.symm; clear hw; rw [hpl])
    | (go_at_call 62; clear g1; refine (l1in_any i4 0 1073741824 _).mono ?_; rintro e w9 ⟨rfl, hw⟩; obtain rfl := hw.symm; clear hw; rw [k1])
    | (go_at_call 62; clear g2; refine (l1in_any i0 0 i1 _).mono ?_; rintro e w9 ⟨rfl, hw⟩; obtain rfl := hw.symm; clear hw; rw [k2])
    | (go_at_call 62; clear g3; refine (l1in_any 3 0 3 _).mono ?_; rintro e w9 ⟨rfl, hw⟩; obtain rfl := hw.symm; clear hw; rw [rb3])
    | (go_at_call 62; clear g4; refine (l1in_any i7 0 i1 _).mono ?_; rintro e w9 ⟨rfl, hw⟩; obtain rfl := hw.symm; clear hw; rw [k4]))
  all_goals go_ret
  all_goals exact ⟨rfl, hb0.out⟩

end Go.Proofs.Ytjhkfjmgdkcipad
