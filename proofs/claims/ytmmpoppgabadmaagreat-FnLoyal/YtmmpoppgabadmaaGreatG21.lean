import Derived.Test.YtmmpoppgabadmaaGreatG19
set_option linter.unusedVariables false
set_option linter.unusedSimpArgs false
set_option maxRecDepth 100000
set_option maxHeartbeats 16000000
namespace Go.Proofs.YtmmpoppgabadmaaGreat
open Go.RowKit
theorem sNF_1 (i0 i1 i2 i3 i4 i5 i6 i7 i8 i9 i10 i11:Int)(a12 a13 a14 a15 a16 a17:Option Addr)(cap12 cap13 cap14 cap15 cap16 cap17:Nat)(l12:List Ent)(l13 l14 l15 l16 l17:List Int)(w:World)(hpl:Y3 i0 i1 i2 i3=false):Calls Tryz.prog 22 #[.agg #[.int .i64 i0,.int .i64 i1,.int .i64 i2,.int .i64 i3,.int .i64 i4,.int .i64 i5,.int .i64 i6,.int .i64 i7,.int .i64 i8,.int .i64 i9,.int .i64 i10,.int .i64 i11,.slice a12 l12.length cap12,.slice a13 l13.length cap13,.slice a14 l14.length cap14,.slice a15 l15.length cap15,.slice a16 l16.length cap16,.slice a17 l17.length cap17]] w fun e w'=>e=.returned (.int .i64 1)/\Below w.heap.size w w':=by
 have hb0:Hid (Below w.heap.size w (w.alloc (.cells #[.int .i64 i0,.int .i64 i1,.int .i64 i2,.int .i64 i3,.int .i64 i4,.int .i64 i5,.int .i64 i6,.int .i64 i7,.int .i64 i8,.int .i64 i9,.int .i64 i10,.int .i64 i11,.slice a12 l12.length cap12,.slice a13 l13.length cap13,.slice a14 l14.length cap14,.slice a15 l15.length cap15,.slice a16 l16.length cap16,.slice a17 l17.length cap17] 36))):=(Below.refl _ _).alloc (Nat.le_refl _) _;have g1:True:=trivial;have g2:True:=trivial;have g3:True:=trivial;have g4:True:=trivial;go_enter Tryz.func22,Tryz.ntmps22
 go_wp2_with (first
  |(go_at_call 58;refine sw (Zu _ _ _ _ _) ?_;rw [hpl]))
 all_goals go_ret
 all_goals exact ⟨rfl,hb0.out⟩
theorem sNF_2a (i0 i1 i2 i3 i4 i5 i6 i7 i8 i9 i10 i11:Int)(a12 a13 a14 a15 a16 a17:Option Addr)(cap12 cap13 cap14 cap15 cap16 cap17:Nat)(l12:List Ent)(l13 l14 l15 l16 l17:List Int)(w:World)(hpl:Y3 i0 i1 i2 i3=true)(k1:inB i4 0 1073741824=false):Calls Tryz.prog 22 #[.agg #[.int .i64 i0,.int .i64 i1,.int .i64 i2,.int .i64 i3,.int .i64 i4,.int .i64 i5,.int .i64 i6,.int .i64 i7,.int .i64 i8,.int .i64 i9,.int .i64 i10,.int .i64 i11,.slice a12 l12.length cap12,.slice a13 l13.length cap13,.slice a14 l14.length cap14,.slice a15 l15.length cap15,.slice a16 l16.length cap16,.slice a17 l17.length cap17]] w fun e w'=>e=.returned (.int .i64 2)/\Below w.heap.size w w':=by
 have hb0:Hid (Below w.heap.size w (w.alloc (.cells #[.int .i64 i0,.int .i64 i1,.int .i64 i2,.int .i64 i3,.int .i64 i4,.int .i64 i5,.int .i64 i6,.int .i64 i7,.int .i64 i8,.int .i64 i9,.int .i64 i10,.int .i64 i11,.slice a12 l12.length cap12,.slice a13 l13.length cap13,.slice a14 l14.length cap14,.slice a15 l15.length cap15,.slice a16 l16.length cap16,.slice a17 l17.length cap17] 36))):=(Below.refl _ _).alloc (Nat.le_refl _) _;have g1:True:=trivial;have g2:True:=trivial;have g3:True:=trivial;have g4:True:=trivial;go_enter Tryz.func22,Tryz.ntmps22
 go_wp2_with (first
  |(go_at_call 58;refine sw (Zu _ _ _ _ _) ?_;rw [hpl])
  |(go_at_call 56;clear g1;refine sw (Za i4 0 1073741824 _) ?_;rw [k1]))
 all_goals go_ret
 all_goals exact ⟨rfl,hb0.out⟩
theorem sNF_2b (i0 i1 i2 i3 i4 i5 i6 i7 i8 i9 i10 i11:Int)(a12 a13 a14 a15 a16 a17:Option Addr)(cap12 cap13 cap14 cap15 cap16 cap17:Nat)(l12:List Ent)(l13 l14 l15 l16 l17:List Int)(w:World)(hpl:Y3 i0 i1 i2 i3=true)(k1:inB i4 0 1073741824=true)(k2:inB i5 0 i1=false):Calls Tryz.prog 22 #[.agg #[.int .i64 i0,.int .i64 i1,.int .i64 i2,.int .i64 i3,.int .i64 i4,.int .i64 i5,.int .i64 i6,.int .i64 i7,.int .i64 i8,.int .i64 i9,.int .i64 i10,.int .i64 i11,.slice a12 l12.length cap12,.slice a13 l13.length cap13,.slice a14 l14.length cap14,.slice a15 l15.length cap15,.slice a16 l16.length cap16,.slice a17 l17.length cap17]] w fun e w'=>e=.returned (.int .i64 2)/\Below w.heap.size w w':=by
 have hb0:Hid (Below w.heap.size w (w.alloc (.cells #[.int .i64 i0,.int .i64 i1,.int .i64 i2,.int .i64 i3,.int .i64 i4,.int .i64 i5,.int .i64 i6,.int .i64 i7,.int .i64 i8,.int .i64 i9,.int .i64 i10,.int .i64 i11,.slice a12 l12.length cap12,.slice a13 l13.length cap13,.slice a14 l14.length cap14,.slice a15 l15.length cap15,.slice a16 l16.length cap16,.slice a17 l17.length cap17] 36))):=(Below.refl _ _).alloc (Nat.le_refl _) _;have g1:True:=trivial;have g2:True:=trivial;have g3:True:=trivial;have g4:True:=trivial;go_enter Tryz.func22,Tryz.ntmps22
 go_wp2_with (first
  |(go_at_call 58;refine sw (Zu _ _ _ _ _) ?_;rw [hpl])
  |(go_at_call 56;clear g1;refine sw (Za i4 0 1073741824 _) ?_;rw [k1])
  |(go_at_call 56;clear g2;refine sw (Za i5 0 i1 _) ?_;rw [k2]))
 all_goals go_ret
 all_goals exact ⟨rfl,hb0.out⟩
theorem sNF_2c (i0 i1 i2 i3 i5 i6 i7 i8 i9 i10 i11:Int)(a12 a13 a14 a15 a16 a17:Option Addr)(cap12 cap13 cap14 cap15 cap16 cap17:Nat)(l12:List Ent)(l13 l14 l15 l16 l17:List Int)(w:World)(hpl:Y3 i0 i1 i2 i3=true)(k1:inB 0 0 1073741824=true)(k2:inB i5 0 i1=true)(nv:(i5 != 0)=true):Calls Tryz.prog 22 #[.agg #[.int .i64 i0,.int .i64 i1,.int .i64 i2,.int .i64 i3,.int .i64 0,.int .i64 i5,.int .i64 i6,.int .i64 i7,.int .i64 i8,.int .i64 i9,.int .i64 i10,.int .i64 i11,.slice a12 l12.length cap12,.slice a13 l13.length cap13,.slice a14 l14.length cap14,.slice a15 l15.length cap15,.slice a16 l16.length cap16,.slice a17 l17.length cap17]] w fun e w'=>e=.returned (.int .i64 2)/\Below w.heap.size w w':=by
 have hb0:Hid (Below w.heap.size w (w.alloc (.cells #[.int .i64 i0,.int .i64 i1,.int .i64 i2,.int .i64 i3,.int .i64 0,.int .i64 i5,.int .i64 i6,.int .i64 i7,.int .i64 i8,.int .i64 i9,.int .i64 i10,.int .i64 i11,.slice a12 l12.length cap12,.slice a13 l13.length cap13,.slice a14 l14.length cap14,.slice a15 l15.length cap15,.slice a16 l16.length cap16,.slice a17 l17.length cap17] 36))):=(Below.refl _ _).alloc (Nat.le_refl _) _;have g1:True:=trivial;have g2:True:=trivial;have g3:True:=trivial;have g4:True:=trivial;go_enter Tryz.func22,Tryz.ntmps22
 go_wp2_with (first
  |(go_at_call 58;refine sw (Zu _ _ _ _ _) ?_;rw [hpl])
  |(go_at_call 56;clear g1;refine sw (Za 0 0 1073741824 _) ?_;rw [k1])
  |(go_at_call 56;clear g2;refine sw (Za i5 0 i1 _) ?_;rw [k2]))
 all_goals go_ret
 all_goals exact ⟨rfl,hb0.out⟩
theorem sNF_3az (i0 i1 i2 i3 i6 i7 i8 i9 i10 i11:Int)(a12 a13 a14 a15 a16 a17:Option Addr)(cap12 cap13 cap14 cap15 cap16 cap17:Nat)(l12:List Ent)(l13 l14 l15 l16 l17:List Int)(w:World)(hpl:Y3 i0 i1 i2 i3=true)(k1:inB 0 0 1073741824=true)(k2:inB 0 0 i1=true)(k3:inB i6 0 3=false):Calls Tryz.prog 22 #[.agg #[.int .i64 i0,.int .i64 i1,.int .i64 i2,.int .i64 i3,.int .i64 0,.int .i64 0,.int .i64 i6,.int .i64 i7,.int .i64 i8,.int .i64 i9,.int .i64 i10,.int .i64 i11,.slice a12 l12.length cap12,.slice a13 l13.length cap13,.slice a14 l14.length cap14,.slice a15 l15.length cap15,.slice a16 l16.length cap16,.slice a17 l17.length cap17]] w fun e w'=>e=.returned (.int .i64 3)/\Below w.heap.size w w':=by
 have hb0:Hid (Below w.heap.size w (w.alloc (.cells #[.int .i64 i0,.int .i64 i1,.int .i64 i2,.int .i64 i3,.int .i64 0,.int .i64 0,.int .i64 i6,.int .i64 i7,.int .i64 i8,.int .i64 i9,.int .i64 i10,.int .i64 i11,.slice a12 l12.length cap12,.slice a13 l13.length cap13,.slice a14 l14.length cap14,.slice a15 l15.length cap15,.slice a16 l16.length cap16,.slice a17 l17.length cap17] 36))):=(Below.refl _ _).alloc (Nat.le_refl _) _;have g1:True:=trivial;have g2:True:=trivial;have g3:True:=trivial;have g4:True:=trivial;go_enter Tryz.func22,Tryz.ntmps22
 go_wp2_with (first
  |(go_at_call 58;refine sw (Zu _ _ _ _ _) ?_;rw [hpl])
  |(go_at_call 56;clear g1;refine sw (Za 0 0 1073741824 _) ?_;rw [k1])
  |(go_at_call 56;clear g2;refine sw (Za 0 0 i1 _) ?_;rw [k2])
  |(go_at_call 56;clear g3;refine sw (Za i6 0 3 _) ?_;rw [k3]))
 all_goals go_ret
 all_goals exact ⟨rfl,hb0.out⟩
theorem sNF_3bz (i0 i1 i2 i3 i6 i7 i8 i9 i10 i11:Int)(a12 a13 a14 a15 a16 a17:Option Addr)(cap12 cap13 cap14 cap15 cap16 cap17:Nat)(l12:List Ent)(l13 l14 l15 l16 l17:List Int)(w:World)(hpl:Y3 i0 i1 i2 i3=true)(k1:inB 0 0 1073741824=true)(k2:inB 0 0 i1=true)(k3:inB i6 0 3=true)(k4:inB i7 0 i1=false):Calls Tryz.prog 22 #[.agg #[.int .i64 i0,.int .i64 i1,.int .i64 i2,.int .i64 i3,.int .i64 0,.int .i64 0,.int .i64 i6,.int .i64 i7,.int .i64 i8,.int .i64 i9,.int .i64 i10,.int .i64 i11,.slice a12 l12.length cap12,.slice a13 l13.length cap13,.slice a14 l14.length cap14,.slice a15 l15.length cap15,.slice a16 l16.length cap16,.slice a17 l17.length cap17]] w fun e w'=>e=.returned (.int .i64 3)/\Below w.heap.size w w':=by
 have hb0:Hid (Below w.heap.size w (w.alloc (.cells #[.int .i64 i0,.int .i64 i1,.int .i64 i2,.int .i64 i3,.int .i64 0,.int .i64 0,.int .i64 i6,.int .i64 i7,.int .i64 i8,.int .i64 i9,.int .i64 i10,.int .i64 i11,.slice a12 l12.length cap12,.slice a13 l13.length cap13,.slice a14 l14.length cap14,.slice a15 l15.length cap15,.slice a16 l16.length cap16,.slice a17 l17.length cap17] 36))):=(Below.refl _ _).alloc (Nat.le_refl _) _;have g1:True:=trivial;have g2:True:=trivial;have g3:True:=trivial;have g4:True:=trivial;go_enter Tryz.func22,Tryz.ntmps22
 go_wp2_with (first
  |(go_at_call 58;refine sw (Zu _ _ _ _ _) ?_;rw [hpl])
  |(go_at_call 56;clear g1;refine sw (Za 0 0 1073741824 _) ?_;rw [k1])
  |(go_at_call 56;clear g2;refine sw (Za 0 0 i1 _) ?_;rw [k2])
  |(go_at_call 56;clear g3;refine sw (Za i6 0 3 _) ?_;rw [k3])
  |(go_at_call 56;clear g4;refine sw (Za i7 0 i1 _) ?_;rw [k4]))
 all_goals go_ret
 all_goals exact ⟨rfl,hb0.out⟩
theorem sNF_30z (i0 i1 i2 i3 i8 i9 i10 i11:Int)(a12 a13 a14 a15 a16 a17:Option Addr)(cap12 cap13 cap14 cap15 cap16 cap17:Nat)(l12:List Ent)(l13 l14 l15 l16 l17:List Int)(w:World)(hpl:Y3 i0 i1 i2 i3=true)(k1:inB 0 0 1073741824=true)(k2:inB 0 0 i1=true)(k4:inB i0 0 i1=true):Calls Tryz.prog 22 #[.agg #[.int .i64 i0,.int .i64 i1,.int .i64 i2,.int .i64 i3,.int .i64 0,.int .i64 0,.int .i64 0,.int .i64 i0,.int .i64 i8,.int .i64 i9,.int .i64 i10,.int .i64 i11,.slice a12 l12.length cap12,.slice a13 l13.length cap13,.slice a14 l14.length cap14,.slice a15 l15.length cap15,.slice a16 l16.length cap16,.slice a17 l17.length cap17]] w fun e w'=>e=.returned (.int .i64 3)/\Below w.heap.size w w':=by
 have hb0:Hid (Below w.heap.size w (w.alloc (.cells #[.int .i64 i0,.int .i64 i1,.int .i64 i2,.int .i64 i3,.int .i64 0,.int .i64 0,.int .i64 0,.int .i64 i0,.int .i64 i8,.int .i64 i9,.int .i64 i10,.int .i64 i11,.slice a12 l12.length cap12,.slice a13 l13.length cap13,.slice a14 l14.length cap14,.slice a15 l15.length cap15,.slice a16 l16.length cap16,.slice a17 l17.length cap17] 36))):=(Below.refl _ _).alloc (Nat.le_refl _) _;have g1:True:=trivial;have g2:True:=trivial;have g3:True:=trivial;have g4:True:=trivial;go_enter Tryz.func22,Tryz.ntmps22
 go_wp2_with (first
  |(go_at_call 58;refine sw (Zu _ _ _ _ _) ?_;rw [hpl])
  |(go_at_call 56;clear g1;refine sw (Za 0 0 1073741824 _) ?_;rw [k1])
  |(go_at_call 56;clear g2;refine sw (Za 0 0 i1 _) ?_;rw [k2])
  |(go_at_call 56;clear g3;refine sw (Za 0 0 3 _) ?_;rw [rb0])
  |(go_at_call 56;clear g4;refine sw (Za i0 0 i1 _) ?_;rw [k4]))
 all_goals go_ret
 all_goals exact ⟨rfl,hb0.out⟩
theorem sNF_31z (i0 i1 i2 i3 i7 i8 i9 i10 i11:Int)(a12 a13 a14 a15 a16 a17:Option Addr)(cap12 cap13 cap14 cap15 cap16 cap17:Nat)(l12:List Ent)(l13 l14 l15 l16 l17:List Int)(w:World)(hpl:Y3 i0 i1 i2 i3=true)(k1:inB 0 0 1073741824=true)(k2:inB 0 0 i1=true)(k4:inB i7 0 i1=true)(nl:(i7 != 0)=true)(nl2:(i7 == 0)=false):Calls Tryz.prog 22 #[.agg #[.int .i64 i0,.int .i64 i1,.int .i64 i2,.int .i64 i3,.int .i64 0,.int .i64 0,.int .i64 1,.int .i64 i7,.int .i64 i8,.int .i64 i9,.int .i64 i10,.int .i64 i11,.slice a12 l12.length cap12,.slice a13 l13.length cap13,.slice a14 l14.length cap14,.slice a15 l15.length cap15,.slice a16 l16.length cap16,.slice a17 l17.length cap17]] w fun e w'=>e=.returned (.int .i64 3)/\Below w.heap.size w w':=by
 have hb0:Hid (Below w.heap.size w (w.alloc (.cells #[.int .i64 i0,.int .i64 i1,.int .i64 i2,.int .i64 i3,.int .i64 0,.int .i64 0,.int .i64 1,.int .i64 i7,.int .i64 i8,.int .i64 i9,.int .i64 i10,.int .i64 i11,.slice a12 l12.length cap12,.slice a13 l13.length cap13,.slice a14 l14.length cap14,.slice a15 l15.length cap15,.slice a16 l16.length cap16,.slice a17 l17.length cap17] 36))):=(Below.refl _ _).alloc (Nat.le_refl _) _;have g1:True:=trivial;have g2:True:=trivial;have g3:True:=trivial;have g4:True:=trivial;go_enter Tryz.func22,Tryz.ntmps22
 go_wp2_with (first
  |(go_at_call 58;refine sw (Zu _ _ _ _ _) ?_;rw [hpl])
  |(go_at_call 56;clear g1;refine sw (Za 0 0 1073741824 _) ?_;rw [k1])
  |(go_at_call 56;clear g2;refine sw (Za 0 0 i1 _) ?_;rw [k2])
  |(go_at_call 56;clear g3;refine sw (Za 1 0 3 _) ?_;rw [rb1])
  |(go_at_call 56;clear g4;refine sw (Za i7 0 i1 _) ?_;rw [k4]))
 all_goals go_ret
 all_goals exact ⟨rfl,hb0.out⟩
theorem sNF_32tz (i0 i1 i2 i3 i7 i8 i9 i10 i11:Int)(a12 a13 a14 a15 a16 a17:Option Addr)(cap12 cap13 cap14 cap15 cap16 cap17:Nat)(l12:List Ent)(l13 l14 l15 l16 l17:List Int)(w:World)(hpl:Y3 i0 i1 i2 i3=true)(k1:inB 0 0 1073741824=true)(k2:inB 0 0 i1=true)(k4:inB i7 0 i1=true):Calls Tryz.prog 22 #[.agg #[.int .i64 i0,.int .i64 i1,.int .i64 i2,.int .i64 i3,.int .i64 0,.int .i64 0,.int .i64 2,.int .i64 i7,.int .i64 i8,.int .i64 i9,.int .i64 i10,.int .i64 i11,.slice a12 l12.length cap12,.slice a13 l13.length cap13,.slice a14 l14.length cap14,.slice a15 l15.length cap15,.slice a16 l16.length cap16,.slice a17 l17.length cap17]] w fun e w'=>e=.returned (.int .i64 3)/\Below w.heap.size w w':=by
 have hb0:Hid (Below w.heap.size w (w.alloc (.cells #[.int .i64 i0,.int .i64 i1,.int .i64 i2,.int .i64 i3,.int .i64 0,.int .i64 0,.int .i64 2,.int .i64 i7,.int .i64 i8,.int .i64 i9,.int .i64 i10,.int .i64 i11,.slice a12 l12.length cap12,.slice a13 l13.length cap13,.slice a14 l14.length cap14,.slice a15 l15.length cap15,.slice a16 l16.length cap16,.slice a17 l17.length cap17] 36))):=(Below.refl _ _).alloc (Nat.le_refl _) _;have g1:True:=trivial;have g2:True:=trivial;have g3:True:=trivial;have g4:True:=trivial;go_enter Tryz.func22,Tryz.ntmps22
 go_wp2_with (first
  |(go_at_call 58;refine sw (Zu _ _ _ _ _) ?_;rw [hpl])
  |(go_at_call 56;clear g1;refine sw (Za 0 0 1073741824 _) ?_;rw [k1])
  |(go_at_call 56;clear g2;refine sw (Za 0 0 i1 _) ?_;rw [k2])
  |(go_at_call 56;clear g3;refine sw (Za 2 0 3 _) ?_;rw [rb2])
  |(go_at_call 56;clear g4;refine sw (Za i7 0 i1 _) ?_;rw [k4]))
 all_goals go_ret
 all_goals exact ⟨rfl,hb0.out⟩
theorem sNF_33tz (i0 i1 i2 i3 i7 i8 i9 i10 i11:Int)(a12 a13 a14 a15 a16 a17:Option Addr)(cap12 cap13 cap14 cap15 cap16 cap17:Nat)(l12:List Ent)(l13 l14 l15 l16 l17:List Int)(w:World)(hpl:Y3 i0 i1 i2 i3=true)(k1:inB 0 0 1073741824=true)(k2:inB 0 0 i1=true)(k4:inB i7 0 i1=true):Calls Tryz.prog 22 #[.agg #[.int .i64 i0,.int .i64 i1,.int .i64 i2,.int .i64 i3,.int .i64 0,.int .i64 0,.int .i64 3,.int .i64 i7,.int .i64 i8,.int .i64 i9,.int .i64 i10,.int .i64 i11,.slice a12 l12.length cap12,.slice a13 l13.length cap13,.slice a14 l14.length cap14,.slice a15 l15.length cap15,.slice a16 l16.length cap16,.slice a17 l17.length cap17]] w fun e w'=>e=.returned (.int .i64 3)/\Below w.heap.size w w':=by
 have hb0:Hid (Below w.heap.size w (w.alloc (.cells #[.int .i64 i0,.int .i64 i1,.int .i64 i2,.int .i64 i3,.int .i64 0,.int .i64 0,.int .i64 3,.int .i64 i7,.int .i64 i8,.int .i64 i9,.int .i64 i10,.int .i64 i11,.slice a12 l12.length cap12,.slice a13 l13.length cap13,.slice a14 l14.length cap14,.slice a15 l15.length cap15,.slice a16 l16.length cap16,.slice a17 l17.length cap17] 36))):=(Below.refl _ _).alloc (Nat.le_refl _) _;have g1:True:=trivial;have g2:True:=trivial;have g3:True:=trivial;have g4:True:=trivial;go_enter Tryz.func22,Tryz.ntmps22
 go_wp2_with (first
  |(go_at_call 58;refine sw (Zu _ _ _ _ _) ?_;rw [hpl])
  |(go_at_call 56;clear g1;refine sw (Za 0 0 1073741824 _) ?_;rw [k1])
  |(go_at_call 56;clear g2;refine sw (Za 0 0 i1 _) ?_;rw [k2])
  |(go_at_call 56;clear g3;refine sw (Za 3 0 3 _) ?_;rw [rb3])
  |(go_at_call 56;clear g4;refine sw (Za i7 0 i1 _) ?_;rw [k4]))
 all_goals go_ret
 all_goals exact ⟨rfl,hb0.out⟩
theorem sNF_3ap (i0 i1 i2 i3 i4 i5 i6 i7 i8 i9 i10 i11:Int)(a12 a13 a14 a15 a16 a17:Option Addr)(cap12 cap13 cap14 cap15 cap16 cap17:Nat)(l12:List Ent)(l13 l14 l15 l16 l17:List Int)(w:World)(hpl:Y3 i0 i1 i2 i3=true)(k1:inB i4 0 1073741824=true)(k2:inB i5 0 i1=true)(nt:(i4 == 0)=false)(hp:0<i4)(k3:inB i6 0 3=false):Calls Tryz.prog 22 #[.agg #[.int .i64 i0,.int .i64 i1,.int .i64 i2,.int .i64 i3,.int .i64 i4,.int .i64 i5,.int .i64 i6,.int .i64 i7,.int .i64 i8,.int .i64 i9,.int .i64 i10,.int .i64 i11,.slice a12 l12.length cap12,.slice a13 l13.length cap13,.slice a14 l14.length cap14,.slice a15 l15.length cap15,.slice a16 l16.length cap16,.slice a17 l17.length cap17]] w fun e w'=>e=.returned (.int .i64 3)/\Below w.heap.size w w':=by
 have hb0:Hid (Below w.heap.size w (w.alloc (.cells #[.int .i64 i0,.int .i64 i1,.int .i64 i2,.int .i64 i3,.int .i64 i4,.int .i64 i5,.int .i64 i6,.int .i64 i7,.int .i64 i8,.int .i64 i9,.int .i64 i10,.int .i64 i11,.slice a12 l12.length cap12,.slice a13 l13.length cap13,.slice a14 l14.length cap14,.slice a15 l15.length cap15,.slice a16 l16.length cap16,.slice a17 l17.length cap17] 36))):=(Below.refl _ _).alloc (Nat.le_refl _) _;have g1:True:=trivial;have g2:True:=trivial;have g3:True:=trivial;have g4:True:=trivial;go_enter Tryz.func22,Tryz.ntmps22
 go_wp2_with (first
  |(go_at_call 58;refine sw (Zu _ _ _ _ _) ?_;rw [hpl])
  |(go_at_call 56;clear g1;refine sw (Za i4 0 1073741824 _) ?_;rw [k1])
  |(go_at_call 56;clear g2;refine sw (Za i5 0 i1 _) ?_;rw [k2])
  |(go_at_call 56;clear g3;refine sw (Za i6 0 3 _) ?_;rw [k3]))
 all_goals go_ret
 all_goals exact ⟨rfl,hb0.out⟩
theorem sNF_3bp (i0 i1 i2 i3 i4 i5 i6 i7 i8 i9 i10 i11:Int)(a12 a13 a14 a15 a16 a17:Option Addr)(cap12 cap13 cap14 cap15 cap16 cap17:Nat)(l12:List Ent)(l13 l14 l15 l16 l17:List Int)(w:World)(hpl:Y3 i0 i1 i2 i3=true)(k1:inB i4 0 1073741824=true)(k2:inB i5 0 i1=true)(nt:(i4 == 0)=false)(hp:0<i4)(k3:inB i6 0 3=true)(k4:inB i7 0 i1=false):Calls Tryz.prog 22 #[.agg #[.int .i64 i0,.int .i64 i1,.int .i64 i2,.int .i64 i3,.int .i64 i4,.int .i64 i5,.int .i64 i6,.int .i64 i7,.int .i64 i8,.int .i64 i9,.int .i64 i10,.int .i64 i11,.slice a12 l12.length cap12,.slice a13 l13.length cap13,.slice a14 l14.length cap14,.slice a15 l15.length cap15,.slice a16 l16.length cap16,.slice a17 l17.length cap17]] w fun e w'=>e=.returned (.int .i64 3)/\Below w.heap.size w w':=by
 have hb0:Hid (Below w.heap.size w (w.alloc (.cells #[.int .i64 i0,.int .i64 i1,.int .i64 i2,.int .i64 i3,.int .i64 i4,.int .i64 i5,.int .i64 i6,.int .i64 i7,.int .i64 i8,.int .i64 i9,.int .i64 i10,.int .i64 i11,.slice a12 l12.length cap12,.slice a13 l13.length cap13,.slice a14 l14.length cap14,.slice a15 l15.length cap15,.slice a16 l16.length cap16,.slice a17 l17.length cap17] 36))):=(Below.refl _ _).alloc (Nat.le_refl _) _;have g1:True:=trivial;have g2:True:=trivial;have g3:True:=trivial;have g4:True:=trivial;go_enter Tryz.func22,Tryz.ntmps22
 go_wp2_with (first
  |(go_at_call 58;refine sw (Zu _ _ _ _ _) ?_;rw [hpl])
  |(go_at_call 56;clear g1;refine sw (Za i4 0 1073741824 _) ?_;rw [k1])
  |(go_at_call 56;clear g2;refine sw (Za i5 0 i1 _) ?_;rw [k2])
  |(go_at_call 56;clear g3;refine sw (Za i6 0 3 _) ?_;rw [k3])
  |(go_at_call 56;clear g4;refine sw (Za i7 0 i1 _) ?_;rw [k4]))
 all_goals go_ret
 all_goals exact ⟨rfl,hb0.out⟩
theorem sNF_30p (i0 i1 i2 i3 i4 i5 i8 i9 i10 i11:Int)(a12 a13 a14 a15 a16 a17:Option Addr)(cap12 cap13 cap14 cap15 cap16 cap17:Nat)(l12:List Ent)(l13 l14 l15 l16 l17:List Int)(w:World)(hpl:Y3 i0 i1 i2 i3=true)(k1:inB i4 0 1073741824=true)(k2:inB i5 0 i1=true)(nt:(i4 == 0)=false)(hp:0<i4)(k4:inB i0 0 i1=true):Calls Tryz.prog 22 #[.agg #[.int .i64 i0,.int .i64 i1,.int .i64 i2,.int .i64 i3,.int .i64 i4,.int .i64 i5,.int .i64 0,.int .i64 i0,.int .i64 i8,.int .i64 i9,.int .i64 i10,.int .i64 i11,.slice a12 l12.length cap12,.slice a13 l13.length cap13,.slice a14 l14.length cap14,.slice a15 l15.length cap15,.slice a16 l16.length cap16,.slice a17 l17.length cap17]] w fun e w'=>e=.returned (.int .i64 3)/\Below w.heap.size w w':=by
 have hb0:Hid (Below w.heap.size w (w.alloc (.cells #[.int .i64 i0,.int .i64 i1,.int .i64 i2,.int .i64 i3,.int .i64 i4,.int .i64 i5,.int .i64 0,.int .i64 i0,.int .i64 i8,.int .i64 i9,.int .i64 i10,.int .i64 i11,.slice a12 l12.length cap12,.slice a13 l13.length cap13,.slice a14 l14.length cap14,.slice a15 l15.length cap15,.slice a16 l16.length cap16,.slice a17 l17.length cap17] 36))):=(Below.refl _ _).alloc (Nat.le_refl _) _;have g1:True:=trivial;have g2:True:=trivial;have g3:True:=trivial;have g4:True:=trivial;go_enter Tryz.func22,Tryz.ntmps22
 go_wp2_with (first
  |(go_at_call 58;refine sw (Zu _ _ _ _ _) ?_;rw [hpl])
  |(go_at_call 56;clear g1;refine sw (Za i4 0 1073741824 _) ?_;rw [k1])
  |(go_at_call 56;clear g2;refine sw (Za i5 0 i1 _) ?_;rw [k2])
  |(go_at_call 56;clear g3;refine sw (Za 0 0 3 _) ?_;rw [rb0])
  |(go_at_call 56;clear g4;refine sw (Za i0 0 i1 _) ?_;rw [k4]))
 all_goals go_ret
 all_goals exact ⟨rfl,hb0.out⟩
theorem sNF_31p (i0 i1 i2 i3 i4 i5 i7 i8 i9 i10 i11:Int)(a12 a13 a14 a15 a16 a17:Option Addr)(cap12 cap13 cap14 cap15 cap16 cap17:Nat)(l12:List Ent)(l13 l14 l15 l16 l17:List Int)(w:World)(hpl:Y3 i0 i1 i2 i3=true)(k1:inB i4 0 1073741824=true)(k2:inB i5 0 i1=true)(nt:(i4 == 0)=false)(hp:0<i4)(k4:inB i7 0 i1=true)(nl:(i7 != 0)=true)(nl2:(i7 == 0)=false):Calls Tryz.prog 22 #[.agg #[.int .i64 i0,.int .i64 i1,.int .i64 i2,.int .i64 i3,.int .i64 i4,.int .i64 i5,.int .i64 1,.int .i64 i7,.int .i64 i8,.int .i64 i9,.int .i64 i10,.int .i64 i11,.slice a12 l12.length cap12,.slice a13 l13.length cap13,.slice a14 l14.length cap14,.slice a15 l15.length cap15,.slice a16 l16.length cap16,.slice a17 l17.length cap17]] w fun e w'=>e=.returned (.int .i64 3)/\Below w.heap.size w w':=by
 have hb0:Hid (Below w.heap.size w (w.alloc (.cells #[.int .i64 i0,.int .i64 i1,.int .i64 i2,.int .i64 i3,.int .i64 i4,.int .i64 i5,.int .i64 1,.int .i64 i7,.int .i64 i8,.int .i64 i9,.int .i64 i10,.int .i64 i11,.slice a12 l12.length cap12,.slice a13 l13.length cap13,.slice a14 l14.length cap14,.slice a15 l15.length cap15,.slice a16 l16.length cap16,.slice a17 l17.length cap17] 36))):=(Below.refl _ _).alloc (Nat.le_refl _) _;have g1:True:=trivial;have g2:True:=trivial;have g3:True:=trivial;have g4:True:=trivial;go_enter Tryz.func22,Tryz.ntmps22
 go_wp2_with (first
  |(go_at_call 58;refine sw (Zu _ _ _ _ _) ?_;rw [hpl])
  |(go_at_call 56;clear g1;refine sw (Za i4 0 1073741824 _) ?_;rw [k1])
  |(go_at_call 56;clear g2;refine sw (Za i5 0 i1 _) ?_;rw [k2])
  |(go_at_call 56;clear g3;refine sw (Za 1 0 3 _) ?_;rw [rb1])
  |(go_at_call 56;clear g4;refine sw (Za i7 0 i1 _) ?_;rw [k4]))
 all_goals go_ret
 all_goals exact ⟨rfl,hb0.out⟩
theorem sNF_32vp (i0 i1 i2 i3 i4 i5 i7 i8 i9 i10 i11:Int)(a12 a13 a14 a15 a16 a17:Option Addr)(cap12 cap13 cap14 cap15 cap16 cap17:Nat)(l12:List Ent)(l13 l14 l15 l16 l17:List Int)(w:World)(hpl:Y3 i0 i1 i2 i3=true)(k1:inB i4 0 1073741824=true)(k2:inB i5 0 i1=true)(nt:(i4 == 0)=false)(hp:0<i4)(k4:inB i7 0 i1=true)(nv:(i5 != i0)=true):Calls Tryz.prog 22 #[.agg #[.int .i64 i0,.int .i64 i1,.int .i64 i2,.int .i64 i3,.int .i64 i4,.int .i64 i5,.int .i64 2,.int .i64 i7,.int .i64 i8,.int .i64 i9,.int .i64 i10,.int .i64 i11,.slice a12 l12.length cap12,.slice a13 l13.length cap13,.slice a14 l14.length cap14,.slice a15 l15.length cap15,.slice a16 l16.length cap16,.slice a17 l17.length cap17]] w fun e w'=>e=.returned (.int .i64 3)/\Below w.heap.size w w':=by
 have hb0:Hid (Below w.heap.size w (w.alloc (.cells #[.int .i64 i0,.int .i64 i1,.int .i64 i2,.int .i64 i3,.int .i64 i4,.int .i64 i5,.int .i64 2,.int .i64 i7,.int .i64 i8,.int .i64 i9,.int .i64 i10,.int .i64 i11,.slice a12 l12.length cap12,.slice a13 l13.length cap13,.slice a14 l14.length cap14,.slice a15 l15.length cap15,.slice a16 l16.length cap16,.slice a17 l17.length cap17] 36))):=(Below.refl _ _).alloc (Nat.le_refl _) _;have g1:True:=trivial;have g2:True:=trivial;have g3:True:=trivial;have g4:True:=trivial;go_enter Tryz.func22,Tryz.ntmps22
 go_wp2_with (first
  |(go_at_call 58;refine sw (Zu _ _ _ _ _) ?_;rw [hpl])
  |(go_at_call 56;clear g1;refine sw (Za i4 0 1073741824 _) ?_;rw [k1])
  |(go_at_call 56;clear g2;refine sw (Za i5 0 i1 _) ?_;rw [k2])
  |(go_at_call 56;clear g3;refine sw (Za 2 0 3 _) ?_;rw [rb2])
  |(go_at_call 56;clear g4;refine sw (Za i7 0 i1 _) ?_;rw [k4]))
 all_goals go_ret
 all_goals exact ⟨rfl,hb0.out⟩
theorem sNF_32lp (i0 i1 i2 i3 i4 i7 i8 i9 i10 i11:Int)(a12 a13 a14 a15 a16 a17:Option Addr)(cap12 cap13 cap14 cap15 cap16 cap17:Nat)(l12:List Ent)(l13 l14 l15 l16 l17:List Int)(w:World)(hpl:Y3 i0 i1 i2 i3=true)(k1:inB i4 0 1073741824=true)(k2:inB i0 0 i1=true)(nt:(i4 == 0)=false)(hp:0<i4)(k4:inB i7 0 i1=true)(nl:(i7 != 0)=true)(nl2:(i7 == 0)=false):Calls Tryz.prog 22 #[.agg #[.int .i64 i0,.int .i64 i1,.int .i64 i2,.int .i64 i3,.int .i64 i4,.int .i64 i0,.int .i64 2,.int .i64 i7,.int .i64 i8,.int .i64 i9,.int .i64 i10,.int .i64 i11,.slice a12 l12.length cap12,.slice a13 l13.length cap13,.slice a14 l14.length cap14,.slice a15 l15.length cap15,.slice a16 l16.length cap16,.slice a17 l17.length cap17]] w fun e w'=>e=.returned (.int .i64 3)/\Below w.heap.size w w':=by
 have hb0:Hid (Below w.heap.size w (w.alloc (.cells #[.int .i64 i0,.int .i64 i1,.int .i64 i2,.int .i64 i3,.int .i64 i4,.int .i64 i0,.int .i64 2,.int .i64 i7,.int .i64 i8,.int .i64 i9,.int .i64 i10,.int .i64 i11,.slice a12 l12.length cap12,.slice a13 l13.length cap13,.slice a14 l14.length cap14,.slice a15 l15.length cap15,.slice a16 l16.length cap16,.slice a17 l17.length cap17] 36))):=(Below.refl _ _).alloc (Nat.le_refl _) _;have g1:True:=trivial;have g2:True:=trivial;have g3:True:=trivial;have g4:True:=trivial;go_enter Tryz.func22,Tryz.ntmps22
 go_wp2_with (first
  |(go_at_call 58;refine sw (Zu _ _ _ _ _) ?_;rw [hpl])
  |(go_at_call 56;clear g1;refine sw (Za i4 0 1073741824 _) ?_;rw [k1])
  |(go_at_call 56;clear g2;refine sw (Za i0 0 i1 _) ?_;rw [k2])
  |(go_at_call 56;clear g3;refine sw (Za 2 0 3 _) ?_;rw [rb2])
  |(go_at_call 56;clear g4;refine sw (Za i7 0 i1 _) ?_;rw [k4]))
 all_goals go_ret
 all_goals exact ⟨rfl,hb0.out⟩
theorem sNF_33vp (i0 i1 i2 i3 i4 i5 i7 i8 i9 i10 i11:Int)(a12 a13 a14 a15 a16 a17:Option Addr)(cap12 cap13 cap14 cap15 cap16 cap17:Nat)(l12:List Ent)(l13 l14 l15 l16 l17:List Int)(w:World)(hpl:Y3 i0 i1 i2 i3=true)(k1:inB i4 0 1073741824=true)(k2:inB i5 0 i1=true)(nt:(i4 == 0)=false)(hp:0<i4)(k4:inB i7 0 i1=true)(nv:(i5 != i0)=true):Calls Tryz.prog 22 #[.agg #[.int .i64 i0,.int .i64 i1,.int .i64 i2,.int .i64 i3,.int .i64 i4,.int .i64 i5,.int .i64 3,.int .i64 i7,.int .i64 i8,.int .i64 i9,.int .i64 i10,.int .i64 i11,.slice a12 l12.length cap12,.slice a13 l13.length cap13,.slice a14 l14.length cap14,.slice a15 l15.length cap15,.slice a16 l16.length cap16,.slice a17 l17.length cap17]] w fun e w'=>e=.returned (.int .i64 3)/\Below w.heap.size w w':=by
 have hb0:Hid (Below w.heap.size w (w.alloc (.cells #[.int .i64 i0,.int .i64 i1,.int .i64 i2,.int .i64 i3,.int .i64 i4,.int .i64 i5,.int .i64 3,.int .i64 i7,.int .i64 i8,.int .i64 i9,.int .i64 i10,.int .i64 i11,.slice a12 l12.length cap12,.slice a13 l13.length cap13,.slice a14 l14.length cap14,.slice a15 l15.length cap15,.slice a16 l16.length cap16,.slice a17 l17.length cap17] 36))):=(Below.refl _ _).alloc (Nat.le_refl _) _;have g1:True:=trivial;have g2:True:=trivial;have g3:True:=trivial;have g4:True:=trivial;go_enter Tryz.func22,Tryz.ntmps22
 go_wp2_with (first
  |(go_at_call 58;refine sw (Zu _ _ _ _ _) ?_;rw [hpl])
  |(go_at_call 56;clear g1;refine sw (Za i4 0 1073741824 _) ?_;rw [k1])
  |(go_at_call 56;clear g2;refine sw (Za i5 0 i1 _) ?_;rw [k2])
  |(go_at_call 56;clear g3;refine sw (Za 3 0 3 _) ?_;rw [rb3])
  |(go_at_call 56;clear g4;refine sw (Za i7 0 i1 _) ?_;rw [k4]))
 all_goals go_ret
 all_goals exact ⟨rfl,hb0.out⟩
theorem sNF_33lp (i0 i1 i2 i3 i4 i7 i8 i9 i10 i11:Int)(a12 a13 a14 a15 a16 a17:Option Addr)(cap12 cap13 cap14 cap15 cap16 cap17:Nat)(l12:List Ent)(l13 l14 l15 l16 l17:List Int)(w:World)(hpl:Y3 i0 i1 i2 i3=true)(k1:inB i4 0 1073741824=true)(k2:inB i0 0 i1=true)(nt:(i4 == 0)=false)(hp:0<i4)(k4:inB i7 0 i1=true)(nl:(i7 == i0)=false):Calls Tryz.prog 22 #[.agg #[.int .i64 i0,.int .i64 i1,.int .i64 i2,.int .i64 i3,.int .i64 i4,.int .i64 i0,.int .i64 3,.int .i64 i7,.int .i64 i8,.int .i64 i9,.int .i64 i10,.int .i64 i11,.slice a12 l12.length cap12,.slice a13 l13.length cap13,.slice a14 l14.length cap14,.slice a15 l15.length cap15,.slice a16 l16.length cap16,.slice a17 l17.length cap17]] w fun e w'=>e=.returned (.int .i64 3)/\Below w.heap.size w w':=by
 have hb0:Hid (Below w.heap.size w (w.alloc (.cells #[.int .i64 i0,.int .i64 i1,.int .i64 i2,.int .i64 i3,.int .i64 i4,.int .i64 i0,.int .i64 3,.int .i64 i7,.int .i64 i8,.int .i64 i9,.int .i64 i10,.int .i64 i11,.slice a12 l12.length cap12,.slice a13 l13.length cap13,.slice a14 l14.length cap14,.slice a15 l15.length cap15,.slice a16 l16.length cap16,.slice a17 l17.length cap17] 36))):=(Below.refl _ _).alloc (Nat.le_refl _) _;have g1:True:=trivial;have g2:True:=trivial;have g3:True:=trivial;have g4:True:=trivial;go_enter Tryz.func22,Tryz.ntmps22
 go_wp2_with (first
  |(go_at_call 58;refine sw (Zu _ _ _ _ _) ?_;rw [hpl])
  |(go_at_call 56;clear g1;refine sw (Za i4 0 1073741824 _) ?_;rw [k1])
  |(go_at_call 56;clear g2;refine sw (Za i0 0 i1 _) ?_;rw [k2])
  |(go_at_call 56;clear g3;refine sw (Za 3 0 3 _) ?_;rw [rb3])
  |(go_at_call 56;clear g4;refine sw (Za i7 0 i1 _) ?_;rw [k4]))
 all_goals go_ret
 all_goals exact ⟨rfl,hb0.out⟩
end Go.Proofs.YtmmpoppgabadmaaGreat
