import Derived.Test.YtmmpoppgabadmaaGreatG06
set_option linter.unusedVariables false
set_option linter.unusedSimpArgs false
set_option maxRecDepth 100000
set_option maxHeartbeats 16000000
namespace Go.Proofs.YtmmpoppgabadmaaGreat
open Go.RowKit
def Y8 (id sz tm vo ro ld:Int):Bool:=
 inB ro 0 3 && (inB ld 0 sz && (if ro=1 then ld == 0 else if ro=2 then ld == 0 && (decide (0<tm) && vo == id) else if ro=3 then ld == id && (decide (0<tm) && vo == id) else !(ld == id)))
theorem roleFits_any (i0 i1 i2 i3 i4 i5 i6 i7 i8 i9 i10 i11:Int)(a12 a13 a14 a15 a16 a17:Option Addr)(n12 cap12 n13 cap13 n14 cap14 n15 cap15 n16 cap16 n17 cap17:Nat)(w:World):Calls Tryz.prog 68 #[.agg #[.int .i64 i0,.int .i64 i1,.int .i64 i2,.int .i64 i3,.int .i64 i4,.int .i64 i5,.int .i64 i6,.int .i64 i7,.int .i64 i8,.int .i64 i9,.int .i64 i10,.int .i64 i11,.slice a12 n12 cap12,.slice a13 n13 cap13,.slice a14 n14 cap14,.slice a15 n15 cap15,.slice a16 n16 cap16,.slice a17 n17 cap17]] w fun e w'=>e=.returned (.bool (Y8 i0 i1 i4 i5 i6 i7))/\Below w.heap.size w w':=by
 have hb0:Hid (Below w.heap.size w (w.alloc (.cells #[.int .i64 i0,.int .i64 i1,.int .i64 i2,.int .i64 i3,.int .i64 i4,.int .i64 i5,.int .i64 i6,.int .i64 i7,.int .i64 i8,.int .i64 i9,.int .i64 i10,.int .i64 i11,.slice a12 n12 cap12,.slice a13 n13 cap13,.slice a14 n14 cap14,.slice a15 n15 cap15,.slice a16 n16 cap16,.slice a17 n17 cap17] 36))):=(Below.refl _ _).alloc (Nat.le_refl _) _;have g1:True:=trivial;cases h1:inB i6 0 3
 ·have e:Y8 i0 i1 i4 i5 i6 i7=false:=by simp [Y8,h1]
  rw [e];go_enter Tryz.func68,Tryz.ntmps68
  go_wp2_with (go_at_call 70;clear g1;refine (Ze _ 0 3 _).mono ?_;rintro e w1 ⟨rfl,hw⟩;obtain rfl:=hw.symm;rw [h1])
  go_ret;exact ⟨rfl,hb0.out⟩
 ·cases h2:inB i7 0 i1
  ·have e:Y8 i0 i1 i4 i5 i6 i7=false:=by simp [Y8,h2]
   rw [e];go_enter Tryz.func68,Tryz.ntmps68
   go_wp2_with (first
    |(go_at_call 70;clear g1;refine (Ze _ 0 3 _).mono ?_;rintro e w1 ⟨rfl,hw⟩;obtain rfl:=hw.symm;rw [h1])
    |(go_at_call 70;refine (Ze _ 0 _ _).mono ?_;rintro e w1 ⟨rfl,hw⟩;obtain rfl:=hw.symm;rw [h2]))
   go_ret;exact ⟨rfl,hb0.out⟩
  ·have hn:=(Zr _ _ _).1 h1
   rcases (show i6=0∨i6=1∨i6=2∨i6=3 by omega) with rfl | rfl | rfl | rfl
   ·by_cases ht:0<i4
    ·skip
     by_cases hl:i0=i7
     ·subst hl
      by_cases hv:i0=i5
      ·subst hv
       go_enter Tryz.func68,Tryz.ntmps68
       go_wp2_with (first
        |(go_at_call 70;clear g1;refine (Ze _ 0 3 _).mono ?_;rintro e w1 ⟨rfl,hw⟩;obtain rfl:=hw.symm;rw [h1])
        |(go_at_call 70;refine (Ze _ 0 _ _).mono ?_;rintro e w1 ⟨rfl,hw⟩;obtain rfl:=hw.symm;rw [h2]))
       go_ret;exact ⟨by simp [Y8,bne,h1,h2,ht],hb0.out⟩
      ·skip
       go_enter Tryz.func68,Tryz.ntmps68
       go_wp2_with (first
        |(go_at_call 70;clear g1;refine (Ze _ 0 3 _).mono ?_;rintro e w1 ⟨rfl,hw⟩;obtain rfl:=hw.symm;rw [h1])
        |(go_at_call 70;refine (Ze _ 0 _ _).mono ?_;rintro e w1 ⟨rfl,hw⟩;obtain rfl:=hw.symm;rw [h2]))
       go_ret;exact ⟨by simp [Y8,bne,h1,h2,ht,hv,Ne.symm hv],hb0.out⟩
     ·skip
      by_cases hv:i0=i5
      ·subst hv
       go_enter Tryz.func68,Tryz.ntmps68
       go_wp2_with (first
        |(go_at_call 70;clear g1;refine (Ze _ 0 3 _).mono ?_;rintro e w1 ⟨rfl,hw⟩;obtain rfl:=hw.symm;rw [h1])
        |(go_at_call 70;refine (Ze _ 0 _ _).mono ?_;rintro e w1 ⟨rfl,hw⟩;obtain rfl:=hw.symm;rw [h2]))
       go_ret;exact ⟨by simp [Y8,bne,h1,h2,ht,hl,Ne.symm hl],hb0.out⟩
      ·skip
       go_enter Tryz.func68,Tryz.ntmps68
       go_wp2_with (first
        |(go_at_call 70;clear g1;refine (Ze _ 0 3 _).mono ?_;rintro e w1 ⟨rfl,hw⟩;obtain rfl:=hw.symm;rw [h1])
        |(go_at_call 70;refine (Ze _ 0 _ _).mono ?_;rintro e w1 ⟨rfl,hw⟩;obtain rfl:=hw.symm;rw [h2]))
       go_ret;exact ⟨by simp [Y8,bne,h1,h2,ht,hl,Ne.symm hl,hv,Ne.symm hv],hb0.out⟩
    ·skip
     by_cases hl:i0=i7
     ·subst hl
      by_cases hv:i0=i5
      ·subst hv
       go_enter Tryz.func68,Tryz.ntmps68
       go_wp2_with (first
        |(go_at_call 70;clear g1;refine (Ze _ 0 3 _).mono ?_;rintro e w1 ⟨rfl,hw⟩;obtain rfl:=hw.symm;rw [h1])
        |(go_at_call 70;refine (Ze _ 0 _ _).mono ?_;rintro e w1 ⟨rfl,hw⟩;obtain rfl:=hw.symm;rw [h2]))
       go_ret;exact ⟨by simp [Y8,bne,h1,h2,ht],hb0.out⟩
      ·skip
       go_enter Tryz.func68,Tryz.ntmps68
       go_wp2_with (first
        |(go_at_call 70;clear g1;refine (Ze _ 0 3 _).mono ?_;rintro e w1 ⟨rfl,hw⟩;obtain rfl:=hw.symm;rw [h1])
        |(go_at_call 70;refine (Ze _ 0 _ _).mono ?_;rintro e w1 ⟨rfl,hw⟩;obtain rfl:=hw.symm;rw [h2]))
       go_ret;exact ⟨by simp [Y8,bne,h1,h2,ht,hv,Ne.symm hv],hb0.out⟩
     ·skip
      by_cases hv:i0=i5
      ·subst hv
       go_enter Tryz.func68,Tryz.ntmps68
       go_wp2_with (first
        |(go_at_call 70;clear g1;refine (Ze _ 0 3 _).mono ?_;rintro e w1 ⟨rfl,hw⟩;obtain rfl:=hw.symm;rw [h1])
        |(go_at_call 70;refine (Ze _ 0 _ _).mono ?_;rintro e w1 ⟨rfl,hw⟩;obtain rfl:=hw.symm;rw [h2]))
       go_ret;exact ⟨by simp [Y8,bne,h1,h2,ht,hl,Ne.symm hl],hb0.out⟩
      ·skip
       go_enter Tryz.func68,Tryz.ntmps68
       go_wp2_with (first
        |(go_at_call 70;clear g1;refine (Ze _ 0 3 _).mono ?_;rintro e w1 ⟨rfl,hw⟩;obtain rfl:=hw.symm;rw [h1])
        |(go_at_call 70;refine (Ze _ 0 _ _).mono ?_;rintro e w1 ⟨rfl,hw⟩;obtain rfl:=hw.symm;rw [h2]))
       go_ret;exact ⟨by simp [Y8,bne,h1,h2,ht,hl,Ne.symm hl,hv,Ne.symm hv],hb0.out⟩
   ·by_cases ht:0<i4
    ·skip
     by_cases h0:i7=0
     ·subst h0
      by_cases hv:i0=i5
      ·subst hv
       go_enter Tryz.func68,Tryz.ntmps68
       go_wp2_with (first
        |(go_at_call 70;clear g1;refine (Ze _ 0 3 _).mono ?_;rintro e w1 ⟨rfl,hw⟩;obtain rfl:=hw.symm;rw [h1])
        |(go_at_call 70;refine (Ze _ 0 _ _).mono ?_;rintro e w1 ⟨rfl,hw⟩;obtain rfl:=hw.symm;rw [h2]))
       go_ret;exact ⟨by simp [Y8,bne,h1,h2,ht],hb0.out⟩
      ·skip
       go_enter Tryz.func68,Tryz.ntmps68
       go_wp2_with (first
        |(go_at_call 70;clear g1;refine (Ze _ 0 3 _).mono ?_;rintro e w1 ⟨rfl,hw⟩;obtain rfl:=hw.symm;rw [h1])
        |(go_at_call 70;refine (Ze _ 0 _ _).mono ?_;rintro e w1 ⟨rfl,hw⟩;obtain rfl:=hw.symm;rw [h2]))
       go_ret;exact ⟨by simp [Y8,bne,h1,h2,ht,hv,Ne.symm hv],hb0.out⟩
     ·skip
      by_cases hv:i0=i5
      ·subst hv
       go_enter Tryz.func68,Tryz.ntmps68
       go_wp2_with (first
        |(go_at_call 70;clear g1;refine (Ze _ 0 3 _).mono ?_;rintro e w1 ⟨rfl,hw⟩;obtain rfl:=hw.symm;rw [h1])
        |(go_at_call 70;refine (Ze _ 0 _ _).mono ?_;rintro e w1 ⟨rfl,hw⟩;obtain rfl:=hw.symm;rw [h2]))
       go_ret;exact ⟨by simp [Y8,bne,h1,h2,ht,h0,Ne.symm h0],hb0.out⟩
      ·skip
       go_enter Tryz.func68,Tryz.ntmps68
       go_wp2_with (first
        |(go_at_call 70;clear g1;refine (Ze _ 0 3 _).mono ?_;rintro e w1 ⟨rfl,hw⟩;obtain rfl:=hw.symm;rw [h1])
        |(go_at_call 70;refine (Ze _ 0 _ _).mono ?_;rintro e w1 ⟨rfl,hw⟩;obtain rfl:=hw.symm;rw [h2]))
       go_ret;exact ⟨by simp [Y8,bne,h1,h2,ht,h0,Ne.symm h0,hv,Ne.symm hv],hb0.out⟩
    ·skip
     by_cases h0:i7=0
     ·subst h0
      by_cases hv:i0=i5
      ·subst hv
       go_enter Tryz.func68,Tryz.ntmps68
       go_wp2_with (first
        |(go_at_call 70;clear g1;refine (Ze _ 0 3 _).mono ?_;rintro e w1 ⟨rfl,hw⟩;obtain rfl:=hw.symm;rw [h1])
        |(go_at_call 70;refine (Ze _ 0 _ _).mono ?_;rintro e w1 ⟨rfl,hw⟩;obtain rfl:=hw.symm;rw [h2]))
       go_ret;exact ⟨by simp [Y8,bne,h1,h2,ht],hb0.out⟩
      ·skip
       go_enter Tryz.func68,Tryz.ntmps68
       go_wp2_with (first
        |(go_at_call 70;clear g1;refine (Ze _ 0 3 _).mono ?_;rintro e w1 ⟨rfl,hw⟩;obtain rfl:=hw.symm;rw [h1])
        |(go_at_call 70;refine (Ze _ 0 _ _).mono ?_;rintro e w1 ⟨rfl,hw⟩;obtain rfl:=hw.symm;rw [h2]))
       go_ret;exact ⟨by simp [Y8,bne,h1,h2,ht,hv,Ne.symm hv],hb0.out⟩
     ·skip
      by_cases hv:i0=i5
      ·subst hv
       go_enter Tryz.func68,Tryz.ntmps68
       go_wp2_with (first
        |(go_at_call 70;clear g1;refine (Ze _ 0 3 _).mono ?_;rintro e w1 ⟨rfl,hw⟩;obtain rfl:=hw.symm;rw [h1])
        |(go_at_call 70;refine (Ze _ 0 _ _).mono ?_;rintro e w1 ⟨rfl,hw⟩;obtain rfl:=hw.symm;rw [h2]))
       go_ret;exact ⟨by simp [Y8,bne,h1,h2,ht,h0,Ne.symm h0],hb0.out⟩
      ·skip
       go_enter Tryz.func68,Tryz.ntmps68
       go_wp2_with (first
        |(go_at_call 70;clear g1;refine (Ze _ 0 3 _).mono ?_;rintro e w1 ⟨rfl,hw⟩;obtain rfl:=hw.symm;rw [h1])
        |(go_at_call 70;refine (Ze _ 0 _ _).mono ?_;rintro e w1 ⟨rfl,hw⟩;obtain rfl:=hw.symm;rw [h2]))
       go_ret;exact ⟨by simp [Y8,bne,h1,h2,ht,h0,Ne.symm h0,hv,Ne.symm hv],hb0.out⟩
   ·by_cases ht:0<i4
    ·skip
     by_cases h0:i7=0
     ·subst h0
      by_cases hv:i0=i5
      ·subst hv
       go_enter Tryz.func68,Tryz.ntmps68
       go_wp2_with (first
        |(go_at_call 70;clear g1;refine (Ze _ 0 3 _).mono ?_;rintro e w1 ⟨rfl,hw⟩;obtain rfl:=hw.symm;rw [h1])
        |(go_at_call 70;refine (Ze _ 0 _ _).mono ?_;rintro e w1 ⟨rfl,hw⟩;obtain rfl:=hw.symm;rw [h2]))
       go_ret;exact ⟨by simp [Y8,bne,h1,h2,ht],hb0.out⟩
      ·skip
       go_enter Tryz.func68,Tryz.ntmps68
       go_wp2_with (first
        |(go_at_call 70;clear g1;refine (Ze _ 0 3 _).mono ?_;rintro e w1 ⟨rfl,hw⟩;obtain rfl:=hw.symm;rw [h1])
        |(go_at_call 70;refine (Ze _ 0 _ _).mono ?_;rintro e w1 ⟨rfl,hw⟩;obtain rfl:=hw.symm;rw [h2]))
       go_ret;exact ⟨by simp [Y8,bne,h1,h2,ht,hv,Ne.symm hv],hb0.out⟩
     ·skip
      by_cases hv:i0=i5
      ·subst hv
       go_enter Tryz.func68,Tryz.ntmps68
       go_wp2_with (first
        |(go_at_call 70;clear g1;refine (Ze _ 0 3 _).mono ?_;rintro e w1 ⟨rfl,hw⟩;obtain rfl:=hw.symm;rw [h1])
        |(go_at_call 70;refine (Ze _ 0 _ _).mono ?_;rintro e w1 ⟨rfl,hw⟩;obtain rfl:=hw.symm;rw [h2]))
       go_ret;exact ⟨by simp [Y8,bne,h1,h2,ht,h0,Ne.symm h0],hb0.out⟩
      ·skip
       go_enter Tryz.func68,Tryz.ntmps68
       go_wp2_with (first
        |(go_at_call 70;clear g1;refine (Ze _ 0 3 _).mono ?_;rintro e w1 ⟨rfl,hw⟩;obtain rfl:=hw.symm;rw [h1])
        |(go_at_call 70;refine (Ze _ 0 _ _).mono ?_;rintro e w1 ⟨rfl,hw⟩;obtain rfl:=hw.symm;rw [h2]))
       go_ret;exact ⟨by simp [Y8,bne,h1,h2,ht,h0,Ne.symm h0,hv,Ne.symm hv],hb0.out⟩
    ·skip
     by_cases h0:i7=0
     ·subst h0
      by_cases hv:i0=i5
      ·subst hv
       go_enter Tryz.func68,Tryz.ntmps68
       go_wp2_with (first
        |(go_at_call 70;clear g1;refine (Ze _ 0 3 _).mono ?_;rintro e w1 ⟨rfl,hw⟩;obtain rfl:=hw.symm;rw [h1])
        |(go_at_call 70;refine (Ze _ 0 _ _).mono ?_;rintro e w1 ⟨rfl,hw⟩;obtain rfl:=hw.symm;rw [h2]))
       go_ret;exact ⟨by simp [Y8,bne,h1,h2,ht],hb0.out⟩
      ·skip
       go_enter Tryz.func68,Tryz.ntmps68
       go_wp2_with (first
        |(go_at_call 70;clear g1;refine (Ze _ 0 3 _).mono ?_;rintro e w1 ⟨rfl,hw⟩;obtain rfl:=hw.symm;rw [h1])
        |(go_at_call 70;refine (Ze _ 0 _ _).mono ?_;rintro e w1 ⟨rfl,hw⟩;obtain rfl:=hw.symm;rw [h2]))
       go_ret;exact ⟨by simp [Y8,bne,h1,h2,ht,hv,Ne.symm hv],hb0.out⟩
     ·skip
      by_cases hv:i0=i5
      ·subst hv
       go_enter Tryz.func68,Tryz.ntmps68
       go_wp2_with (first
        |(go_at_call 70;clear g1;refine (Ze _ 0 3 _).mono ?_;rintro e w1 ⟨rfl,hw⟩;obtain rfl:=hw.symm;rw [h1])
        |(go_at_call 70;refine (Ze _ 0 _ _).mono ?_;rintro e w1 ⟨rfl,hw⟩;obtain rfl:=hw.symm;rw [h2]))
       go_ret;exact ⟨by simp [Y8,bne,h1,h2,ht,h0,Ne.symm h0],hb0.out⟩
      ·skip
       go_enter Tryz.func68,Tryz.ntmps68
       go_wp2_with (first
        |(go_at_call 70;clear g1;refine (Ze _ 0 3 _).mono ?_;rintro e w1 ⟨rfl,hw⟩;obtain rfl:=hw.symm;rw [h1])
        |(go_at_call 70;refine (Ze _ 0 _ _).mono ?_;rintro e w1 ⟨rfl,hw⟩;obtain rfl:=hw.symm;rw [h2]))
       go_ret;exact ⟨by simp [Y8,bne,h1,h2,ht,h0,Ne.symm h0,hv,Ne.symm hv],hb0.out⟩
   ·by_cases ht:0<i4
    ·skip
     by_cases hl:i0=i7
     ·subst hl
      by_cases hv:i0=i5
      ·subst hv
       go_enter Tryz.func68,Tryz.ntmps68
       go_wp2_with (first
        |(go_at_call 70;clear g1;refine (Ze _ 0 3 _).mono ?_;rintro e w1 ⟨rfl,hw⟩;obtain rfl:=hw.symm;rw [h1])
        |(go_at_call 70;refine (Ze _ 0 _ _).mono ?_;rintro e w1 ⟨rfl,hw⟩;obtain rfl:=hw.symm;rw [h2]))
       go_ret;exact ⟨by simp [Y8,bne,h1,h2,ht],hb0.out⟩
      ·skip
       go_enter Tryz.func68,Tryz.ntmps68
       go_wp2_with (first
        |(go_at_call 70;clear g1;refine (Ze _ 0 3 _).mono ?_;rintro e w1 ⟨rfl,hw⟩;obtain rfl:=hw.symm;rw [h1])
        |(go_at_call 70;refine (Ze _ 0 _ _).mono ?_;rintro e w1 ⟨rfl,hw⟩;obtain rfl:=hw.symm;rw [h2]))
       go_ret;exact ⟨by simp [Y8,bne,h1,h2,ht,hv,Ne.symm hv],hb0.out⟩
     ·skip
      by_cases hv:i0=i5
      ·subst hv
       go_enter Tryz.func68,Tryz.ntmps68
       go_wp2_with (first
        |(go_at_call 70;clear g1;refine (Ze _ 0 3 _).mono ?_;rintro e w1 ⟨rfl,hw⟩;obtain rfl:=hw.symm;rw [h1])
        |(go_at_call 70;refine (Ze _ 0 _ _).mono ?_;rintro e w1 ⟨rfl,hw⟩;obtain rfl:=hw.symm;rw [h2]))
       go_ret;exact ⟨by simp [Y8,bne,h1,h2,ht,hl,Ne.symm hl],hb0.out⟩
      ·skip
       go_enter Tryz.func68,Tryz.ntmps68
       go_wp2_with (first
        |(go_at_call 70;clear g1;refine (Ze _ 0 3 _).mono ?_;rintro e w1 ⟨rfl,hw⟩;obtain rfl:=hw.symm;rw [h1])
        |(go_at_call 70;refine (Ze _ 0 _ _).mono ?_;rintro e w1 ⟨rfl,hw⟩;obtain rfl:=hw.symm;rw [h2]))
       go_ret;exact ⟨by simp [Y8,bne,h1,h2,ht,hl,Ne.symm hl,hv,Ne.symm hv],hb0.out⟩
    ·skip
     by_cases hl:i0=i7
     ·subst hl
      by_cases hv:i0=i5
      ·subst hv
       go_enter Tryz.func68,Tryz.ntmps68
       go_wp2_with (first
        |(go_at_call 70;clear g1;refine (Ze _ 0 3 _).mono ?_;rintro e w1 ⟨rfl,hw⟩;obtain rfl:=hw.symm;rw [h1])
        |(go_at_call 70;refine (Ze _ 0 _ _).mono ?_;rintro e w1 ⟨rfl,hw⟩;obtain rfl:=hw.symm;rw [h2]))
       go_ret;exact ⟨by simp [Y8,bne,h1,h2,ht],hb0.out⟩
      ·skip
       go_enter Tryz.func68,Tryz.ntmps68
       go_wp2_with (first
        |(go_at_call 70;clear g1;refine (Ze _ 0 3 _).mono ?_;rintro e w1 ⟨rfl,hw⟩;obtain rfl:=hw.symm;rw [h1])
        |(go_at_call 70;refine (Ze _ 0 _ _).mono ?_;rintro e w1 ⟨rfl,hw⟩;obtain rfl:=hw.symm;rw [h2]))
       go_ret;exact ⟨by simp [Y8,bne,h1,h2,ht,hv,Ne.symm hv],hb0.out⟩
     ·skip
      by_cases hv:i0=i5
      ·subst hv
       go_enter Tryz.func68,Tryz.ntmps68
       go_wp2_with (first
        |(go_at_call 70;clear g1;refine (Ze _ 0 3 _).mono ?_;rintro e w1 ⟨rfl,hw⟩;obtain rfl:=hw.symm;rw [h1])
        |(go_at_call 70;refine (Ze _ 0 _ _).mono ?_;rintro e w1 ⟨rfl,hw⟩;obtain rfl:=hw.symm;rw [h2]))
       go_ret;exact ⟨by simp [Y8,bne,h1,h2,ht,hl,Ne.symm hl],hb0.out⟩
      ·skip
       go_enter Tryz.func68,Tryz.ntmps68
       go_wp2_with (first
        |(go_at_call 70;clear g1;refine (Ze _ 0 3 _).mono ?_;rintro e w1 ⟨rfl,hw⟩;obtain rfl:=hw.symm;rw [h1])
        |(go_at_call 70;refine (Ze _ 0 _ _).mono ?_;rintro e w1 ⟨rfl,hw⟩;obtain rfl:=hw.symm;rw [h2]))
       go_ret;exact ⟨by simp [Y8,bne,h1,h2,ht,hl,Ne.symm hl,hv,Ne.symm hv],hb0.out⟩
end Go.Proofs.YtmmpoppgabadmaaGreat
