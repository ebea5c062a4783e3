import Derived.Test.YtmmpoppgabadmaaGreatG19
set_option linter.unusedVariables false
set_option linter.unusedSimpArgs false
set_option maxRecDepth 100000
set_option maxHeartbeats 16000000
namespace Go.Proofs.YtmmpoppgabadmaaGreat
open Go.RowKit
theorem sNodeFault_1p (i0 i1 i2 i3 i4 i5 i8 i9 i10 i11:Int)(a12 a13 a14 a15 a16 a17:Option Addr)(cap12 cap13 cap14 cap15 cap16 cap17:Nat)(l12:List Ent)(l13 l14 l15 l16 l17:List Int)(w:World)(h12:Es w (.slice a12 l12.length cap12) l12)(h13:Ix w (.slice a13 l13.length cap13) l13)(h14:Ix w (.slice a14 l14.length cap14) l14)(h15:Ix w (.slice a15 l15.length cap15) l15)(h16:Ix w (.slice a16 l16.length cap16) l16)(h17:Ix w (.slice a17 l17.length cap17) l17)(z12:l12.length<=1048576)(z13:l13.length<=1048576)(z14:l14.length<=1048576)(z15:l15.length<=1048576)(z16:l16.length<=1048576)(z17:l17.length<=1048576)(hpl:Y3 i0 i1 i2 i3=true)(hv:Yv i1 i4 i5=true)(hr:Y8 i0 i1 i4 i5 1 0=true)(hp:0<i4):Calls Tryz.prog 22 #[.agg #[.int .i64 i0,.int .i64 i1,.int .i64 i2,.int .i64 i3,.int .i64 i4,.int .i64 i5,.int .i64 1,.int .i64 0,.int .i64 i8,.int .i64 i9,.int .i64 i10,.int .i64 i11,.slice a12 l12.length cap12,.slice a13 l13.length cap13,.slice a14 l14.length cap14,.slice a15 l15.length cap15,.slice a16 l16.length cap16,.slice a17 l17.length cap17]] w fun e w'=>e=.returned (.int .i64 (Yu i0 i1 i2 i3 i4 i5 1 0 i8 i9 i10 i11 l12 l13 l14 l15 l16 l17))/\Below w.heap.size w w':=by
 obtain ⟨hsz,⟨hs3,hs7⟩,⟨hid1,hid2⟩,hel,hel'⟩:=Xd hpl;have H13:Hid (Ix w (.slice a13 l13.length cap13) l13):=h13;have H14:Hid (Ix w (.slice a14 l14.length cap14) l14):=h14;have H15:Hid (Ix w (.slice a15 l15.length cap15) l15):=h15;have H16:Hid (Ix w (.slice a16 l16.length cap16) l16):=h16;have H17:Hid (Ix w (.slice a17 l17.length cap17) l17):=h17;have H12:Hid (Es w (.slice a12 l12.length cap12) l12):=h12;clear h12 h13 h14 h15 h16 h17;have k1:inB i4 0 1073741824=true:=by simp only [Yv,Bool.and_eq_true] at hv;exact hv.1
 have k2:inB i5 0 i1=true:=by simp only [Yv,Bool.and_eq_true] at hv;exact hv.2.1
 have k4:inB 0 0 i1=true:=by simp only [Y8,Bool.and_eq_true] at hr;exact hr.2.1
 have HQ:Hid (Yu i0 i1 i2 i3 i4 i5 1 0 i8 i9 i10 i11 l12 l13 l14 l15 l16 l17=if (4096:Int)<l12.length then 4 else if Xc i4 1 l12=false then 4 else if inB i8 0 l12.length=false then 5 else if Ya i2 i9 i10 i11=false then 6 else if Yp 1 i1 i0 l13=false then 7 else if Yw 1 i1 i0 l12.length i9 l14 l15 l16 l17=false then 8 else 0):=(by simp only [Yu,hpl,hv,hr,Bool.true_eq_false,if_false]:Yu i0 i1 i2 i3 i4 i5 1 0 i8 i9 i10 i11 l12 l13 l14 l15 l16 l17=if (4096:Int)<l12.length then 4 else if Xc i4 1 l12=false then 4 else if inB i8 0 l12.length=false then 5 else if Ya i2 i9 i10 i11=false then 6 else if Yp 1 i1 i0 l13=false then 7 else if Yw 1 i1 i0 l12.length i9 l14 l15 l16 l17=false then 8 else 0);have nl:((0:Int) == i0)=false:=by simp;omega
 have nt:(i4 == 0)=false:=by simp;omega
 clear hv hr;have g1:True:=trivial;have g2:True:=trivial;have g3:True:=trivial;have g4:True:=trivial;have g5:True:=trivial;have g6:True:=trivial;have g7:True:=trivial;have g8:True:=trivial;have A0:Hid (Below w.heap.size w (w.alloc (.cells #[.int .i64 i0,.int .i64 i1,.int .i64 i2,.int .i64 i3,.int .i64 i4,.int .i64 i5,.int .i64 1,.int .i64 0,.int .i64 i8,.int .i64 i9,.int .i64 i10,.int .i64 i11,.slice a12 l12.length cap12,.slice a13 l13.length cap13,.slice a14 l14.length cap14,.slice a15 l15.length cap15,.slice a16 l16.length cap16,.slice a17 l17.length cap17] 36))):=(Below.refl _ _).alloc (Nat.le_refl _) _;cases q9:inB i9 0 1099511627776
 ·go_enter Tryz.func22,Tryz.ntmps22
  go_wp2_with (first
   |(go_at_call 58;refine sw (Zu _ _ _ _ _) ?_;rw [hpl])
   |(go_at_call 56;clear g1;refine sw (Za i4 0 1073741824 _) ?_;rw [k1])
   |(go_at_call 56;clear g2;refine sw (Za i5 0 i1 _) ?_;rw [k2])
   |(go_at_call 56;clear g3;refine sw (Za 1 0 3 _) ?_;rw [rb1])
   |(go_at_call 56;clear g4;refine sw (Za 0 0 i1 _) ?_;rw [k4])
   |(go_at_call 57;refine (Yf _ _ _ l12 _ (H12.out.below A0.out) z12).mono ?_;rintro e w1 ⟨rfl,hb1⟩;have hz1:w.heap.size<w1.heap.size:=(by have:=hb1.size;simp at this;omega);have BA:=(Blk.new w _ _).below hb1 (by simp);have HB:Hid (Below w.heap.size w w1):=((Below.refl _ _).alloc (Nat.le_refl _) _).trans (hb1.mono (by simp));have cA:=BA.cell;clear hb1)
   |(go_at_call 56;clear g5;refine sw (Za i8 0 l12.length _) ?_)
   |(go_at_call 56;clear g6;refine sw (Za i9 0 1099511627776 _) ?_;rw [q9]))
  all_goals go_ret
  all_goals refine ⟨Yj ?_,(by first | exact HB.out | exact A0.out)⟩
  all_goals rw [HQ.out]
  all_goals (try clear BA cA HB)
  all_goals (clear HQ A0 H12 H13 H14 H15 H16 H17;go_light;simp_all [Ya];try omega)
  all_goals
   rename_i h;intro hf;rcases h with h | h
   ·exfalso;omega
   ·rw [hf] at h;cases h
 ·have r9:=(Zr _ _ _).1 q9
  go_enter Tryz.func22,Tryz.ntmps22
  go_wp2_with (first
   |(go_at_call 58;refine sw (Zu _ _ _ _ _) ?_;rw [hpl])
   |(go_at_call 56;clear g1;refine sw (Za i4 0 1073741824 _) ?_;rw [k1])
   |(go_at_call 56;clear g2;refine sw (Za i5 0 i1 _) ?_;rw [k2])
   |(go_at_call 56;clear g3;refine sw (Za 1 0 3 _) ?_;rw [rb1])
   |(go_at_call 56;clear g4;refine sw (Za 0 0 i1 _) ?_;rw [k4])
   |(go_at_call 57;refine (Yf _ _ _ l12 _ (H12.out.below A0.out) z12).mono ?_;rintro e w1 ⟨rfl,hb1⟩;have hz1:w.heap.size<w1.heap.size:=(by have:=hb1.size;simp at this;omega);have BA:=(Blk.new w _ _).below hb1 (by simp);have HB:Hid (Below w.heap.size w w1):=((Below.refl _ _).alloc (Nat.le_refl _) _).trans (hb1.mono (by simp));have cA:=BA.cell;clear hb1)
   |(go_at_call 56;clear g5;refine sw (Za i8 0 l12.length _) ?_)
   |(go_at_call 56;clear g6;refine sw (Za i9 0 1099511627776 _) ?_;rw [q9])
   |(go_at_call 56;clear g7;refine sw (Za i10 0 (i9+2*i2) _) ?_)
   |(go_at_call 56;clear g8;refine sw (Za i11 0 i9 _) ?_)
   |(have hBA:=BA;refine Zw 36 (.tmp 1) rfl ?_;clear hBA;refine Zk rfl 36 (.tmp 1) rfl (w.heap.size) rfl BA Tryz.underlying36 rfl Xh rfl ?_)
   |(go_at_call 59;refine (Xk i0 i1 i2 i3 i4 i5 1 0 i8 i9 i10 i11 a12 a13 a14 a15 a16 a17 cap12 cap13 cap14 cap15 cap16 cap17 l12 l13 l14 l15 l16 l17 _ (H13.out.below HB.out) hsz).mono ?_;rintro e w2 ⟨rfl,hb2⟩;have hz2:w.heap.size<w2.heap.size:=(by have:=hb2.size;omega);replace BA:=BA.below hb2 (by omega);replace HB:Hid (Below w.heap.size w w2):=HB.out.trans (hb2.mono (by omega));clear cA;have cA:=BA.cell;clear hb2)
   |(go_at_call 60;refine (J1 i0 i1 i2 i3 i4 i5 1 0 i8 i9 i10 i11 a12 a13 a14 a15 a16 a17 cap12 cap13 cap14 cap15 cap16 cap17 l12 l13 l14 l15 l16 l17 _ (H14.out.below HB.out) (H15.out.below HB.out) (H16.out.below HB.out) (H17.out.below HB.out) (by omega) (by omega) z12 z14 z15 z16 z17).mono ?_;rintro e w3 ⟨rfl,hb3⟩;have hz3:w.heap.size<w3.heap.size:=(by have:=hb3.size;omega);replace BA:=BA.below hb3 (by omega);replace HB:Hid (Below w.heap.size w w3):=HB.out.trans (hb3.mono (by omega));clear cA;have cA:=BA.cell;clear hb3))
  all_goals go_ret
  all_goals refine ⟨Yj ?_,(by first | exact HB.out | exact A0.out)⟩
  all_goals rw [HQ.out]
  all_goals (try clear BA cA HB)
  all_goals (clear HQ A0 H12 H13 H14 H15 H16 H17;go_light;simp_all [Ya];try omega)
  all_goals
   rename_i h;intro hf;rcases h with h | h
   ·exfalso;omega
   ·rw [hf] at h;cases h
theorem sNodeFault_2 (i0 i1 i2 i3 i4 i8 i9 i10 i11:Int)(a12 a13 a14 a15 a16 a17:Option Addr)(cap12 cap13 cap14 cap15 cap16 cap17:Nat)(l12:List Ent)(l13 l14 l15 l16 l17:List Int)(w:World)(h12:Es w (.slice a12 l12.length cap12) l12)(h13:Ix w (.slice a13 l13.length cap13) l13)(h14:Ix w (.slice a14 l14.length cap14) l14)(h15:Ix w (.slice a15 l15.length cap15) l15)(h16:Ix w (.slice a16 l16.length cap16) l16)(h17:Ix w (.slice a17 l17.length cap17) l17)(z12:l12.length<=1048576)(z13:l13.length<=1048576)(z14:l14.length<=1048576)(z15:l15.length<=1048576)(z16:l16.length<=1048576)(z17:l17.length<=1048576)(hpl:Y3 i0 i1 i2 i3=true)(hv:Yv i1 i4 i0=true)(hr:Y8 i0 i1 i4 i0 2 0=true)(hp:0<i4):Calls Tryz.prog 22 #[.agg #[.int .i64 i0,.int .i64 i1,.int .i64 i2,.int .i64 i3,.int .i64 i4,.int .i64 i0,.int .i64 2,.int .i64 0,.int .i64 i8,.int .i64 i9,.int .i64 i10,.int .i64 i11,.slice a12 l12.length cap12,.slice a13 l13.length cap13,.slice a14 l14.length cap14,.slice a15 l15.length cap15,.slice a16 l16.length cap16,.slice a17 l17.length cap17]] w fun e w'=>e=.returned (.int .i64 (Yu i0 i1 i2 i3 i4 i0 2 0 i8 i9 i10 i11 l12 l13 l14 l15 l16 l17))/\Below w.heap.size w w':=by
 obtain ⟨hsz,⟨hs3,hs7⟩,⟨hid1,hid2⟩,hel,hel'⟩:=Xd hpl;have H13:Hid (Ix w (.slice a13 l13.length cap13) l13):=h13;have H14:Hid (Ix w (.slice a14 l14.length cap14) l14):=h14;have H15:Hid (Ix w (.slice a15 l15.length cap15) l15):=h15;have H16:Hid (Ix w (.slice a16 l16.length cap16) l16):=h16;have H17:Hid (Ix w (.slice a17 l17.length cap17) l17):=h17;have H12:Hid (Es w (.slice a12 l12.length cap12) l12):=h12;clear h12 h13 h14 h15 h16 h17;have k1:inB i4 0 1073741824=true:=by simp only [Yv,Bool.and_eq_true] at hv;exact hv.1
 have k2:inB i0 0 i1=true:=by simp only [Yv,Bool.and_eq_true] at hv;exact hv.2.1
 have k4:inB 0 0 i1=true:=by simp only [Y8,Bool.and_eq_true] at hr;exact hr.2.1
 have HQ:Hid (Yu i0 i1 i2 i3 i4 i0 2 0 i8 i9 i10 i11 l12 l13 l14 l15 l16 l17=if (4096:Int)<l12.length then 4 else if Xc i4 1 l12=false then 4 else if inB i8 0 l12.length=false then 5 else if Ya i2 i9 i10 i11=false then 6 else if Yp 2 i1 i0 l13=false then 7 else if Yw 2 i1 i0 l12.length i9 l14 l15 l16 l17=false then 8 else 0):=(by simp only [Yu,hpl,hv,hr,Bool.true_eq_false,if_false]:Yu i0 i1 i2 i3 i4 i0 2 0 i8 i9 i10 i11 l12 l13 l14 l15 l16 l17=if (4096:Int)<l12.length then 4 else if Xc i4 1 l12=false then 4 else if inB i8 0 l12.length=false then 5 else if Ya i2 i9 i10 i11=false then 6 else if Yp 2 i1 i0 l13=false then 7 else if Yw 2 i1 i0 l12.length i9 l14 l15 l16 l17=false then 8 else 0);have nl:((0:Int) == i0)=false:=by simp;omega
 have nt:(i4 == 0)=false:=by simp;omega
 clear hv hr;have g1:True:=trivial;have g2:True:=trivial;have g3:True:=trivial;have g4:True:=trivial;have g5:True:=trivial;have g6:True:=trivial;have g7:True:=trivial;have g8:True:=trivial;have A0:Hid (Below w.heap.size w (w.alloc (.cells #[.int .i64 i0,.int .i64 i1,.int .i64 i2,.int .i64 i3,.int .i64 i4,.int .i64 i0,.int .i64 2,.int .i64 0,.int .i64 i8,.int .i64 i9,.int .i64 i10,.int .i64 i11,.slice a12 l12.length cap12,.slice a13 l13.length cap13,.slice a14 l14.length cap14,.slice a15 l15.length cap15,.slice a16 l16.length cap16,.slice a17 l17.length cap17] 36))):=(Below.refl _ _).alloc (Nat.le_refl _) _;cases q9:inB i9 0 1099511627776
 ·go_enter Tryz.func22,Tryz.ntmps22
  go_wp2_with (first
   |(go_at_call 58;refine sw (Zu _ _ _ _ _) ?_;rw [hpl])
   |(go_at_call 56;clear g1;refine sw (Za i4 0 1073741824 _) ?_;rw [k1])
   |(go_at_call 56;clear g2;refine sw (Za i0 0 i1 _) ?_;rw [k2])
   |(go_at_call 56;clear g3;refine sw (Za 2 0 3 _) ?_;rw [rb2])
   |(go_at_call 56;clear g4;refine sw (Za 0 0 i1 _) ?_;rw [k4])
   |(go_at_call 57;refine (Yf _ _ _ l12 _ (H12.out.below A0.out) z12).mono ?_;rintro e w1 ⟨rfl,hb1⟩;have hz1:w.heap.size<w1.heap.size:=(by have:=hb1.size;simp at this;omega);have BA:=(Blk.new w _ _).below hb1 (by simp);have HB:Hid (Below w.heap.size w w1):=((Below.refl _ _).alloc (Nat.le_refl _) _).trans (hb1.mono (by simp));have cA:=BA.cell;clear hb1)
   |(go_at_call 56;clear g5;refine sw (Za i8 0 l12.length _) ?_)
   |(go_at_call 56;clear g6;refine sw (Za i9 0 1099511627776 _) ?_;rw [q9]))
  all_goals go_ret
  all_goals refine ⟨Yj ?_,(by first | exact HB.out | exact A0.out)⟩
  all_goals rw [HQ.out]
  all_goals (try clear BA cA HB)
  all_goals (clear HQ A0 H12 H13 H14 H15 H16 H17;go_light;simp_all [Ya];try omega)
  all_goals
   rename_i h;intro hf;rcases h with h | h
   ·exfalso;omega
   ·rw [hf] at h;cases h
 ·have r9:=(Zr _ _ _).1 q9
  go_enter Tryz.func22,Tryz.ntmps22
  go_wp2_with (first
   |(go_at_call 58;refine sw (Zu _ _ _ _ _) ?_;rw [hpl])
   |(go_at_call 56;clear g1;refine sw (Za i4 0 1073741824 _) ?_;rw [k1])
   |(go_at_call 56;clear g2;refine sw (Za i0 0 i1 _) ?_;rw [k2])
   |(go_at_call 56;clear g3;refine sw (Za 2 0 3 _) ?_;rw [rb2])
   |(go_at_call 56;clear g4;refine sw (Za 0 0 i1 _) ?_;rw [k4])
   |(go_at_call 57;refine (Yf _ _ _ l12 _ (H12.out.below A0.out) z12).mono ?_;rintro e w1 ⟨rfl,hb1⟩;have hz1:w.heap.size<w1.heap.size:=(by have:=hb1.size;simp at this;omega);have BA:=(Blk.new w _ _).below hb1 (by simp);have HB:Hid (Below w.heap.size w w1):=((Below.refl _ _).alloc (Nat.le_refl _) _).trans (hb1.mono (by simp));have cA:=BA.cell;clear hb1)
   |(go_at_call 56;clear g5;refine sw (Za i8 0 l12.length _) ?_)
   |(go_at_call 56;clear g6;refine sw (Za i9 0 1099511627776 _) ?_;rw [q9])
   |(go_at_call 56;clear g7;refine sw (Za i10 0 (i9+2*i2) _) ?_)
   |(go_at_call 56;clear g8;refine sw (Za i11 0 i9 _) ?_)
   |(have hBA:=BA;refine Zw 36 (.tmp 1) rfl ?_;clear hBA;refine Zk rfl 36 (.tmp 1) rfl (w.heap.size) rfl BA Tryz.underlying36 rfl Xh rfl ?_)
   |(go_at_call 59;refine (Xk i0 i1 i2 i3 i4 i0 2 0 i8 i9 i10 i11 a12 a13 a14 a15 a16 a17 cap12 cap13 cap14 cap15 cap16 cap17 l12 l13 l14 l15 l16 l17 _ (H13.out.below HB.out) hsz).mono ?_;rintro e w2 ⟨rfl,hb2⟩;have hz2:w.heap.size<w2.heap.size:=(by have:=hb2.size;omega);replace BA:=BA.below hb2 (by omega);replace HB:Hid (Below w.heap.size w w2):=HB.out.trans (hb2.mono (by omega));clear cA;have cA:=BA.cell;clear hb2)
   |(go_at_call 60;refine (J1 i0 i1 i2 i3 i4 i0 2 0 i8 i9 i10 i11 a12 a13 a14 a15 a16 a17 cap12 cap13 cap14 cap15 cap16 cap17 l12 l13 l14 l15 l16 l17 _ (H14.out.below HB.out) (H15.out.below HB.out) (H16.out.below HB.out) (H17.out.below HB.out) (by omega) (by omega) z12 z14 z15 z16 z17).mono ?_;rintro e w3 ⟨rfl,hb3⟩;have hz3:w.heap.size<w3.heap.size:=(by have:=hb3.size;omega);replace BA:=BA.below hb3 (by omega);replace HB:Hid (Below w.heap.size w w3):=HB.out.trans (hb3.mono (by omega));clear cA;have cA:=BA.cell;clear hb3))
  all_goals go_ret
  all_goals refine ⟨Yj ?_,(by first | exact HB.out | exact A0.out)⟩
  all_goals rw [HQ.out]
  all_goals (try clear BA cA HB)
  all_goals (clear HQ A0 H12 H13 H14 H15 H16 H17;go_light;simp_all [Ya];try omega)
  all_goals
   rename_i h;intro hf;rcases h with h | h
   ·exfalso;omega
   ·rw [hf] at h;cases h
end Go.Proofs.YtmmpoppgabadmaaGreat
