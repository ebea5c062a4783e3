import Derived.Test.YtmmpoppgabadmaaGreatG16
set_option linter.unusedVariables false
set_option linter.unusedSimpArgs false
set_option maxRecDepth 100000
set_option maxHeartbeats 16000000
namespace Go.Proofs.YtmmpoppgabadmaaGreat
open Go.RowKit
theorem J1 (i0 i1 i2 i3 i4 i5 i6 i7 i8 i9 i10 i11:Int)(a12 a13 a14 a15 a16 a17:Option Addr)(cap12 cap13 cap14 cap15 cap16 cap17:Nat)(l12:List Ent)(l13 l14 l15 l16 l17:List Int)(w:World)(h14:Ix w (.slice a14 l14.length cap14) l14)(h15:Ix w (.slice a15 l15.length cap15) l15)(h16:Ix w (.slice a16 l16.length cap16) l16)(h17:Ix w (.slice a17 l17.length cap17) l17)(hs:0<=i1)(hs7:i1<=7)(hll:l12.length<=1048576)(z14:l14.length<=1048576)(z15:l15.length<=1048576)(z16:l16.length<=1048576)(z17:l17.length<=1048576):Calls Tryz.prog 60 #[.agg #[.int .i64 i0,.int .i64 i1,.int .i64 i2,.int .i64 i3,.int .i64 i4,.int .i64 i5,.int .i64 i6,.int .i64 i7,.int .i64 i8,.int .i64 i9,.int .i64 i10,.int .i64 i11,.slice a12 l12.length cap12,.slice a13 l13.length cap13,.slice a14 l14.length cap14,.slice a15 l15.length cap15,.slice a16 l16.length cap16,.slice a17 l17.length cap17]] w fun e w'=>e=.returned (.bool (Yw i6 i1 i0 l12.length i9 l14 l15 l16 l17))/\Below w.heap.size w w':=by
 have hb0:Hid (Below w.heap.size w (w.alloc (.cells #[.int .i64 i0,.int .i64 i1,.int .i64 i2,.int .i64 i3,.int .i64 i4,.int .i64 i5,.int .i64 i6,.int .i64 i7,.int .i64 i8,.int .i64 i9,.int .i64 i10,.int .i64 i11,.slice a12 l12.length cap12,.slice a13 l13.length cap13,.slice a14 l14.length cap14,.slice a15 l15.length cap15,.slice a16 l16.length cap16,.slice a17 l17.length cap17] 36))):=(Below.refl _ _).alloc (Nat.le_refl _) _;by_cases hro:i6=3
 case neg=>
  have nro:(i6 == 3)=false:=by simpa using hro
  have HL:Hid (Yw i6 i1 i0 l12.length i9 l14 l15 l16 l17=decide (l14.length+l15.length+l16.length+l17.length=0)):=(by simp only [Yw,hro,if_false];rw [Z10 _ _ _ _ _ _ _ _ _ (by simp),Bool.and_true,Bool.eq_iff_iff,Xz,decide_eq_true_eq];omega:Yw i6 i1 i0 l12.length i9 l14 l15 l16 l17=decide (l14.length+l15.length+l16.length+l17.length=0));clear hro h14 h15 h16 h17;go_enter Tryz.func60,Tryz.ntmps60;go_wp2;go_ret;refine ⟨?_,hb0.out⟩;rw [HL.out];show Ending.returned (.bool _)=_;congr 2;rw [Bool.eq_iff_iff,beq_iff_eq,decide_eq_true_eq];omega
 subst hro;have HL:Hid (Yw 3 i1 i0 l12.length i9 l14 l15 l16 l17=(Zy i1 [l14.length,l15.length,l16.length,l17.length] && Yt i0 l12.length i9 l14 l15 l16 l17 i1.toNat 0)):=(by simp [Yw]:Yw 3 i1 i0 l12.length i9 l14 l15 l16 l17=(Zy i1 [l14.length,l15.length,l16.length,l17.length] && Yt i0 l12.length i9 l14 l15 l16 l17 i1.toNat 0));by_cases p14:(l14.length:Int)=i1
 case neg=>
  have n14:((l14.length:Int) == i1)=false:=by simpa using p14
  have HN:Hid (Zy i1 [l14.length,l15.length,l16.length,l17.length]=false):=(by simp only [Zy,List.all_cons,n14,Bool.and_false,Bool.false_and]:Zy i1 [l14.length,l15.length,l16.length,l17.length]=false);clear p14 h14 h15 h16 h17;go_enter Tryz.func60,Tryz.ntmps60;go_wp2
  all_goals go_ret
  all_goals exact ⟨by rw [HL.out,HN.out];rfl,hb0.out⟩
 by_cases p15:(l15.length:Int)=i1
 case neg=>
  have n15:((l15.length:Int) == i1)=false:=by simpa using p15
  have HN:Hid (Zy i1 [l14.length,l15.length,l16.length,l17.length]=false):=(by simp only [Zy,List.all_cons,n15,Bool.and_false,Bool.false_and]:Zy i1 [l14.length,l15.length,l16.length,l17.length]=false);clear p15 h14 h15 h16 h17;go_enter Tryz.func60,Tryz.ntmps60;go_wp2
  all_goals go_ret
  all_goals exact ⟨by rw [HL.out,HN.out];rfl,hb0.out⟩
 by_cases p16:(l16.length:Int)=i1
 case neg=>
  have n16:((l16.length:Int) == i1)=false:=by simpa using p16
  have HN:Hid (Zy i1 [l14.length,l15.length,l16.length,l17.length]=false):=(by simp only [Zy,List.all_cons,n16,Bool.and_false,Bool.false_and]:Zy i1 [l14.length,l15.length,l16.length,l17.length]=false);clear p16 h14 h15 h16 h17;go_enter Tryz.func60,Tryz.ntmps60;go_wp2
  all_goals go_ret
  all_goals exact ⟨by rw [HL.out,HN.out];rfl,hb0.out⟩
 by_cases p17:(l17.length:Int)=i1
 case neg=>
  have n17:((l17.length:Int) == i1)=false:=by simpa using p17
  have HN:Hid (Zy i1 [l14.length,l15.length,l16.length,l17.length]=false):=(by simp only [Zy,List.all_cons,n17,Bool.and_false,Bool.false_and]:Zy i1 [l14.length,l15.length,l16.length,l17.length]=false);clear p17 h14 h15 h16 h17;go_enter Tryz.func60,Tryz.ntmps60;go_wp2
  all_goals go_ret
  all_goals exact ⟨by rw [HL.out,HN.out];rfl,hb0.out⟩
 rw [(Xz i1 _ _ _ _).2 ⟨p14,p15,p16,p17⟩,Bool.true_and] at HL;have q14:((l14.length:Int) == i1)=true:=by simpa using p14
 have q15:((l15.length:Int) == i1)=true:=by simpa using p15
 have q16:((l16.length:Int) == i1)=true:=by simpa using p16
 have q17:((l17.length:Int) == i1)=true:=by simpa using p17
 go_enter Tryz.func60,Tryz.ntmps60;go_wp2
 go_loopw [3] (fun i wr=>∃ k:Nat,(k:Int)<=i1/\i=.int .i64 ((k:Int)+1)/\Yt i0 l12.length i9 l14 l15 l16 l17 i1.toNat 0=Yt i0 l12.length i9 l14 l15 l16 l17 i1.toNat k/\Blk wr w.heap.size #[.int .i64 i0,.int .i64 i1,.int .i64 i2,.int .i64 i3,.int .i64 i4,.int .i64 i5,.int .i64 3,.int .i64 i7,.int .i64 i8,.int .i64 i9,.int .i64 i10,.int .i64 i11,.slice a12 l12.length cap12,.slice a13 l13.length cap13,.slice a14 l14.length cap14,.slice a15 l15.length cap15,.slice a16 l16.length cap16,.slice a17 l17.length cap17] 36/\Below w.heap.size w wr) (fun i _=>9-(intOf i).toNat)
 case atStart=>exact ⟨0,by omega,rfl,rfl,Blk.new _ _ _,(Below.refl _ _).alloc (Nat.le_refl _) _⟩
 case round=>
  obtain ⟨k,hk,rfl,hr,BA,hB⟩:=hrel;have HR:Hid (Yt i0 l12.length i9 l14 l15 l16 l17 i1.toNat 0=Yt i0 l12.length i9 l14 l15 l16 l17 i1.toNat k):=hr;have HBB:Hid _:=hB;have HA:Hid (Blk wr w.heap.size _ 36):=BA;have hz:=hB.size;have cA:=BA.cell;clear hr BA;by_cases hlt:(k:Int)<i1
  case neg=>
   clear h14 h15 h16 h17 hB;go_wp2;go_ret;exact ⟨by rw [HL.out,HR.out,Z10 _ _ _ _ _ _ _ _ _ (by omega)];rfl,HBB.out⟩
  have k14:k<l14.length:=by omega
  obtain ⟨_,x14,y14,ee14,hc14⟩:=h14;injection ee14 with f14 _ g14;subst f14 g14;obtain ⟨b14,off14,rfl,hj14⟩:=hc14 k k14;have c14:=(hB.cell (p:=⟨b14,off14+k,none⟩) (Xb (hj14 k k14))).trans (hj14 k k14);have s14:(k:Int)<(l14.length:Int):=by omega
  have k15:k<l15.length:=by omega
  obtain ⟨_,x15,y15,ee15,hc15⟩:=h15;injection ee15 with f15 _ g15;subst f15 g15;obtain ⟨b15,off15,rfl,hj15⟩:=hc15 k k15;have c15:=(hB.cell (p:=⟨b15,off15+k,none⟩) (Xb (hj15 k k15))).trans (hj15 k k15);have s15:(k:Int)<(l15.length:Int):=by omega
  have k16:k<l16.length:=by omega
  obtain ⟨_,x16,y16,ee16,hc16⟩:=h16;injection ee16 with f16 _ g16;subst f16 g16;obtain ⟨b16,off16,rfl,hj16⟩:=hc16 k k16;have c16:=(hB.cell (p:=⟨b16,off16+k,none⟩) (Xb (hj16 k k16))).trans (hj16 k k16);have s16:(k:Int)<(l16.length:Int):=by omega
  have k17:k<l17.length:=by omega
  obtain ⟨_,x17,y17,ee17,hc17⟩:=h17;injection ee17 with f17 _ g17;subst f17 g17;obtain ⟨b17,off17,rfl,hj17⟩:=hc17 k k17;have c17:=(hB.cell (p:=⟨b17,off17+k,none⟩) (Xb (hj17 k k17))).trans (hj17 k k17);have s17:(k:Int)<(l17.length:Int):=by omega
  have HD:Hid (Yt i0 l12.length i9 l14 l15 l16 l17 i1.toNat k=_):=Z1b i0 l12.length i9 l14 l15 l16 l17 i1.toNat k (by omega);simp only [List.getD_eq_getElem?_getD,List.getElem?_eq_getElem,k14,k15,k16,k17,Option.getD_some] at HD;clear hc14 hj14 hc15 hj15 hc16 hj16 hc17 hj17 hB;generalize l14[k]=v14 at *;generalize l15[k]=v15 at *;generalize l16[k]=v16 at *;generalize l17[k]=v17 at *;generalize hid:(k:Int)+1=id at *;have hwr:IntKind.i64.wrap (id-1)=(k:Int):=by rw [IntKind.wrap_i64];omega
  have hk0:(0:Int)<=(k:Int):=by omega
  have hle:id<=i1:=by omega
  have HI:Hid ((k:Int)+1=id):=hid;have hidb:id<=7/\1<=id:=by omega
  clear hid;by_cases he:id=i0
  ·subst he
   by_cases u14:v14=0
   case neg=>
    have nu14:(v14 != 0)=true:=by simpa using u14
    have HF:Hid (Yg id id l12.length i9 v14 v15 v16 v17=false):=(by simp [Yg,u14]:Yg id id l12.length i9 v14 v15 v16 v17=false);rw [HF.out] at HD
    go_wp2_with fail
    go_quiet (fail)
    go_wp2
    all_goals go_ret
    all_goals exact ⟨by rw [HL.out,HR.out,HD.out];rfl,HBB.out.trans ⟨rfl,rfl,rfl,Nat.le_refl _,fun _ _=>rfl⟩⟩
   subst u14;by_cases u15:v15=0
   case neg=>
    have nu15:(v15 != 0)=true:=by simpa using u15
    have HF:Hid (Yg id id l12.length i9 0 v15 v16 v17=false):=(by simp [Yg,u15]:Yg id id l12.length i9 0 v15 v16 v17=false);rw [HF.out] at HD
    go_wp2_with fail
    go_quiet (fail)
    go_wp2
    all_goals go_ret
    all_goals exact ⟨by rw [HL.out,HR.out,HD.out];rfl,HBB.out.trans ⟨rfl,rfl,rfl,Nat.le_refl _,fun _ _=>rfl⟩⟩
   subst u15;by_cases u16:v16=0
   case neg=>
    have nu16:(v16 != 0)=true:=by simpa using u16
    have HF:Hid (Yg id id l12.length i9 0 0 v16 v17=false):=(by simp [Yg,u16]:Yg id id l12.length i9 0 0 v16 v17=false);rw [HF.out] at HD
    go_wp2_with fail
    go_quiet (fail)
    go_wp2
    all_goals go_ret
    all_goals exact ⟨by rw [HL.out,HR.out,HD.out];rfl,HBB.out.trans ⟨rfl,rfl,rfl,Nat.le_refl _,fun _ _=>rfl⟩⟩
   subst u16;by_cases u17:v17=0
   case neg=>
    have nu17:(v17 != 0)=true:=by simpa using u17
    have HF:Hid (Yg id id l12.length i9 0 0 0 v17=false):=(by simp [Yg,u17]:Yg id id l12.length i9 0 0 0 v17=false);rw [HF.out] at HD
    go_wp2_with fail
    go_quiet (fail)
    go_wp2
    all_goals go_ret
    all_goals exact ⟨by rw [HL.out,HR.out,HD.out];rfl,HBB.out.trans ⟨rfl,rfl,rfl,Nat.le_refl _,fun _ _=>rfl⟩⟩
   subst u17;have HF:Hid (Yg id id l12.length i9 0 0 0 0=true):=(by simp [Yg]:Yg id id l12.length i9 0 0 0 0=true);rw [HF.out] at HD
   go_wp2_with fail
   go_quiet (fail)
   go_wp2
   go_roundw
   case rel=>exact ⟨k+1,by omega,by have:=HI.out;go_num,by rw [HR.out,HD.out];rfl,HA.out.keep rfl,HBB.out.trans ⟨rfl,rfl,rfl,Nat.le_refl _,fun _ _=>rfl⟩⟩
   case measure=>simp [intOf];omega
  have nid:(id == i0)=false:=by simpa using he
  have g1:True:=trivial;have g2:True:=trivial;have g3:True:=trivial;have g4:True:=trivial;cases t1:inB v14 1 (l12.length+1)
  ·have HF:Hid (Yg id i0 l12.length i9 v14 v15 v16 v17=false):=(by simp [Yg,he,t1]:Yg id i0 l12.length i9 v14 v15 v16 v17=false)
   rw [HF.out] at HD
   go_wp2_with fail
   go_quiet (fail)
   go_wp2_with (first
    |(go_at_call 56;clear g1;refine sw (Za v14 1 (l12.length+1) _) ?_;rw [t1]))
   all_goals go_ret
   all_goals exact ⟨by rw [HL.out,HR.out,HD.out];rfl,HBB.out.trans ⟨rfl,rfl,rfl,Nat.le_refl _,fun _ _=>rfl⟩⟩
  have r1:=(Zr _ _ _).1 t1;cases t2:inB v15 0 (v14-1)
  ·have HF:Hid (Yg id i0 l12.length i9 v14 v15 v16 v17=false):=(by simp [Yg,he,t2]:Yg id i0 l12.length i9 v14 v15 v16 v17=false)
   rw [HF.out] at HD
   go_wp2_with fail
   go_quiet (fail)
   go_wp2_with (first
    |(go_at_call 56;clear g1;refine sw (Za v14 1 (l12.length+1) _) ?_;rw [t1])
    |(go_at_call 56;clear g2;refine sw (Za v15 0 (v14-1) _) ?_;rw [t2]))
   all_goals go_ret
   all_goals exact ⟨by rw [HL.out,HR.out,HD.out];rfl,HBB.out.trans ⟨rfl,rfl,rfl,Nat.le_refl _,fun _ _=>rfl⟩⟩
  cases t3:inB v16 0 i9
  ·have HF:Hid (Yg id i0 l12.length i9 v14 v15 v16 v17=false):=(by simp [Yg,he,t3]:Yg id i0 l12.length i9 v14 v15 v16 v17=false)
   rw [HF.out] at HD
   go_wp2_with fail
   go_quiet (fail)
   go_wp2_with (first
    |(go_at_call 56;clear g1;refine sw (Za v14 1 (l12.length+1) _) ?_;rw [t1])
    |(go_at_call 56;clear g2;refine sw (Za v15 0 (v14-1) _) ?_;rw [t2])
    |(go_at_call 56;clear g3;refine sw (Za v16 0 i9 _) ?_;rw [t3]))
   all_goals go_ret
   all_goals exact ⟨by rw [HL.out,HR.out,HD.out];rfl,HBB.out.trans ⟨rfl,rfl,rfl,Nat.le_refl _,fun _ _=>rfl⟩⟩
  cases t4:inB v17 0 i9
  ·have HF:Hid (Yg id i0 l12.length i9 v14 v15 v16 v17=false):=(by simp [Yg,he,t4]:Yg id i0 l12.length i9 v14 v15 v16 v17=false)
   rw [HF.out] at HD
   go_wp2_with fail
   go_quiet (fail)
   go_wp2_with (first
    |(go_at_call 56;clear g1;refine sw (Za v14 1 (l12.length+1) _) ?_;rw [t1])
    |(go_at_call 56;clear g2;refine sw (Za v15 0 (v14-1) _) ?_;rw [t2])
    |(go_at_call 56;clear g3;refine sw (Za v16 0 i9 _) ?_;rw [t3])
    |(go_at_call 56;clear g4;refine sw (Za v17 0 i9 _) ?_;rw [t4]))
   all_goals go_ret
   all_goals exact ⟨by rw [HL.out,HR.out,HD.out];rfl,HBB.out.trans ⟨rfl,rfl,rfl,Nat.le_refl _,fun _ _=>rfl⟩⟩
  have HF:Hid (Yg id i0 l12.length i9 v14 v15 v16 v17=true):=(by simp [Yg,he,t1,t2,t3,t4]:Yg id i0 l12.length i9 v14 v15 v16 v17=true);rw [HF.out] at HD
  go_wp2_with fail
  go_quiet (fail)
  go_wp2_with (first
   |(go_at_call 56;clear g1;refine sw (Za v14 1 (l12.length+1) _) ?_;rw [t1])
   |(go_at_call 56;clear g2;refine sw (Za v15 0 (v14-1) _) ?_;rw [t2])
   |(go_at_call 56;clear g3;refine sw (Za v16 0 i9 _) ?_;rw [t3])
   |(go_at_call 56;clear g4;refine sw (Za v17 0 i9 _) ?_;rw [t4]))
  go_roundw
  case rel=>exact ⟨k+1,by omega,by have:=HI.out;go_num,by rw [HR.out,HD.out];rfl,HA.out.keep rfl,HBB.out.trans ⟨rfl,rfl,rfl,Nat.le_refl _,fun _ _=>rfl⟩⟩
  case measure=>simp [intOf];omega
end Go.Proofs.YtmmpoppgabadmaaGreat
