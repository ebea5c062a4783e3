import Derived.Deep.QuietTactic
import Derived.BigQuiet
import Derived.Test.YtmmpoppgabadmaaGreatG16
set_option linter.unusedVariables false
set_option linter.unusedSimpArgs false
set_option maxRecDepth 100000
set_option maxHeartbeats 16000000
namespace Go.Proofs.YtmmpoppgabadmaaGreat
open Go.RowKit
theorem Z2c (most:Int):∀(l:List Int) (last:Int),Yw most last l=true->last<=most->(l.length:Int)<=most-last
 | [],last,_,h=>by simp;omega
 | x :: l,last,h,hm=>by
  simp only [Yw,Bool.and_eq_true,Zs] at h;have:=Z2c most l x h.2 h.1.2;simp only [List.length_cons];omega
def Yp (ro sz id:Int)(l:List Int):Bool:=if ro≠1/\ro≠2 then (l.length:Int) == 0 else Yw sz 0 l && (hasB id l && !majB l.length sz)
theorem Z2t (i0 i1 i2 i3 i4 i5 i6 i7 i8 i9 i10 i11:Int)(a12 a13 a14 a15 a16 a17:Option Addr)(cap12 cap13 cap14 cap15 cap16 cap17:Nat)(l12:List Ent)(l13 l14 l15 l16 l17:List Int)(w:World)(h13:Ix w (.slice a13 l13.length cap13) l13)(hs:0<=i1)(hs7:i1<=7):Calls Tryz.prog 72 #[.agg #[.int .i64 i0,.int .i64 i1,.int .i64 i2,.int .i64 i3,.int .i64 i4,.int .i64 i5,.int .i64 i6,.int .i64 i7,.int .i64 i8,.int .i64 i9,.int .i64 i10,.int .i64 i11,.slice a12 l12.length cap12,.slice a13 l13.length cap13,.slice a14 l14.length cap14,.slice a15 l15.length cap15,.slice a16 l16.length cap16,.slice a17 l17.length cap17]] w fun e w'=>e=.returned (.bool (Yp i6 i1 i0 l13))/\Below w.heap.size w w':=by
 have hb0:Hid (Below w.heap.size w (w.alloc (.cells #[.int .i64 i0,.int .i64 i1,.int .i64 i2,.int .i64 i3,.int .i64 i4,.int .i64 i5,.int .i64 i6,.int .i64 i7,.int .i64 i8,.int .i64 i9,.int .i64 i10,.int .i64 i11,.slice a12 l12.length cap12,.slice a13 l13.length cap13,.slice a14 l14.length cap14,.slice a15 l15.length cap15,.slice a16 l16.length cap16,.slice a17 l17.length cap17] 36))):=(Below.refl _ _).alloc (Nat.le_refl _) _;have H13:Hid (Ix w (.slice a13 l13.length cap13) l13):=h13;replace h13:=h13.1;have hl:=h13;clear h13;unfold maxLen at hl;by_cases h12:i6≠1/\i6≠2
 ·obtain ⟨ha,hb⟩:=h12
  rw [show Yp i6 i1 i0 l13=((l13.length:Int) == 0) by simp [Yp,ha,hb]];have na:(i6 != 1)=true:=by simpa using ha
  have nb:(i6 != 2)=true:=by simpa using hb
  clear ha hb;go_enter Tryz.func72,Tryz.ntmps72;go_wp2;go_ret;exact ⟨rfl,hb0.out⟩
 rw [show Yp i6 i1 i0 l13=(Yw i1 0 l13 && (hasB i0 l13 && !majB l13.length i1)) by unfold Yp;rw [if_neg h12]];by_cases h1:i6=1
 ·subst h1
  clear h12;cases hr:Yw i1 0 l13
  ·go_enter Tryz.func72,Tryz.ntmps72
   go_wp2_with (go_at_call 110;refine sw (Xk _ l13 _ _ (H13.out.below hb0.out) hs (by omega)) ?_;rw [hr])
   go_ret;exact ⟨rfl,hb0.out⟩
  cases hc:hasB i0 l13
  ·go_enter Tryz.func72,Tryz.ntmps72
   go_wp2_with (first
    |(go_at_call 110;refine sw (Xk _ l13 _ _ (H13.out.below hb0.out) hs (by omega)) ?_;rw [hr])
    |(go_at_call 111;refine sw (Jl _ l13 _ _ (H13.out.below hb0.out)) ?_;rw [hc]))
   go_ret;exact ⟨rfl,hb0.out⟩
  ·go_enter Tryz.func72,Tryz.ntmps72
   go_wp2_with (first
    |(go_at_call 110;refine sw (Xk _ l13 _ _ (H13.out.below hb0.out) hs (by omega)) ?_;rw [hr])
    |(go_at_call 111;refine sw (Jl _ l13 _ _ (H13.out.below hb0.out)) ?_;rw [hc])
    |(go_at_call 112;refine sw (Jx _ _ hs hs7 _) ?_))
   go_ret;exact ⟨by simp,hb0.out⟩
 by_cases h2:i6=2
 ·subst h2
  clear h12;cases hr:Yw i1 0 l13
  ·go_enter Tryz.func72,Tryz.ntmps72
   go_wp2_with (go_at_call 110;refine sw (Xk _ l13 _ _ (H13.out.below hb0.out) hs (by omega)) ?_;rw [hr])
   go_ret;exact ⟨rfl,hb0.out⟩
  cases hc:hasB i0 l13
  ·go_enter Tryz.func72,Tryz.ntmps72
   go_wp2_with (first
    |(go_at_call 110;refine sw (Xk _ l13 _ _ (H13.out.below hb0.out) hs (by omega)) ?_;rw [hr])
    |(go_at_call 111;refine sw (Jl _ l13 _ _ (H13.out.below hb0.out)) ?_;rw [hc]))
   go_ret;exact ⟨rfl,hb0.out⟩
  ·go_enter Tryz.func72,Tryz.ntmps72
   go_wp2_with (first
    |(go_at_call 110;refine sw (Xk _ l13 _ _ (H13.out.below hb0.out) hs (by omega)) ?_;rw [hr])
    |(go_at_call 111;refine sw (Jl _ l13 _ _ (H13.out.below hb0.out)) ?_;rw [hc])
    |(go_at_call 112;refine sw (Jx _ _ hs hs7 _) ?_))
   go_ret;exact ⟨by simp,hb0.out⟩
 exact absurd ⟨h1,h2⟩ h12
theorem Xl (i0 i1 i2 i3 i4 i5 i6 i7 i8 i9 i10 i11:Int)(a12 a13 a14 a15 a16 a17:Option Addr)(cap12 cap13 cap14 cap15 cap16 cap17:Nat)(l12:List Ent)(l13 l14 l15 l16 l17:List Int)(w:World)(h13:Ix w (.slice a13 l13.length cap13) l13)(hs:sizB i1=true):Calls Tryz.prog 59 #[.agg #[.int .i64 i0,.int .i64 i1,.int .i64 i2,.int .i64 i3,.int .i64 i4,.int .i64 i5,.int .i64 i6,.int .i64 i7,.int .i64 i8,.int .i64 i9,.int .i64 i10,.int .i64 i11,.slice a12 l12.length cap12,.slice a13 l13.length cap13,.slice a14 l14.length cap14,.slice a15 l15.length cap15,.slice a16 l16.length cap16,.slice a17 l17.length cap17]] w fun e w'=>e=.returned (.bool (Yp i6 i1 i0 l13))/\Below w.heap.size w w':=by
 have hb0:Hid (Below w.heap.size w (w.alloc (.cells #[.int .i64 i0,.int .i64 i1,.int .i64 i2,.int .i64 i3,.int .i64 i4,.int .i64 i5,.int .i64 i6,.int .i64 i7,.int .i64 i8,.int .i64 i9,.int .i64 i10,.int .i64 i11,.slice a12 l12.length cap12,.slice a13 l13.length cap13,.slice a14 l14.length cap14,.slice a15 l15.length cap15,.slice a16 l16.length cap16,.slice a17 l17.length cap17] 36))):=(Below.refl _ _).alloc (Nat.le_refl _) _;have H13:Hid (Ix w (.slice a13 l13.length cap13) l13):=h13;have hs2:i1=3∨i1=5∨i1=7:=by simpa [sizB,or_assoc] using hs
 clear hs;have hodd:i1%2=1:=by omega
 obtain ⟨hl,a0,cap0,e0,hc⟩:=h13;injection e0 with e1 _ e3;subst e1 e3;unfold maxLen at hl;by_cases h12:i6≠1/\i6≠2
 ·obtain ⟨ha,hb⟩:=h12
  rw [show Yp i6 i1 i0 l13=((l13.length:Int) == 0) by simp [Yp,ha,hb]];have na:(i6 != 1)=true:=by simpa using ha
  have nb:(i6 != 2)=true:=by simpa using hb
  clear ha hb hc;go_enter Tryz.func59,Tryz.ntmps59;go_wp2;go_ret;exact ⟨rfl,hb0.out⟩
 rw [show Yp i6 i1 i0 l13=(Yw i1 0 l13 && (hasB i0 l13 && !majB l13.length i1)) by unfold Yp;rw [if_neg h12]];by_cases h1:i6=1
 ·subst h1
  clear h12;go_enter Tryz.func59,Tryz.ntmps59;go_wp2
  go_loopw [3] (fun i wr=>∃(k:Nat) (last:Int),k<=l13.length/\i=.int .i64 k/\(k=0->last=0)/\(∀(hk:0<k) (h':k-1<l13.length),last=l13[k-1])/\0<=last/\Yw i1 0 l13=Yw i1 last (l13.drop k)/\Blk wr w.heap.size #[.int .i64 i0,.int .i64 i1,.int .i64 i2,.int .i64 i3,.int .i64 i4,.int .i64 i5,.int .i64 1,.int .i64 i7,.int .i64 i8,.int .i64 i9,.int .i64 i10,.int .i64 i11,.slice a12 l12.length cap12,.slice a13 l13.length cap13,.slice a14 l14.length cap14,.slice a15 l15.length cap15,.slice a16 l16.length cap16,.slice a17 l17.length cap17] 36/\Below w.heap.size w wr) (fun i _=>l13.length-(intOf i).toNat)
  case atStart=>exact ⟨0,0,Nat.zero_le _,rfl,fun _=>rfl,fun h=>absurd h (by omega),by omega,by simp,Blk.new _ _ _,(Below.refl _ _).alloc (Nat.le_refl _) _⟩
  case round=>
   obtain ⟨k,last,hk,rfl,hz0,hp,h0,hr,BA,hB⟩:=hrel;have HR:Hid (Yw i1 0 l13=Yw i1 last (l13.drop k)):=hr;have hz:=hB.size;have cA:=BA.cell;have HA:Hid (Blk wr w.heap.size _ 36):=BA;have HBB:Hid _:=hB;clear hr BA;by_cases hlt:k<l13.length
   ·obtain ⟨b,off,rfl,hj⟩:=hc k hlt
    have hck:=(hB.cell (p:=⟨b,off+k,none⟩) (X7 (hj k hlt))).trans (hj k hlt);have HD:Hid (Yw i1 last (l13.drop k)=(inB l13[k] (last+1) i1 && Yw i1 l13[k] (l13.drop (k+1)))):=Z1f i1 last l13 k hlt;cases hi:inB l13[k] 1 i1
    ·have HL:Hid (∀ u:World,Calls Tryz.prog 56 #[.int .i64 l13[k],.int .i64 1,.int .i64 i1] u fun e w'=>e=.returned (.bool false)/\w'=u):=fun u=>by rw [<-hi];exact Z6 _ _ _ _
     have hno:inB l13[k] (last+1) i1=false:=by rw [Jt] at hi ⊢;omega
     rw [hno] at HD;clear hc hj hp hno hi hB;generalize l13[k]=y at *
     go_wp2_with fail
     go_quiet ((go_at_call 56;exact Calls.quiet_of_same (HL.out _)))
     go_wp2;go_ret;exact ⟨by rw [HR.out,HD.out];rfl,HBB.out.trans ⟨rfl,rfl,rfl,Nat.le_refl _,fun _ _=>rfl⟩⟩
    ·have HL:Hid (∀ u:World,Calls Tryz.prog 56 #[.int .i64 l13[k],.int .i64 1,.int .i64 i1] u fun e w'=>e=.returned (.bool true)/\w'=u):=fun u=>by rw [<-hi];exact Z6 _ _ _ _
     have hi2:=(Zs _ _ _).1 hi;by_cases hk0:k=0
     ·subst hk0
      obtain rfl:=hz0 rfl;rw [show inB l13[0] (0+1) i1=true by simpa using hi] at HD;clear hc hj hp hi hB hz0;simp only [Nat.add_zero] at hck;generalize hy:l13[0]=y at hck HD HL hi2;have HN:Hid (∀(hk:0<1) (h':1-1<l13.length),y=l13[1-1]):=fun _ _=>hy.symm
      clear hy
      go_wp2_with fail
      go_quiet ((go_at_call 56;exact Calls.quiet_of_same (HL.out _)))
      go_wp2
      go_roundw
      case rel=>exact ⟨1,y,by omega,by go_num,fun h=>absurd h (by omega),HN.out,by omega,by rw [HR.out,HD.out];rfl,HA.out.keep rfl,HBB.out.trans ⟨rfl,rfl,rfl,Nat.le_refl _,fun _ _=>rfl⟩⟩
      case measure=>simp [intOf];omega
     ·obtain ⟨j,rfl⟩:∃ j,k=j+1:=⟨k-1,by omega⟩
      have hjl:j<l13.length:=by omega
      have hcj:=(hB.cell (p:=⟨b,off+j,none⟩) (X7 (hj j hjl))).trans (hj j hjl);have hla:=hp (by omega) hjl;simp only [Nat.add_sub_cancel] at hla;by_cases hle:l13[j+1]<=l13[j]
      ·have hno:inB l13[j+1] (last+1) i1=false:=by rw [Jt];omega
       rw [hno] at HD;clear hc hj hp hi hB hz0 hno hla;generalize l13[j+1]=y at *;generalize l13[j]=x at *
       go_wp2_with fail
       go_quiet ((go_at_call 56;exact Calls.quiet_of_same (HL.out _)))
       go_wp2;go_ret;exact ⟨by rw [HR.out,HD.out];rfl,HBB.out.trans ⟨rfl,rfl,rfl,Nat.le_refl _,fun _ _=>rfl⟩⟩
      ·have hno:inB l13[j+1] (last+1) i1=true:=by rw [Zs];omega
       rw [hno] at HD;clear hc hj hp hi hB hz0 hno hla;generalize hy:l13[j+1]=y at hck HD HL hi2 hle;have HN:Hid (∀(hk:0<j+1+1) (h':j+1+1-1<l13.length),y=l13[j+1+1-1]):=fun _ _=>hy.symm
       clear hy;generalize l13[j]=x at hcj hle
       go_wp2_with fail
       go_quiet ((go_at_call 56;exact Calls.quiet_of_same (HL.out _)))
       go_wp2
       go_roundw
       case rel=>exact ⟨j+1+1,y,by omega,by go_num,fun h=>absurd h (by omega),HN.out,by omega,by rw [HR.out,HD.out];rfl,HA.out.keep rfl,HBB.out.trans ⟨rfl,rfl,rfl,Nat.le_refl _,fun _ _=>rfl⟩⟩
       case measure=>simp [intOf];omega
   ·have hd:l13.drop k = []:=List.drop_of_length_le (by omega)
    have HX:Hid (Ix wr (.slice a13 l13.length cap13) l13):=H13.out.below hB;have HT:Hid (Yw i1 0 l13=true):=(by rw [HR.out,hd];rfl:Yw i1 0 l13=true);have hlen:=Z2c i1 l13 0 HT.out (by omega);clear hc hp hd hB;cases hh:hasB i0 l13
    ·go_wp2_with (go_at_call 99;refine sw (Z13 _ l13 _ _ HX.out) ?_;rw [hh])
     go_ret;exact ⟨by rw [HT.out,hh];rfl,HBB.out⟩
    ·go_wp2_with (first
      |(go_at_call 99;refine sw (Z13 _ l13 _ _ HX.out) ?_;rw [hh])
      |(go_at_call 100;refine sw (Z01 _ _ hodd (by omega) (by omega) _) ?_))
     go_ret;exact ⟨by rw [HT.out,hh];simp,HBB.out⟩
 by_cases h2:i6=2
 ·subst h2
  clear h12;go_enter Tryz.func59,Tryz.ntmps59;go_wp2
  go_loopw [3] (fun i wr=>∃(k:Nat) (last:Int),k<=l13.length/\i=.int .i64 k/\(k=0->last=0)/\(∀(hk:0<k) (h':k-1<l13.length),last=l13[k-1])/\0<=last/\Yw i1 0 l13=Yw i1 last (l13.drop k)/\Blk wr w.heap.size #[.int .i64 i0,.int .i64 i1,.int .i64 i2,.int .i64 i3,.int .i64 i4,.int .i64 i5,.int .i64 2,.int .i64 i7,.int .i64 i8,.int .i64 i9,.int .i64 i10,.int .i64 i11,.slice a12 l12.length cap12,.slice a13 l13.length cap13,.slice a14 l14.length cap14,.slice a15 l15.length cap15,.slice a16 l16.length cap16,.slice a17 l17.length cap17] 36/\Below w.heap.size w wr) (fun i _=>l13.length-(intOf i).toNat)
  case atStart=>exact ⟨0,0,Nat.zero_le _,rfl,fun _=>rfl,fun h=>absurd h (by omega),by omega,by simp,Blk.new _ _ _,(Below.refl _ _).alloc (Nat.le_refl _) _⟩
  case round=>
   obtain ⟨k,last,hk,rfl,hz0,hp,h0,hr,BA,hB⟩:=hrel;have HR:Hid (Yw i1 0 l13=Yw i1 last (l13.drop k)):=hr;have hz:=hB.size;have cA:=BA.cell;have HA:Hid (Blk wr w.heap.size _ 36):=BA;have HBB:Hid _:=hB;clear hr BA;by_cases hlt:k<l13.length
   ·obtain ⟨b,off,rfl,hj⟩:=hc k hlt
    have hck:=(hB.cell (p:=⟨b,off+k,none⟩) (X7 (hj k hlt))).trans (hj k hlt);have HD:Hid (Yw i1 last (l13.drop k)=(inB l13[k] (last+1) i1 && Yw i1 l13[k] (l13.drop (k+1)))):=Z1f i1 last l13 k hlt;cases hi:inB l13[k] 1 i1
    ·have HL:Hid (∀ u:World,Calls Tryz.prog 56 #[.int .i64 l13[k],.int .i64 1,.int .i64 i1] u fun e w'=>e=.returned (.bool false)/\w'=u):=fun u=>by rw [<-hi];exact Z6 _ _ _ _
     have hno:inB l13[k] (last+1) i1=false:=by rw [Jt] at hi ⊢;omega
     rw [hno] at HD;clear hc hj hp hno hi hB;generalize l13[k]=y at *
     go_wp2_with fail
     go_quiet ((go_at_call 56;exact Calls.quiet_of_same (HL.out _)))
     go_wp2;go_ret;exact ⟨by rw [HR.out,HD.out];rfl,HBB.out.trans ⟨rfl,rfl,rfl,Nat.le_refl _,fun _ _=>rfl⟩⟩
    ·have HL:Hid (∀ u:World,Calls Tryz.prog 56 #[.int .i64 l13[k],.int .i64 1,.int .i64 i1] u fun e w'=>e=.returned (.bool true)/\w'=u):=fun u=>by rw [<-hi];exact Z6 _ _ _ _
     have hi2:=(Zs _ _ _).1 hi;by_cases hk0:k=0
     ·subst hk0
      obtain rfl:=hz0 rfl;rw [show inB l13[0] (0+1) i1=true by simpa using hi] at HD;clear hc hj hp hi hB hz0;simp only [Nat.add_zero] at hck;generalize hy:l13[0]=y at hck HD HL hi2;have HN:Hid (∀(hk:0<1) (h':1-1<l13.length),y=l13[1-1]):=fun _ _=>hy.symm
      clear hy
      go_wp2_with fail
      go_quiet ((go_at_call 56;exact Calls.quiet_of_same (HL.out _)))
      go_wp2
      go_roundw
      case rel=>exact ⟨1,y,by omega,by go_num,fun h=>absurd h (by omega),HN.out,by omega,by rw [HR.out,HD.out];rfl,HA.out.keep rfl,HBB.out.trans ⟨rfl,rfl,rfl,Nat.le_refl _,fun _ _=>rfl⟩⟩
      case measure=>simp [intOf];omega
     ·obtain ⟨j,rfl⟩:∃ j,k=j+1:=⟨k-1,by omega⟩
      have hjl:j<l13.length:=by omega
      have hcj:=(hB.cell (p:=⟨b,off+j,none⟩) (X7 (hj j hjl))).trans (hj j hjl);have hla:=hp (by omega) hjl;simp only [Nat.add_sub_cancel] at hla;by_cases hle:l13[j+1]<=l13[j]
      ·have hno:inB l13[j+1] (last+1) i1=false:=by rw [Jt];omega
       rw [hno] at HD;clear hc hj hp hi hB hz0 hno hla;generalize l13[j+1]=y at *;generalize l13[j]=x at *
       go_wp2_with fail
       go_quiet ((go_at_call 56;exact Calls.quiet_of_same (HL.out _)))
       go_wp2;go_ret;exact ⟨by rw [HR.out,HD.out];rfl,HBB.out.trans ⟨rfl,rfl,rfl,Nat.le_refl _,fun _ _=>rfl⟩⟩
      ·have hno:inB l13[j+1] (last+1) i1=true:=by rw [Zs];omega
       rw [hno] at HD;clear hc hj hp hi hB hz0 hno hla;generalize hy:l13[j+1]=y at hck HD HL hi2 hle;have HN:Hid (∀(hk:0<j+1+1) (h':j+1+1-1<l13.length),y=l13[j+1+1-1]):=fun _ _=>hy.symm
       clear hy;generalize l13[j]=x at hcj hle
       go_wp2_with fail
       go_quiet ((go_at_call 56;exact Calls.quiet_of_same (HL.out _)))
       go_wp2
       go_roundw
       case rel=>exact ⟨j+1+1,y,by omega,by go_num,fun h=>absurd h (by omega),HN.out,by omega,by rw [HR.out,HD.out];rfl,HA.out.keep rfl,HBB.out.trans ⟨rfl,rfl,rfl,Nat.le_refl _,fun _ _=>rfl⟩⟩
       case measure=>simp [intOf];omega
   ·have hd:l13.drop k = []:=List.drop_of_length_le (by omega)
    have HX:Hid (Ix wr (.slice a13 l13.length cap13) l13):=H13.out.below hB;have HT:Hid (Yw i1 0 l13=true):=(by rw [HR.out,hd];rfl:Yw i1 0 l13=true);have hlen:=Z2c i1 l13 0 HT.out (by omega);clear hc hp hd hB;cases hh:hasB i0 l13
    ·go_wp2_with (go_at_call 99;refine sw (Z13 _ l13 _ _ HX.out) ?_;rw [hh])
     go_ret;exact ⟨by rw [HT.out,hh];rfl,HBB.out⟩
    ·go_wp2_with (first
      |(go_at_call 99;refine sw (Z13 _ l13 _ _ HX.out) ?_;rw [hh])
      |(go_at_call 100;refine sw (Z01 _ _ hodd (by omega) (by omega) _) ?_))
     go_ret;exact ⟨by rw [HT.out,hh];simp,HBB.out⟩
 exact absurd ⟨h1,h2⟩ h12
theorem Xw:(Tryz.prog.info? 118).map (·.size)=some 7:=by kernel_rfl
theorem infoCmd6:(Tryz.prog.info? 44).map (·.size)=some 6:=by kernel_rfl
theorem Z0e (w:World)(e:Ent):Jc (w.alloc (.cells #[.int .i64 e.t,.int .i64 e.cl,.int .i64 e.sq,.int .i64 e.op,.string e.k,.string e.v,.string e.o] 118)) w.heap.size 0 e:=by
 unfold Jc;simp [World.cell?_alloc_new]
theorem Z12 {g:Nat} : ∀(vs:List Value) (o:Nat) (w:World),(w.setCells g o vs).heap.size=w.heap.size
 | [],_,_=>rfl
 | v :: vs,o,w=>(Z12 vs (o+1) _).trans (by simp [World.setCell])
theorem Z0m {g k:Nat}(h:k≠g):∀(vs:List Value) (o:Nat) (w:World),(w.setCells g o vs).heap[k]? = w.heap[k]?
 | [],_,_=>rfl
 | v :: vs,o,w=>(Z0m h vs (o+1) _).trans (Below.heap_setCell w ⟨g,o,none⟩ v k h)
theorem Z2k {w w':World}{g b o:Nat}{vs:List Value}(h:w.grownBy w' (some g))(hb:w.heap.size<=b):w.grownBy (w'.setCells b o vs) (some g):=by
 have hB:=Z0w (B:=b) (w0:=w') (Nat.le_refl _) vs o w' (Below.refl _ _);exact ⟨hB.os.trans h.os,hB.tape.trans h.tape,hB.output.trans h.output,Nat.le_trans h.size hB.size,fun k hk hne=>(hB.block k (by omega)).trans (h.block k hk hne)⟩
theorem srcCells {w:World}{g b:Nat}{v:Value}{l:List Int}{k:Nat}{t m1 m2 m3:Int}{m4 m5 m6:ByteArray}(h:Src w g v l k)(hb:Blk w b #[.int .i64 t,.int .i64 0,.int .i64 0,.int .i64 0,.string ⟨#[]⟩,.string ⟨#[]⟩,.string ⟨#[]⟩] 118)(hne:b≠g) :
  Src (w.setCells b 1 [.int .i64 m1,.int .i64 m2,.int .i64 m3,.string m4,.string m5,.string m6]) g v l k:=by
 have h1:=h.setB hb hne 1 (by simp) (Yl rfl) (.int .i64 m1);have b1:Blk _ b #[.int .i64 t,.int .i64 m1,.int .i64 0,.int .i64 0,.string ⟨#[]⟩,.string ⟨#[]⟩,.string ⟨#[]⟩] 118:=hb.set 1 (.int .i64 m1);have h2:=h1.setB b1 hne 2 (by simp) (Yl rfl) (.int .i64 m2);have b2:Blk _ b #[.int .i64 t,.int .i64 m1,.int .i64 m2,.int .i64 0,.string ⟨#[]⟩,.string ⟨#[]⟩,.string ⟨#[]⟩] 118:=b1.set 2 (.int .i64 m2);have h3:=h2.setB b2 hne 3 (by simp) (Yl rfl) (.int .i64 m3);have b3:Blk _ b #[.int .i64 t,.int .i64 m1,.int .i64 m2,.int .i64 m3,.string ⟨#[]⟩,.string ⟨#[]⟩,.string ⟨#[]⟩] 118:=b2.set 3 (.int .i64 m3);have h4:=h3.setB b3 hne 4 (by simp) (Yl rfl) (.string m4);have b4:Blk _ b #[.int .i64 t,.int .i64 m1,.int .i64 m2,.int .i64 m3,.string m4,.string ⟨#[]⟩,.string ⟨#[]⟩] 118:=b3.set 4 (.string m4);have h5:=h4.setB b4 hne 5 (by simp) (Yl rfl) (.string m5);have b5:Blk _ b #[.int .i64 t,.int .i64 m1,.int .i64 m2,.int .i64 m3,.string m4,.string m5,.string ⟨#[]⟩] 118:=b4.set 5 (.string m5);exact h5.setB b5 hne 6 (by simp) (Yl rfl) (.string m6)
theorem Z15 {w0 w w' wo:World}{g:Nat}{v:Value}{l:List Int}{k:Nat}{u u':Value}{E:List Ent}(h:Src w g v l k)(h0:Bs w0 v l)(hw:w0.heap.size<=w.heap.size)(hg:Xa w u w' u')(ho:Zp wo w0.heap.size u E)(hg0:g<w0.heap.size):Src w' g v l k:=by
 have hb:Below w0.heap.size w w':=(Below.refl _ _).grown hg.g hw (fun k hk=>(ho.2.lt k hk).1);obtain ⟨h1,h2,⟨hl,h8,a,cap,rfl,hc⟩,h4,h5⟩:=h;obtain ⟨_,_,a',cap',e,hc0⟩:=h0;injection e with e1 e2 e3;subst e1 e3;refine ⟨Nat.lt_of_lt_of_le h1 hb.size,fun i=>by rw [hb.frozen (p:=⟨g,i,none⟩) hg0];exact h2 i,⟨hl,h8,a,cap,rfl,fun i hi=>?_⟩,(hb.cell (p:=⟨g,0,none⟩) hg0).trans h4,(hb.cell (p:=⟨g,1,none⟩) hg0).trans h5⟩;obtain ⟨b,off,rfl,hj⟩:=hc i hi;obtain ⟨b',off',e',hj'⟩:=hc0 i hi;injection e' with e';injection e' with e1' e2';subst e1' e2';exact ⟨b,off,rfl,fun m hm=>(hb.cell (p:=⟨b,off+m,none⟩) (X7 (hj' m hm))).trans (hj m hm)⟩
theorem Z14 {w w1 w':World}{g:Nat}{v v':Value}{l:List Ent}{wo:World}(h:w.grownBy w1 (some g))(hg:Xa w1 v w' v')(ho:Zp wo w.heap.size v l):w.grownBy w' (some g):=
 ⟨hg.g.os.trans h.os,hg.g.tape.trans h.tape,hg.g.output.trans h.output,Nat.le_trans h.size hg.g.size,fun k hk hne=>(hg.g.block k (Nat.lt_of_lt_of_le hk h.size) (fun e=>by have:=(ho.2.lt k e.symm).1;omega)).trans (h.block k hk hne)⟩
def entT (l:List Int)(k:Nat)(t:Int):Int:=if Z4 l k 5=0/\t<1073741824 then t+1 else t
def entE (l:List Int)(k:Nat)(t:Int):Ent:=if Z4 l (k+1) 6=0 then ⟨entT l k t,0,0,0,⟨#[]⟩,⟨#[]⟩,⟨#[]⟩⟩ else ⟨entT l k t,cmdCl l (k+1+1),Z04 l (k+1+1),J0 l (k+1+1),Z1c l (k+1+1),J6 l (k+1+1),J5 l (k+1+1)⟩
def Z1b (l:List Int)(k:Nat):Nat:=if Z4 l (k+1) 6=0 then k+1+1 else Z0h l (k+1+1)
def Yb (l:List Int)(k:Nat)(t:Int):Nat->List Ent×Nat×Int
 | 0=>([],k,t)
 | n+1=>((Yb l k t n).1 ++ [entE l (Yb l k t n).2.1 (Yb l k t n).2.2],Z1b l (Yb l k t n).2.1,entT l (Yb l k t n).2.1 (Yb l k t n).2.2)
theorem Z0d (l:List Int)(k:Nat)(t:Int)(n:Nat):(Yb l k t n).1.length=n:=by
 induction n with
 | zero=>rfl
 | succ n ih=>rw [Yb,List.length_append,ih];rfl
theorem entKn_le (l:List Int)(k:Nat):k<Z1b l k/\Z1b l k<=k+16:=by
 have:=cmdK_le l (k+1+1);unfold Z1b;split <;> omega
theorem entsD_k (l:List Int)(k:Nat)(t:Int)(n:Nat):k<=(Yb l k t n).2.1/\(Yb l k t n).2.1<=k+16*n:=by
 induction n with
 | zero=>exact ⟨Nat.le_refl _,Nat.le_refl _⟩
 | succ n ih=>
  have:=entKn_le l (Yb l k t n).2.1;rw [Yb];exact ⟨by show k<=Z1b l _;omega,by show Z1b l _<=_;omega⟩
theorem entT_le (l:List Int)(k:Nat)(t:Int)(h0:0<=t)(h1:t<=1073741824):t<=entT l k t/\entT l k t<=1073741824:=by
 unfold entT;split <;> omega
theorem entsD_t (l:List Int)(k:Nat)(t:Int)(n:Nat)(h0:0<=t)(h1:t<=1073741824):t<=(Yb l k t n).2.2/\(Yb l k t n).2.2<=1073741824:=by
 induction n with
 | zero=>exact ⟨Int.le_refl _,h1⟩
 | succ n ih=>
  have:=entT_le l (Yb l k t n).2.1 (Yb l k t n).2.2 (by omega) ih.2;rw [Yb];exact ⟨Int.le_trans ih.1 this.1,this.2⟩
theorem entE_fits (l:List Int)(k:Nat)(t:Int):(entE l k t).fits:=by
 have h:=cmd_facts l (k+1+1);unfold entE;split
 ·exact ⟨(by decide:(⟨#[]⟩:ByteArray).size<=maxLen),(by decide:(⟨#[]⟩:ByteArray).size<=maxLen),(by decide:(⟨#[]⟩:ByteArray).size<=maxLen)⟩
 ·obtain ⟨_,_,_,_,_,_,_,h1,h2⟩:=h
  unfold Ent.fits maxLen;dsimp only;omega
theorem Z1w (g:Nat)(w:World)(v:Value)(l:List Int)(k n:Nat)(t:Int)(hL:l.length<=1048576)(hk:k<=600000000)(hn:n<=100000)(ht:0<=t/\t<=1073741824)(h:Src w g v l k) :
  Calls Tryz.prog 96 #[.pointer (some ⟨g,0,none⟩),.int .i64 n,.int .i64 t] w fun r w'=>∃ ev,r=.returned ev/\Zp w' w.heap.size ev (Yb l k t n).1/\Src w' g v l (Yb l k t n).2.1/\w.grownBy w' (some g):=by
 have HS:Hid (Src w g v l k):=h;have hg0:g<w.heap.size:=h.lt;clear h;go_enter Tryz.func96,Tryz.ntmps96;go_wp2
 go_loopw [2,7,8] (fun t2 es i wr=>∃ j:Nat,j<=n/\i=.int .i64 j/\t2=.int .i64 (Yb l k t j).2.2/\Zp wr w.heap.size es (Yb l k t j).1/\Src wr g v l (Yb l k t j).2.1/\w.grownBy wr (some g)) (fun _ _ i _=>n-(intOf i).toNat)
 case atStart=>exact ⟨0,Nat.zero_le _,rfl,rfl,Zp.made _ _ (Nat.le_refl _),HS.out.below ((Below.refl _ _).alloc (Nat.le_refl _) _),World.grownBy_alloc _ _ _⟩
 case round=>
  obtain ⟨j,hj,rfl,rfl,ho,hs,hgr⟩:=hrel;obtain ⟨la,lc,es⟩:=ho.shape;rw [Z0d] at es;subst es;have hkk:=entsD_k l k t j;have htt:=entsD_t l k t j ht.1 ht.2;have hz:=hgr.size;by_cases hlt:j<n
  ·have hD:Yb l k t (j+1)=((Yb l k t j).1 ++ [entE l (Yb l k t j).2.1 (Yb l k t j).2.2],Z1b l (Yb l k t j).2.1,entT l (Yb l k t j).2.1 (Yb l k t j).2.2):=rfl
   have hlen:=Z0d l k t j;generalize (Yb l k t j).1=L at *;generalize (Yb l k t j).2.1=K at *;generalize (Yb l k t j).2.2=TT at *;have HO:Hid (Zp wr w.heap.size (.slice la j lc) L):=ho;have HGR:Hid (w.grownBy wr (some g)):=hgr;have HD:Hid (Yb l k t (j+1)=(L ++ [entE l K TT],Z1b l K,entT l K TT)):=hD;have HLen:Hid (L.length=j):=hlen;have hfit:=entE_fits l K TT;have HP5:Hid (Calls Tryz.prog 53 #[.pointer (some ⟨g,0,none⟩),.int .i64 5] wr fun e w'=>e=.returned (.int .i64 (Z4 l K 5:Nat))/\Src w' g v l (K+1)/\wr.grownBy w' (some g)):=Zq g wr v l K 5 hL (by omega) (by decide) (by decide) hs;have HP6:∀ u:World,Src u g v l (K+1)->Hid (Calls Tryz.prog 53 #[.pointer (some ⟨g,0,none⟩),.int .i64 6] u fun e w'=>e=.returned (.int .i64 (Z4 l (K+1) 6:Nat))/\Src w' g v l (K+1+1)/\u.grownBy w' (some g)):=fun u h=>Zq g u v l (K+1) 6 hL (by omega) (by decide) (by decide) h
   have HCm:∀ u:World,Src u g v l (K+1+1)->Hid (Calls Tryz.prog 105 #[.pointer (some ⟨g,0,none⟩)] u fun r w'=>r=.returned (.agg #[.int .i64 (cmdCl l (K+1+1)),.int .i64 (Z04 l (K+1+1)),.int .i64 (J0 l (K+1+1)),.string (Z1c l (K+1+1)),.string (J6 l (K+1+1)),.string (J5 l (K+1+1))])/\Src w' g v l (Z0h l (K+1+1))/\u.grownBy w' (some g)):=fun u h=>l1drawCmd_any g u v l (K+1+1) hL (by omega) h
   have hT5:entT l K TT=if Z4 l K 5=0/\TT<1073741824 then TT+1 else TT:=rfl
   have hE6:entE l K TT=if Z4 l (K+1) 6=0 then ⟨entT l K TT,0,0,0,⟨#[]⟩,⟨#[]⟩,⟨#[]⟩⟩ else ⟨entT l K TT,cmdCl l (K+1+1),Z04 l (K+1+1),J0 l (K+1+1),Z1c l (K+1+1),J6 l (K+1+1),J5 l (K+1+1)⟩:=rfl
   have hK6:Z1b l K=if Z4 l (K+1) 6=0 then K+1+1 else Z0h l (K+1+1):=rfl
   have b5:=Zi l K 5 (by decide);have b6:=Zi l (K+1) 6 (by decide);generalize entE l K TT=E at *;generalize Z1b l K=KN at *;generalize entT l K TT=TN at *;generalize Z4 l K 5=p5 at *;generalize Z4 l (K+1) 6=p6 at *;generalize cmdCl l (K+1+1)=m1 at *;generalize Z04 l (K+1+1)=m2 at *;generalize J0 l (K+1+1)=m3 at *;generalize Z1c l (K+1+1)=m4 at *;generalize J6 l (K+1+1)=m5 at *;generalize J5 l (K+1+1)=m6 at *;generalize Z0h l (K+1+1)=KC at *;have hjn:(j:Int)<(n:Int):=by omega
   have y1:True:=trivial;clear ho hs hgr hD hlen;rcases (show (p5≠0∨¬ TT<1073741824)∨(p5=0/\TT<1073741824) by omega) with h5 | ⟨h5,h5'⟩
   ·obtain rfl:TN=TT:=by rw [hT5,if_neg (by omega)]
    rcases (show p5≠0∨(p5=0/\¬ TN<1073741824) by omega) with h5 | ⟨rfl,h5⟩
    ·have n5:((p5:Int) == 0)=false:=by rw [beq_eq_false_iff_ne];omega
     clear hT5;by_cases h6:p6=0
     ·subst h6
      have HE:Hid (E=⟨TN,0,0,0,⟨#[]⟩,⟨#[]⟩,⟨#[]⟩⟩):=(show E=⟨TN,0,0,0,⟨#[]⟩,⟨#[]⟩,⟨#[]⟩⟩ by rw [hE6,if_pos rfl]);obtain rfl:KN=K+1+1:=by rw [hK6,if_pos rfl]
      clear hE6 hK6
      go_wp2_with (first
       |(go_at_call 53;clear y1;refine Calls.mono HP5.out ?_;rintro e w1 ⟨rfl,hs1,hg1⟩;have z1:=hg1.size;have HS1:Hid (Src w1 g v l (K+1)):=hs1;have HG1:Hid (w.grownBy w1 (some g)):=Z8 HGR.out hg1;have HO1:Hid (Zp w1 w.heap.size (.slice la j lc) L):=HO.out.grown hg1 hg0;clear hs1 hg1)
       |(have hBA:=HS1;refine Y6 118 (.tmp 9) _ rfl ?_;clear hBA;refine Y1 rfl 118 (.tmp 9) _ rfl (w1.heap.size) rfl rfl rfl Xw rfl rfl (by simp [Value.oneCell']) ?_;obtain ⟨W2,hW2⟩:∃ W2,W2=w1.alloc (.cells #[.int .i64 TN,.int .i64 0,.int .i64 0,.int .i64 0,.string ⟨#[]⟩,.string ⟨#[]⟩,.string ⟨#[]⟩] 118):=⟨_,rfl⟩;rw [<-hW2];have HS2:Hid (Src W2 g v l (K+1)):=(by rw [hW2];exact HS1.out.alloc _);have HE2:Hid (Blk W2 w1.heap.size #[.int .i64 TN,.int .i64 0,.int .i64 0,.int .i64 0,.string ⟨#[]⟩,.string ⟨#[]⟩,.string ⟨#[]⟩] 118):=(by rw [hW2];exact Blk.new _ _ _);have HG2:Hid (w.grownBy W2 (some g)):=(by rw [hW2];exact Z8 HG1.out (World.grownBy_alloc _ _ _));have HO2:Hid (Zp W2 w.heap.size (.slice la j lc) L):=(by rw [hW2];exact HO1.out.below ((Below.refl _ _).alloc (Nat.le_refl _) _));have hol:Hid (∀ q,(Value.slice la j lc).ownBlock=some q->q<w1.heap.size):=(fun q hq=>(HO1.out.2.lt q hq).2);clear hW2)
       |(go_at_call 53;refine Calls.mono (HP6 _ HS2.out).out ?_;rintro e w3 ⟨rfl,hs3,hg3⟩;have z3:=hg3.size;have z2:=HE2.out.lt;have HS3:Hid (Src w3 g v l (K+1+1)):=hs3;have HE3:Hid (Blk w3 w1.heap.size _ 118):=HE2.out.grown hg3 (by omega);have HG3:Hid (w.grownBy w3 (some g)):=Z8 HG2.out hg3;have HO3:Hid (Zp w3 w.heap.size (.slice la j lc) L):=HO2.out.grown hg3 hg0;clear hs3 hg3)
       |(have hBA:=HE3;refine Zx 118 (.tmp 9) rfl ?_;clear hBA;refine Zk rfl 118 (.tmp 9) rfl (w1.heap.size) rfl HE3.out Tryz.underlying118 rfl Xw rfl ?_;have HEA:Hid (Jc (w3.alloc (.cells #[.int .i64 TN,.int .i64 0,.int .i64 0,.int .i64 0,.string ⟨#[]⟩,.string ⟨#[]⟩,.string ⟨#[]⟩] 118)) w3.heap.size 0 E):=(by rw [HE.out];exact Z0e w3 ⟨TN,0,0,0,⟨#[]⟩,⟨#[]⟩,⟨#[]⟩⟩))
       |(at_builtin;refine Xs rfl (.tmp 33) (.tmp 35) rfl E hfit (Zp.below HO3.out ((Below.refl _ _).alloc (Nat.le_refl _) _)) rfl w3.heap.size 1 HEA.out rfl (by rw [HLen.out];omega) (by have hzz:=HG3.out.size;simp;omega) ?_;intro v1 w9 ho9 hg9;have HO9:Hid (Zp w9 w.heap.size v1 (L ++ [E])):=ho9;have HS9:Hid (Src w9 g v l (K+1+1)):=Z15 (HS3.out.alloc _) HS.out.2.2.1 (by have hzz:=HG3.out.size;simp;omega) hg9 HO3.out hg0;have HG9:Hid (w.grownBy w9 (some g)):=Z14 (Z8 HG3.out (World.grownBy_alloc _ _ _)) hg9 HO3.out;clear ho9 hg9))
      go_roundw
      case rel=>exact ⟨j+1,by omega,by go_num,by rw [HD.out],by rw [HD.out];exact HO9.out,by rw [HD.out];exact HS9.out,HG9.out⟩
      case measure=>simp [intOf];omega
     ·have n6:((p6:Int) != 0)=true:=by rw [bne_iff_ne];omega
      have HE:Hid (E=⟨TN,m1,m2,m3,m4,m5,m6⟩):=(show E=⟨TN,m1,m2,m3,m4,m5,m6⟩ by rw [hE6,if_neg h6]);obtain rfl:KN=KC:=by rw [hK6,if_neg h6]
      clear hE6 hK6
      go_wp2_with (first
       |(go_at_call 53;clear y1;refine Calls.mono HP5.out ?_;rintro e w1 ⟨rfl,hs1,hg1⟩;have z1:=hg1.size;have HS1:Hid (Src w1 g v l (K+1)):=hs1;have HG1:Hid (w.grownBy w1 (some g)):=Z8 HGR.out hg1;have HO1:Hid (Zp w1 w.heap.size (.slice la j lc) L):=HO.out.grown hg1 hg0;clear hs1 hg1)
       |(have hBA:=HS1;refine Y6 118 (.tmp 9) _ rfl ?_;clear hBA;refine Y1 rfl 118 (.tmp 9) _ rfl (w1.heap.size) rfl rfl rfl Xw rfl rfl (by simp [Value.oneCell']) ?_;obtain ⟨W2,hW2⟩:∃ W2,W2=w1.alloc (.cells #[.int .i64 TN,.int .i64 0,.int .i64 0,.int .i64 0,.string ⟨#[]⟩,.string ⟨#[]⟩,.string ⟨#[]⟩] 118):=⟨_,rfl⟩;rw [<-hW2];have HS2:Hid (Src W2 g v l (K+1)):=(by rw [hW2];exact HS1.out.alloc _);have HE2:Hid (Blk W2 w1.heap.size #[.int .i64 TN,.int .i64 0,.int .i64 0,.int .i64 0,.string ⟨#[]⟩,.string ⟨#[]⟩,.string ⟨#[]⟩] 118):=(by rw [hW2];exact Blk.new _ _ _);have HG2:Hid (w.grownBy W2 (some g)):=(by rw [hW2];exact Z8 HG1.out (World.grownBy_alloc _ _ _));have HO2:Hid (Zp W2 w.heap.size (.slice la j lc) L):=(by rw [hW2];exact HO1.out.below ((Below.refl _ _).alloc (Nat.le_refl _) _));have hol:Hid (∀ q,(Value.slice la j lc).ownBlock=some q->q<w1.heap.size):=(fun q hq=>(HO1.out.2.lt q hq).2);clear hW2)
       |(go_at_call 53;refine Calls.mono (HP6 _ HS2.out).out ?_;rintro e w3 ⟨rfl,hs3,hg3⟩;have z3:=hg3.size;have z2:=HE2.out.lt;have HS3:Hid (Src w3 g v l (K+1+1)):=hs3;have HE3:Hid (Blk w3 w1.heap.size _ 118):=HE2.out.grown hg3 (by omega);have HG3:Hid (w.grownBy w3 (some g)):=Z8 HG2.out hg3;have HO3:Hid (Zp w3 w.heap.size (.slice la j lc) L):=HO2.out.grown hg3 hg0;clear hs3 hg3)
       |(go_at_call 105;refine Calls.mono (HCm _ HS3.out).out ?_;rintro e w4 ⟨rfl,hs4,hg4⟩;have z4:=hg4.size;have z4b:=HE3.out.lt;have HS4:Hid (Src w4 g v l KN):=hs4;have HE4:Hid (Blk w4 w1.heap.size _ 118):=HE3.out.grown hg4 (by omega);have HG4:Hid (w.grownBy w4 (some g)):=Z8 HG3.out hg4;have HO4:Hid (Zp w4 w.heap.size (.slice la j lc) L):=HO3.out.grown hg4 hg0;have hTh:Hid (w4.there w1.heap.size 1 6):=Z1g HE4.out.there 1 6 (by simp);clear hs4 hg4)
       |(have hBA:=HE4;refine Z1l 44 (.tmp 32) (.tmp 31) rfl ?_;clear hBA;refine wpList_store_mid rfl 44 (.tmp 32) (.tmp 31) rfl (w1.heap.size) 1 #[.int .i64 m1,.int .i64 m2,.int .i64 m3,.string m4,.string m5,.string m6] rfl rfl hTh.out infoCmd6 (by simp [Value.oneCell']) ?_;obtain ⟨U,hU⟩:∃ U,U=w4.setCells w1.heap.size 1 [.int .i64 m1,.int .i64 m2,.int .i64 m3,.string m4,.string m5,.string m6]:=⟨_,rfl⟩;rw [show w4.setCells w1.heap.size 1 (#[.int .i64 m1,.int .i64 m2,.int .i64 m3,.string m4,.string m5,.string m6]:Array Value).toList=U from hU.symm];have hzU:Hid (U.heap.size=w4.heap.size):=(by rw [hU];exact Z12 _ _ _);have HEU:Hid (Blk U w1.heap.size #[.int .i64 TN,.int .i64 m1,.int .i64 m2,.int .i64 m3,.string m4,.string m5,.string m6] 118):=(by rw [hU];exact (((((HE4.out.set 1 _).set 2 _).set 3 _).set 4 _).set 5 _).set 6 _);have HSU:Hid (Src U g v l KN):=(by rw [hU];exact srcCells HS4.out HE4.out (by omega));have HGU:Hid (w.grownBy U (some g)):=(by rw [hU];exact Z2k HG4.out (by omega));have HOU:Hid (Zp U w.heap.size (.slice la j lc) L):=(by rw [hU];exact HO4.out.block fun q hq=>Z0m (by have:=hol.out q hq;omega) _ _ _);clear hU)
       |(have hBA:=HEU;refine Zx 118 (.tmp 9) rfl ?_;clear hBA;refine Zk rfl 118 (.tmp 9) rfl (w1.heap.size) rfl HEU.out Tryz.underlying118 rfl Xw rfl ?_;have HEA:Hid (Jc (U.alloc (.cells #[.int .i64 TN,.int .i64 m1,.int .i64 m2,.int .i64 m3,.string m4,.string m5,.string m6] 118)) U.heap.size 0 E):=(by rw [HE.out];exact Z0e U ⟨TN,m1,m2,m3,m4,m5,m6⟩))
       |(at_builtin;refine Xs rfl (.tmp 33) (.tmp 35) rfl E hfit (Zp.below HOU.out ((Below.refl _ _).alloc (Nat.le_refl _) _)) rfl U.heap.size 1 HEA.out rfl (by rw [HLen.out];omega) (by have hzz:=HGU.out.size;simp;omega) ?_;intro v1 w9 ho9 hg9;have HO9:Hid (Zp w9 w.heap.size v1 (L ++ [E])):=ho9;have HS9:Hid (Src w9 g v l KN):=Z15 (HSU.out.alloc _) HS.out.2.2.1 (by have hzz:=HGU.out.size;simp;omega) hg9 HOU.out hg0;have HG9:Hid (w.grownBy w9 (some g)):=Z14 (Z8 HGU.out (World.grownBy_alloc _ _ _)) hg9 HOU.out;clear ho9 hg9))
      go_roundw
      case rel=>exact ⟨j+1,by omega,by go_num,by rw [HD.out],by rw [HD.out];exact HO9.out,by rw [HD.out];exact HS9.out,HG9.out⟩
      case measure=>simp [intOf];omega
    ·skip
     clear hT5;by_cases h6:p6=0
     ·subst h6
      have HE:Hid (E=⟨TN,0,0,0,⟨#[]⟩,⟨#[]⟩,⟨#[]⟩⟩):=(show E=⟨TN,0,0,0,⟨#[]⟩,⟨#[]⟩,⟨#[]⟩⟩ by rw [hE6,if_pos rfl]);obtain rfl:KN=K+1+1:=by rw [hK6,if_pos rfl]
      clear hE6 hK6
      go_wp2_with (first
       |(go_at_call 53;clear y1;refine Calls.mono HP5.out ?_;rintro e w1 ⟨rfl,hs1,hg1⟩;have z1:=hg1.size;have HS1:Hid (Src w1 g v l (K+1)):=hs1;have HG1:Hid (w.grownBy w1 (some g)):=Z8 HGR.out hg1;have HO1:Hid (Zp w1 w.heap.size (.slice la j lc) L):=HO.out.grown hg1 hg0;clear hs1 hg1)
       |(have hBA:=HS1;refine Y6 118 (.tmp 9) _ rfl ?_;clear hBA;refine Y1 rfl 118 (.tmp 9) _ rfl (w1.heap.size) rfl rfl rfl Xw rfl rfl (by simp [Value.oneCell']) ?_;obtain ⟨W2,hW2⟩:∃ W2,W2=w1.alloc (.cells #[.int .i64 TN,.int .i64 0,.int .i64 0,.int .i64 0,.string ⟨#[]⟩,.string ⟨#[]⟩,.string ⟨#[]⟩] 118):=⟨_,rfl⟩;rw [<-hW2];have HS2:Hid (Src W2 g v l (K+1)):=(by rw [hW2];exact HS1.out.alloc _);have HE2:Hid (Blk W2 w1.heap.size #[.int .i64 TN,.int .i64 0,.int .i64 0,.int .i64 0,.string ⟨#[]⟩,.string ⟨#[]⟩,.string ⟨#[]⟩] 118):=(by rw [hW2];exact Blk.new _ _ _);have HG2:Hid (w.grownBy W2 (some g)):=(by rw [hW2];exact Z8 HG1.out (World.grownBy_alloc _ _ _));have HO2:Hid (Zp W2 w.heap.size (.slice la j lc) L):=(by rw [hW2];exact HO1.out.below ((Below.refl _ _).alloc (Nat.le_refl _) _));have hol:Hid (∀ q,(Value.slice la j lc).ownBlock=some q->q<w1.heap.size):=(fun q hq=>(HO1.out.2.lt q hq).2);clear hW2)
       |(go_at_call 53;refine Calls.mono (HP6 _ HS2.out).out ?_;rintro e w3 ⟨rfl,hs3,hg3⟩;have z3:=hg3.size;have z2:=HE2.out.lt;have HS3:Hid (Src w3 g v l (K+1+1)):=hs3;have HE3:Hid (Blk w3 w1.heap.size _ 118):=HE2.out.grown hg3 (by omega);have HG3:Hid (w.grownBy w3 (some g)):=Z8 HG2.out hg3;have HO3:Hid (Zp w3 w.heap.size (.slice la j lc) L):=HO2.out.grown hg3 hg0;clear hs3 hg3)
       |(have hBA:=HE3;refine Zx 118 (.tmp 9) rfl ?_;clear hBA;refine Zk rfl 118 (.tmp 9) rfl (w1.heap.size) rfl HE3.out Tryz.underlying118 rfl Xw rfl ?_;have HEA:Hid (Jc (w3.alloc (.cells #[.int .i64 TN,.int .i64 0,.int .i64 0,.int .i64 0,.string ⟨#[]⟩,.string ⟨#[]⟩,.string ⟨#[]⟩] 118)) w3.heap.size 0 E):=(by rw [HE.out];exact Z0e w3 ⟨TN,0,0,0,⟨#[]⟩,⟨#[]⟩,⟨#[]⟩⟩))
       |(at_builtin;refine Xs rfl (.tmp 33) (.tmp 35) rfl E hfit (Zp.below HO3.out ((Below.refl _ _).alloc (Nat.le_refl _) _)) rfl w3.heap.size 1 HEA.out rfl (by rw [HLen.out];omega) (by have hzz:=HG3.out.size;simp;omega) ?_;intro v1 w9 ho9 hg9;have HO9:Hid (Zp w9 w.heap.size v1 (L ++ [E])):=ho9;have HS9:Hid (Src w9 g v l (K+1+1)):=Z15 (HS3.out.alloc _) HS.out.2.2.1 (by have hzz:=HG3.out.size;simp;omega) hg9 HO3.out hg0;have HG9:Hid (w.grownBy w9 (some g)):=Z14 (Z8 HG3.out (World.grownBy_alloc _ _ _)) hg9 HO3.out;clear ho9 hg9))
      go_roundw
      case rel=>exact ⟨j+1,by omega,by go_num,by rw [HD.out],by rw [HD.out];exact HO9.out,by rw [HD.out];exact HS9.out,HG9.out⟩
      case measure=>simp [intOf];omega
     ·have n6:((p6:Int) != 0)=true:=by rw [bne_iff_ne];omega
      have HE:Hid (E=⟨TN,m1,m2,m3,m4,m5,m6⟩):=(show E=⟨TN,m1,m2,m3,m4,m5,m6⟩ by rw [hE6,if_neg h6]);obtain rfl:KN=KC:=by rw [hK6,if_neg h6]
      clear hE6 hK6
      go_wp2_with (first
       |(go_at_call 53;clear y1;refine Calls.mono HP5.out ?_;rintro e w1 ⟨rfl,hs1,hg1⟩;have z1:=hg1.size;have HS1:Hid (Src w1 g v l (K+1)):=hs1;have HG1:Hid (w.grownBy w1 (some g)):=Z8 HGR.out hg1;have HO1:Hid (Zp w1 w.heap.size (.slice la j lc) L):=HO.out.grown hg1 hg0;clear hs1 hg1)
       |(have hBA:=HS1;refine Y6 118 (.tmp 9) _ rfl ?_;clear hBA;refine Y1 rfl 118 (.tmp 9) _ rfl (w1.heap.size) rfl rfl rfl Xw rfl rfl (by simp [Value.oneCell']) ?_;obtain ⟨W2,hW2⟩:∃ W2,W2=w1.alloc (.cells #[.int .i64 TN,.int .i64 0,.int .i64 0,.int .i64 0,.string ⟨#[]⟩,.string ⟨#[]⟩,.string ⟨#[]⟩] 118):=⟨_,rfl⟩;rw [<-hW2];have HS2:Hid (Src W2 g v l (K+1)):=(by rw [hW2];exact HS1.out.alloc _);have HE2:Hid (Blk W2 w1.heap.size #[.int .i64 TN,.int .i64 0,.int .i64 0,.int .i64 0,.string ⟨#[]⟩,.string ⟨#[]⟩,.string ⟨#[]⟩] 118):=(by rw [hW2];exact Blk.new _ _ _);have HG2:Hid (w.grownBy W2 (some g)):=(by rw [hW2];exact Z8 HG1.out (World.grownBy_alloc _ _ _));have HO2:Hid (Zp W2 w.heap.size (.slice la j lc) L):=(by rw [hW2];exact HO1.out.below ((Below.refl _ _).alloc (Nat.le_refl _) _));have hol:Hid (∀ q,(Value.slice la j lc).ownBlock=some q->q<w1.heap.size):=(fun q hq=>(HO1.out.2.lt q hq).2);clear hW2)
       |(go_at_call 53;refine Calls.mono (HP6 _ HS2.out).out ?_;rintro e w3 ⟨rfl,hs3,hg3⟩;have z3:=hg3.size;have z2:=HE2.out.lt;have HS3:Hid (Src w3 g v l (K+1+1)):=hs3;have HE3:Hid (Blk w3 w1.heap.size _ 118):=HE2.out.grown hg3 (by omega);have HG3:Hid (w.grownBy w3 (some g)):=Z8 HG2.out hg3;have HO3:Hid (Zp w3 w.heap.size (.slice la j lc) L):=HO2.out.grown hg3 hg0;clear hs3 hg3)
       |(go_at_call 105;refine Calls.mono (HCm _ HS3.out).out ?_;rintro e w4 ⟨rfl,hs4,hg4⟩;have z4:=hg4.size;have z4b:=HE3.out.lt;have HS4:Hid (Src w4 g v l KN):=hs4;have HE4:Hid (Blk w4 w1.heap.size _ 118):=HE3.out.grown hg4 (by omega);have HG4:Hid (w.grownBy w4 (some g)):=Z8 HG3.out hg4;have HO4:Hid (Zp w4 w.heap.size (.slice la j lc) L):=HO3.out.grown hg4 hg0;have hTh:Hid (w4.there w1.heap.size 1 6):=Z1g HE4.out.there 1 6 (by simp);clear hs4 hg4)
       |(have hBA:=HE4;refine Z1l 44 (.tmp 32) (.tmp 31) rfl ?_;clear hBA;refine wpList_store_mid rfl 44 (.tmp 32) (.tmp 31) rfl (w1.heap.size) 1 #[.int .i64 m1,.int .i64 m2,.int .i64 m3,.string m4,.string m5,.string m6] rfl rfl hTh.out infoCmd6 (by simp [Value.oneCell']) ?_;obtain ⟨U,hU⟩:∃ U,U=w4.setCells w1.heap.size 1 [.int .i64 m1,.int .i64 m2,.int .i64 m3,.string m4,.string m5,.string m6]:=⟨_,rfl⟩;rw [show w4.setCells w1.heap.size 1 (#[.int .i64 m1,.int .i64 m2,.int .i64 m3,.string m4,.string m5,.string m6]:Array Value).toList=U from hU.symm];have hzU:Hid (U.heap.size=w4.heap.size):=(by rw [hU];exact Z12 _ _ _);have HEU:Hid (Blk U w1.heap.size #[.int .i64 TN,.int .i64 m1,.int .i64 m2,.int .i64 m3,.string m4,.string m5,.string m6] 118):=(by rw [hU];exact (((((HE4.out.set 1 _).set 2 _).set 3 _).set 4 _).set 5 _).set 6 _);have HSU:Hid (Src U g v l KN):=(by rw [hU];exact srcCells HS4.out HE4.out (by omega));have HGU:Hid (w.grownBy U (some g)):=(by rw [hU];exact Z2k HG4.out (by omega));have HOU:Hid (Zp U w.heap.size (.slice la j lc) L):=(by rw [hU];exact HO4.out.block fun q hq=>Z0m (by have:=hol.out q hq;omega) _ _ _);clear hU)
       |(have hBA:=HEU;refine Zx 118 (.tmp 9) rfl ?_;clear hBA;refine Zk rfl 118 (.tmp 9) rfl (w1.heap.size) rfl HEU.out Tryz.underlying118 rfl Xw rfl ?_;have HEA:Hid (Jc (U.alloc (.cells #[.int .i64 TN,.int .i64 m1,.int .i64 m2,.int .i64 m3,.string m4,.string m5,.string m6] 118)) U.heap.size 0 E):=(by rw [HE.out];exact Z0e U ⟨TN,m1,m2,m3,m4,m5,m6⟩))
       |(at_builtin;refine Xs rfl (.tmp 33) (.tmp 35) rfl E hfit (Zp.below HOU.out ((Below.refl _ _).alloc (Nat.le_refl _) _)) rfl U.heap.size 1 HEA.out rfl (by rw [HLen.out];omega) (by have hzz:=HGU.out.size;simp;omega) ?_;intro v1 w9 ho9 hg9;have HO9:Hid (Zp w9 w.heap.size v1 (L ++ [E])):=ho9;have HS9:Hid (Src w9 g v l KN):=Z15 (HSU.out.alloc _) HS.out.2.2.1 (by have hzz:=HGU.out.size;simp;omega) hg9 HOU.out hg0;have HG9:Hid (w.grownBy w9 (some g)):=Z14 (Z8 HGU.out (World.grownBy_alloc _ _ _)) hg9 HOU.out;clear ho9 hg9))
      go_roundw
      case rel=>exact ⟨j+1,by omega,by go_num,by rw [HD.out],by rw [HD.out];exact HO9.out,by rw [HD.out];exact HS9.out,HG9.out⟩
      case measure=>simp [intOf];omega
   ·subst h5
    obtain rfl:TN=TT+1:=by rw [hT5,if_pos ⟨rfl,h5'⟩]
    skip
    clear hT5;by_cases h6:p6=0
    ·subst h6
     have HE:Hid (E=⟨(TT+1),0,0,0,⟨#[]⟩,⟨#[]⟩,⟨#[]⟩⟩):=(show E=⟨(TT+1),0,0,0,⟨#[]⟩,⟨#[]⟩,⟨#[]⟩⟩ by rw [hE6,if_pos rfl]);obtain rfl:KN=K+1+1:=by rw [hK6,if_pos rfl]
     clear hE6 hK6
     go_wp2_with (first
      |(go_at_call 53;clear y1;refine Calls.mono HP5.out ?_;rintro e w1 ⟨rfl,hs1,hg1⟩;have z1:=hg1.size;have HS1:Hid (Src w1 g v l (K+1)):=hs1;have HG1:Hid (w.grownBy w1 (some g)):=Z8 HGR.out hg1;have HO1:Hid (Zp w1 w.heap.size (.slice la j lc) L):=HO.out.grown hg1 hg0;clear hs1 hg1)
      |(have hBA:=HS1;refine Y6 118 (.tmp 9) _ rfl ?_;clear hBA;refine Y1 rfl 118 (.tmp 9) _ rfl (w1.heap.size) rfl rfl rfl Xw rfl rfl (by simp [Value.oneCell']) ?_;obtain ⟨W2,hW2⟩:∃ W2,W2=w1.alloc (.cells #[.int .i64 (TT+1),.int .i64 0,.int .i64 0,.int .i64 0,.string ⟨#[]⟩,.string ⟨#[]⟩,.string ⟨#[]⟩] 118):=⟨_,rfl⟩;rw [<-hW2];have HS2:Hid (Src W2 g v l (K+1)):=(by rw [hW2];exact HS1.out.alloc _);have HE2:Hid (Blk W2 w1.heap.size #[.int .i64 (TT+1),.int .i64 0,.int .i64 0,.int .i64 0,.string ⟨#[]⟩,.string ⟨#[]⟩,.string ⟨#[]⟩] 118):=(by rw [hW2];exact Blk.new _ _ _);have HG2:Hid (w.grownBy W2 (some g)):=(by rw [hW2];exact Z8 HG1.out (World.grownBy_alloc _ _ _));have HO2:Hid (Zp W2 w.heap.size (.slice la j lc) L):=(by rw [hW2];exact HO1.out.below ((Below.refl _ _).alloc (Nat.le_refl _) _));have hol:Hid (∀ q,(Value.slice la j lc).ownBlock=some q->q<w1.heap.size):=(fun q hq=>(HO1.out.2.lt q hq).2);clear hW2)
      |(go_at_call 53;refine Calls.mono (HP6 _ HS2.out).out ?_;rintro e w3 ⟨rfl,hs3,hg3⟩;have z3:=hg3.size;have z2:=HE2.out.lt;have HS3:Hid (Src w3 g v l (K+1+1)):=hs3;have HE3:Hid (Blk w3 w1.heap.size _ 118):=HE2.out.grown hg3 (by omega);have HG3:Hid (w.grownBy w3 (some g)):=Z8 HG2.out hg3;have HO3:Hid (Zp w3 w.heap.size (.slice la j lc) L):=HO2.out.grown hg3 hg0;clear hs3 hg3)
      |(have hBA:=HE3;refine Zx 118 (.tmp 9) rfl ?_;clear hBA;refine Zk rfl 118 (.tmp 9) rfl (w1.heap.size) rfl HE3.out Tryz.underlying118 rfl Xw rfl ?_;have HEA:Hid (Jc (w3.alloc (.cells #[.int .i64 (TT+1),.int .i64 0,.int .i64 0,.int .i64 0,.string ⟨#[]⟩,.string ⟨#[]⟩,.string ⟨#[]⟩] 118)) w3.heap.size 0 E):=(by rw [HE.out];exact Z0e w3 ⟨(TT+1),0,0,0,⟨#[]⟩,⟨#[]⟩,⟨#[]⟩⟩))
      |(at_builtin;refine Xs rfl (.tmp 33) (.tmp 35) rfl E hfit (Zp.below HO3.out ((Below.refl _ _).alloc (Nat.le_refl _) _)) rfl w3.heap.size 1 HEA.out rfl (by rw [HLen.out];omega) (by have hzz:=HG3.out.size;simp;omega) ?_;intro v1 w9 ho9 hg9;have HO9:Hid (Zp w9 w.heap.size v1 (L ++ [E])):=ho9;have HS9:Hid (Src w9 g v l (K+1+1)):=Z15 (HS3.out.alloc _) HS.out.2.2.1 (by have hzz:=HG3.out.size;simp;omega) hg9 HO3.out hg0;have HG9:Hid (w.grownBy w9 (some g)):=Z14 (Z8 HG3.out (World.grownBy_alloc _ _ _)) hg9 HO3.out;clear ho9 hg9))
     go_roundw
     case rel=>exact ⟨j+1,by omega,by go_num,by rw [HD.out],by rw [HD.out];exact HO9.out,by rw [HD.out];exact HS9.out,HG9.out⟩
     case measure=>simp [intOf];omega
    ·have n6:((p6:Int) != 0)=true:=by rw [bne_iff_ne];omega
     have HE:Hid (E=⟨(TT+1),m1,m2,m3,m4,m5,m6⟩):=(show E=⟨(TT+1),m1,m2,m3,m4,m5,m6⟩ by rw [hE6,if_neg h6]);obtain rfl:KN=KC:=by rw [hK6,if_neg h6]
     clear hE6 hK6
     go_wp2_with (first
      |(go_at_call 53;clear y1;refine Calls.mono HP5.out ?_;rintro e w1 ⟨rfl,hs1,hg1⟩;have z1:=hg1.size;have HS1:Hid (Src w1 g v l (K+1)):=hs1;have HG1:Hid (w.grownBy w1 (some g)):=Z8 HGR.out hg1;have HO1:Hid (Zp w1 w.heap.size (.slice la j lc) L):=HO.out.grown hg1 hg0;clear hs1 hg1)
      |(have hBA:=HS1;refine Y6 118 (.tmp 9) _ rfl ?_;clear hBA;refine Y1 rfl 118 (.tmp 9) _ rfl (w1.heap.size) rfl rfl rfl Xw rfl rfl (by simp [Value.oneCell']) ?_;obtain ⟨W2,hW2⟩:∃ W2,W2=w1.alloc (.cells #[.int .i64 (TT+1),.int .i64 0,.int .i64 0,.int .i64 0,.string ⟨#[]⟩,.string ⟨#[]⟩,.string ⟨#[]⟩] 118):=⟨_,rfl⟩;rw [<-hW2];have HS2:Hid (Src W2 g v l (K+1)):=(by rw [hW2];exact HS1.out.alloc _);have HE2:Hid (Blk W2 w1.heap.size #[.int .i64 (TT+1),.int .i64 0,.int .i64 0,.int .i64 0,.string ⟨#[]⟩,.string ⟨#[]⟩,.string ⟨#[]⟩] 118):=(by rw [hW2];exact Blk.new _ _ _);have HG2:Hid (w.grownBy W2 (some g)):=(by rw [hW2];exact Z8 HG1.out (World.grownBy_alloc _ _ _));have HO2:Hid (Zp W2 w.heap.size (.slice la j lc) L):=(by rw [hW2];exact HO1.out.below ((Below.refl _ _).alloc (Nat.le_refl _) _));have hol:Hid (∀ q,(Value.slice la j lc).ownBlock=some q->q<w1.heap.size):=(fun q hq=>(HO1.out.2.lt q hq).2);clear hW2)
      |(go_at_call 53;refine Calls.mono (HP6 _ HS2.out).out ?_;rintro e w3 ⟨rfl,hs3,hg3⟩;have z3:=hg3.size;have z2:=HE2.out.lt;have HS3:Hid (Src w3 g v l (K+1+1)):=hs3;have HE3:Hid (Blk w3 w1.heap.size _ 118):=HE2.out.grown hg3 (by omega);have HG3:Hid (w.grownBy w3 (some g)):=Z8 HG2.out hg3;have HO3:Hid (Zp w3 w.heap.size (.slice la j lc) L):=HO2.out.grown hg3 hg0;clear hs3 hg3)
      |(go_at_call 105;refine Calls.mono (HCm _ HS3.out).out ?_;rintro e w4 ⟨rfl,hs4,hg4⟩;have z4:=hg4.size;have z4b:=HE3.out.lt;have HS4:Hid (Src w4 g v l KN):=hs4;have HE4:Hid (Blk w4 w1.heap.size _ 118):=HE3.out.grown hg4 (by omega);have HG4:Hid (w.grownBy w4 (some g)):=Z8 HG3.out hg4;have HO4:Hid (Zp w4 w.heap.size (.slice la j lc) L):=HO3.out.grown hg4 hg0;have hTh:Hid (w4.there w1.heap.size 1 6):=Z1g HE4.out.there 1 6 (by simp);clear hs4 hg4)
      |(have hBA:=HE4;refine Z1l 44 (.tmp 32) (.tmp 31) rfl ?_;clear hBA;refine wpList_store_mid rfl 44 (.tmp 32) (.tmp 31) rfl (w1.heap.size) 1 #[.int .i64 m1,.int .i64 m2,.int .i64 m3,.string m4,.string m5,.string m6] rfl rfl hTh.out infoCmd6 (by simp [Value.oneCell']) ?_;obtain ⟨U,hU⟩:∃ U,U=w4.setCells w1.heap.size 1 [.int .i64 m1,.int .i64 m2,.int .i64 m3,.string m4,.string m5,.string m6]:=⟨_,rfl⟩;rw [show w4.setCells w1.heap.size 1 (#[.int .i64 m1,.int .i64 m2,.int .i64 m3,.string m4,.string m5,.string m6]:Array Value).toList=U from hU.symm];have hzU:Hid (U.heap.size=w4.heap.size):=(by rw [hU];exact Z12 _ _ _);have HEU:Hid (Blk U w1.heap.size #[.int .i64 (TT+1),.int .i64 m1,.int .i64 m2,.int .i64 m3,.string m4,.string m5,.string m6] 118):=(by rw [hU];exact (((((HE4.out.set 1 _).set 2 _).set 3 _).set 4 _).set 5 _).set 6 _);have HSU:Hid (Src U g v l KN):=(by rw [hU];exact srcCells HS4.out HE4.out (by omega));have HGU:Hid (w.grownBy U (some g)):=(by rw [hU];exact Z2k HG4.out (by omega));have HOU:Hid (Zp U w.heap.size (.slice la j lc) L):=(by rw [hU];exact HO4.out.block fun q hq=>Z0m (by have:=hol.out q hq;omega) _ _ _);clear hU)
      |(have hBA:=HEU;refine Zx 118 (.tmp 9) rfl ?_;clear hBA;refine Zk rfl 118 (.tmp 9) rfl (w1.heap.size) rfl HEU.out Tryz.underlying118 rfl Xw rfl ?_;have HEA:Hid (Jc (U.alloc (.cells #[.int .i64 (TT+1),.int .i64 m1,.int .i64 m2,.int .i64 m3,.string m4,.string m5,.string m6] 118)) U.heap.size 0 E):=(by rw [HE.out];exact Z0e U ⟨(TT+1),m1,m2,m3,m4,m5,m6⟩))
      |(at_builtin;refine Xs rfl (.tmp 33) (.tmp 35) rfl E hfit (Zp.below HOU.out ((Below.refl _ _).alloc (Nat.le_refl _) _)) rfl U.heap.size 1 HEA.out rfl (by rw [HLen.out];omega) (by have hzz:=HGU.out.size;simp;omega) ?_;intro v1 w9 ho9 hg9;have HO9:Hid (Zp w9 w.heap.size v1 (L ++ [E])):=ho9;have HS9:Hid (Src w9 g v l KN):=Z15 (HSU.out.alloc _) HS.out.2.2.1 (by have hzz:=HGU.out.size;simp;omega) hg9 HOU.out hg0;have HG9:Hid (w.grownBy w9 (some g)):=Z14 (Z8 HGU.out (World.grownBy_alloc _ _ _)) hg9 HOU.out;clear ho9 hg9))
     go_roundw
     case rel=>exact ⟨j+1,by omega,by go_num,by rw [HD.out],by rw [HD.out];exact HO9.out,by rw [HD.out];exact HS9.out,HG9.out⟩
     case measure=>simp [intOf];omega
  ·obtain rfl:j=n:=by omega
   go_wp2;go_ret;exact ⟨_,rfl,ho,hs,hgr⟩
end Go.Proofs.YtmmpoppgabadmaaGreat
