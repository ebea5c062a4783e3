import Derived.Test.YtmmpoppgabadmaaGreatG06
import Derived.Deep.QuietTactic
import Derived.BigQuiet
set_option linter.unusedVariables false
set_option linter.unusedSimpArgs false
set_option maxRecDepth 100000
set_option maxHeartbeats 16000000
namespace Go.Proofs.YtmmpoppgabadmaaGreat
open Go.RowKit
theorem Z37 (most:Int):∀(l:List Int) (last:Int),Yx most last l=true->last<=most->(l.length:Int)<=most-last
 | [],last,_,h=>by simp;omega
 | x :: l,last,h,hm=>by
  simp only [Yx,Bool.and_eq_true,Zr] at h;have:=Z37 most l x h.2 h.1.2;simp only [List.length_cons];omega
def Yp (ro sz id:Int)(l:List Int):Bool:=if ro≠1/\ro≠2 then (l.length:Int) == 0 else Yx sz 0 l && (hasB id l && !majB l.length sz)
theorem Z3d (i0 i1 i2 i3 i4 i5 i6 i7 i8 i9 i10 i11:Int)(a12 a13 a14 a15 a16 a17:Option Addr)(cap12 cap13 cap14 cap15 cap16 cap17:Nat)(l12:List Ent)(l13 l14 l15 l16 l17:List Int)(w:World)(h13:Ix w (.slice a13 l13.length cap13) l13)(hs:0<=i1)(hs7:i1<=7):Calls Tryz.prog 72 #[.agg #[.int .i64 i0,.int .i64 i1,.int .i64 i2,.int .i64 i3,.int .i64 i4,.int .i64 i5,.int .i64 i6,.int .i64 i7,.int .i64 i8,.int .i64 i9,.int .i64 i10,.int .i64 i11,.slice a12 l12.length cap12,.slice a13 l13.length cap13,.slice a14 l14.length cap14,.slice a15 l15.length cap15,.slice a16 l16.length cap16,.slice a17 l17.length cap17]] w fun e w'=>e=.returned (.bool (Yp i6 i1 i0 l13))/\Below w.heap.size w w':=by
 have hb0:Hid (Below w.heap.size w (w.alloc (.cells #[.int .i64 i0,.int .i64 i1,.int .i64 i2,.int .i64 i3,.int .i64 i4,.int .i64 i5,.int .i64 i6,.int .i64 i7,.int .i64 i8,.int .i64 i9,.int .i64 i10,.int .i64 i11,.slice a12 l12.length cap12,.slice a13 l13.length cap13,.slice a14 l14.length cap14,.slice a15 l15.length cap15,.slice a16 l16.length cap16,.slice a17 l17.length cap17] 36))):=(Below.refl _ _).alloc (Nat.le_refl _) _;have H13:Hid (Ix w (.slice a13 l13.length cap13) l13):=h13;replace h13:=h13.1;have hl:=h13;clear h13;unfold maxLen at hl;by_cases h12:i6≠1/\i6≠2
 ·obtain ⟨ha,hb⟩:=h12
  rw [show Yp i6 i1 i0 l13=((l13.length:Int) == 0) by simp [Yp,ha,hb]];have na:(i6 != 1)=true:=by simpa using ha
  have nb:(i6 != 2)=true:=by simpa using hb
  clear ha hb;go_enter Tryz.func72,Tryz.ntmps72;go_wp2;go_ret;exact ⟨rfl,hb0.out⟩
 rw [show Yp i6 i1 i0 l13=(Yx i1 0 l13 && (hasB i0 l13 && !majB l13.length i1)) by unfold Yp;rw [if_neg h12]];by_cases h1:i6=1
 ·subst h1
  clear h12;cases hr:Yx i1 0 l13
  ·go_enter Tryz.func72,Tryz.ntmps72
   go_wp2_with (go_at_call 110;refine sw (Xl _ l13 _ _ (H13.out.below hb0.out) hs (by omega)) ?_;rw [hr])
   go_ret;exact ⟨rfl,hb0.out⟩
  cases hc:hasB i0 l13
  ·go_enter Tryz.func72,Tryz.ntmps72
   go_wp2_with (first
    |(go_at_call 110;refine sw (Xl _ l13 _ _ (H13.out.below hb0.out) hs (by omega)) ?_;rw [hr])
    |(go_at_call 111;refine sw (Z00 _ l13 _ _ (H13.out.below hb0.out)) ?_;rw [hc]))
   go_ret;exact ⟨rfl,hb0.out⟩
  ·go_enter Tryz.func72,Tryz.ntmps72
   go_wp2_with (first
    |(go_at_call 110;refine sw (Xl _ l13 _ _ (H13.out.below hb0.out) hs (by omega)) ?_;rw [hr])
    |(go_at_call 111;refine sw (Z00 _ l13 _ _ (H13.out.below hb0.out)) ?_;rw [hc])
    |(go_at_call 112;refine sw (Z1a _ _ hs hs7 _) ?_))
   go_ret;exact ⟨by simp,hb0.out⟩
 by_cases h2:i6=2
 ·subst h2
  clear h12;cases hr:Yx i1 0 l13
  ·go_enter Tryz.func72,Tryz.ntmps72
   go_wp2_with (go_at_call 110;refine sw (Xl _ l13 _ _ (H13.out.below hb0.out) hs (by omega)) ?_;rw [hr])
   go_ret;exact ⟨rfl,hb0.out⟩
  cases hc:hasB i0 l13
  ·go_enter Tryz.func72,Tryz.ntmps72
   go_wp2_with (first
    |(go_at_call 110;refine sw (Xl _ l13 _ _ (H13.out.below hb0.out) hs (by omega)) ?_;rw [hr])
    |(go_at_call 111;refine sw (Z00 _ l13 _ _ (H13.out.below hb0.out)) ?_;rw [hc]))
   go_ret;exact ⟨rfl,hb0.out⟩
  ·go_enter Tryz.func72,Tryz.ntmps72
   go_wp2_with (first
    |(go_at_call 110;refine sw (Xl _ l13 _ _ (H13.out.below hb0.out) hs (by omega)) ?_;rw [hr])
    |(go_at_call 111;refine sw (Z00 _ l13 _ _ (H13.out.below hb0.out)) ?_;rw [hc])
    |(go_at_call 112;refine sw (Z1a _ _ hs hs7 _) ?_))
   go_ret;exact ⟨by simp,hb0.out⟩
 exact absurd ⟨h1,h2⟩ h12
theorem Xk (i0 i1 i2 i3 i4 i5 i6 i7 i8 i9 i10 i11:Int)(a12 a13 a14 a15 a16 a17:Option Addr)(cap12 cap13 cap14 cap15 cap16 cap17:Nat)(l12:List Ent)(l13 l14 l15 l16 l17:List Int)(w:World)(h13:Ix w (.slice a13 l13.length cap13) l13)(hs:sizB i1=true):Calls Tryz.prog 59 #[.agg #[.int .i64 i0,.int .i64 i1,.int .i64 i2,.int .i64 i3,.int .i64 i4,.int .i64 i5,.int .i64 i6,.int .i64 i7,.int .i64 i8,.int .i64 i9,.int .i64 i10,.int .i64 i11,.slice a12 l12.length cap12,.slice a13 l13.length cap13,.slice a14 l14.length cap14,.slice a15 l15.length cap15,.slice a16 l16.length cap16,.slice a17 l17.length cap17]] w fun e w'=>e=.returned (.bool (Yp i6 i1 i0 l13))/\Below w.heap.size w w':=by
 have hb0:Hid (Below w.heap.size w (w.alloc (.cells #[.int .i64 i0,.int .i64 i1,.int .i64 i2,.int .i64 i3,.int .i64 i4,.int .i64 i5,.int .i64 i6,.int .i64 i7,.int .i64 i8,.int .i64 i9,.int .i64 i10,.int .i64 i11,.slice a12 l12.length cap12,.slice a13 l13.length cap13,.slice a14 l14.length cap14,.slice a15 l15.length cap15,.slice a16 l16.length cap16,.slice a17 l17.length cap17] 36))):=(Below.refl _ _).alloc (Nat.le_refl _) _;have H13:Hid (Ix w (.slice a13 l13.length cap13) l13):=h13;have hs2:i1=3∨i1=5∨i1=7:=by simpa [sizB,or_assoc] using hs
 clear hs;have hodd:i1%2=1:=by omega
 obtain ⟨hl,a0,cap0,e0,hc⟩:=h13;injection e0 with e1 _ e3;subst e1 e3;unfold maxLen at hl;by_cases h12:i6≠1/\i6≠2
 ·obtain ⟨ha,hb⟩:=h12
  rw [show Yp i6 i1 i0 l13=((l13.length:Int) == 0) by simp [Yp,ha,hb]];have na:(i6 != 1)=true:=by simpa using ha
  have nb:(i6 != 2)=true:=by simpa using hb
  clear ha hb hc;go_enter Tryz.func59,Tryz.ntmps59;go_wp2;go_ret;exact ⟨rfl,hb0.out⟩
 rw [show Yp i6 i1 i0 l13=(Yx i1 0 l13 && (hasB i0 l13 && !majB l13.length i1)) by unfold Yp;rw [if_neg h12]];by_cases h1:i6=1
 ·subst h1
  clear h12;go_enter Tryz.func59,Tryz.ntmps59;go_wp2
  go_loopw [3] (fun i wr=>∃(k:Nat) (last:Int),k<=l13.length/\i=.int .i64 k/\(k=0->last=0)/\(∀(hk:0<k) (h':k-1<l13.length),last=l13[k-1])/\0<=last/\Yx i1 0 l13=Yx i1 last (l13.drop k)/\Blk wr w.heap.size #[.int .i64 i0,.int .i64 i1,.int .i64 i2,.int .i64 i3,.int .i64 i4,.int .i64 i5,.int .i64 1,.int .i64 i7,.int .i64 i8,.int .i64 i9,.int .i64 i10,.int .i64 i11,.slice a12 l12.length cap12,.slice a13 l13.length cap13,.slice a14 l14.length cap14,.slice a15 l15.length cap15,.slice a16 l16.length cap16,.slice a17 l17.length cap17] 36/\Below w.heap.size w wr) (fun i _=>l13.length-(intOf i).toNat)
  case atStart=>exact ⟨0,0,Nat.zero_le _,rfl,fun _=>rfl,fun h=>absurd h (by omega),by omega,by simp,Blk.new _ _ _,(Below.refl _ _).alloc (Nat.le_refl _) _⟩
  case round=>
   obtain ⟨k,last,hk,rfl,hz0,hp,h0,hr,BA,hB⟩:=hrel;have HR:Hid (Yx i1 0 l13=Yx i1 last (l13.drop k)):=hr;have hz:=hB.size;have cA:=BA.cell;have HA:Hid (Blk wr w.heap.size _ 36):=BA;have HBB:Hid _:=hB;clear hr BA;by_cases hlt:k<l13.length
   ·obtain ⟨b,off,rfl,hj⟩:=hc k hlt
    have hck:=(hB.cell (p:=⟨b,off+k,none⟩) (Xb (hj k hlt))).trans (hj k hlt);have HD:Hid (Yx i1 last (l13.drop k)=(inB l13[k] (last+1) i1 && Yx i1 l13[k] (l13.drop (k+1)))):=Z1y i1 last l13 k hlt;cases hi:inB l13[k] 1 i1
    ·have HL:Hid (∀ u:World,Calls Tryz.prog 56 #[.int .i64 l13[k],.int .i64 1,.int .i64 i1] u fun e w'=>e=.returned (.bool false)/\w'=u):=fun u=>by rw [<-hi];exact Za _ _ _ _
     have hno:inB l13[k] (last+1) i1=false:=by rw [Z02] at hi ⊢;omega
     rw [hno] at HD;clear hc hj hp hno hi hB;generalize l13[k]=y at *
     go_wp2_with fail
     go_quiet ((go_at_call 56;exact Calls.quiet_of_same (HL.out _)))
     go_wp2;go_ret;exact ⟨by rw [HR.out,HD.out];rfl,HBB.out.trans ⟨rfl,rfl,rfl,Nat.le_refl _,fun _ _=>rfl⟩⟩
    ·have HL:Hid (∀ u:World,Calls Tryz.prog 56 #[.int .i64 l13[k],.int .i64 1,.int .i64 i1] u fun e w'=>e=.returned (.bool true)/\w'=u):=fun u=>by rw [<-hi];exact Za _ _ _ _
     have hi2:=(Zr _ _ _).1 hi;by_cases hk0:k=0
     ·subst hk0
      obtain rfl:=hz0 rfl;rw [show inB l13[0] (0+1) i1=true by simpa using hi] at HD;clear hc hj hp hi hB hz0;simp only [Nat.add_zero] at hck;generalize hy:l13[0]=y at hck HD HL hi2;have HN:Hid (∀(hk:0<1) (h':1-1<l13.length),y=l13[1-1]):=fun _ _=>hy.symm
      clear hy
      go_wp2_with fail
      go_quiet ((go_at_call 56;exact Calls.quiet_of_same (HL.out _)))
      go_wp2
      go_roundw
      case rel=>exact ⟨1,y,by omega,by go_num,fun h=>absurd h (by omega),HN.out,by omega,by rw [HR.out,HD.out];rfl,HA.out.keep rfl,HBB.out.trans ⟨rfl,rfl,rfl,Nat.le_refl _,fun _ _=>rfl⟩⟩
      case measure=>simp [intOf];omega
     ·obtain ⟨j,rfl⟩:∃ j,k=j+1:=⟨k-1,by omega⟩
      have hjl:j<l13.length:=by omega
      have hcj:=(hB.cell (p:=⟨b,off+j,none⟩) (Xb (hj j hjl))).trans (hj j hjl);have hla:=hp (by omega) hjl;simp only [Nat.add_sub_cancel] at hla;by_cases hle:l13[j+1]<=l13[j]
      ·have hno:inB l13[j+1] (last+1) i1=false:=by rw [Z02];omega
       rw [hno] at HD;clear hc hj hp hi hB hz0 hno hla;generalize l13[j+1]=y at *;generalize l13[j]=x at *
       go_wp2_with fail
       go_quiet ((go_at_call 56;exact Calls.quiet_of_same (HL.out _)))
       go_wp2;go_ret;exact ⟨by rw [HR.out,HD.out];rfl,HBB.out.trans ⟨rfl,rfl,rfl,Nat.le_refl _,fun _ _=>rfl⟩⟩
      ·have hno:inB l13[j+1] (last+1) i1=true:=by rw [Zr];omega
       rw [hno] at HD;clear hc hj hp hi hB hz0 hno hla;generalize hy:l13[j+1]=y at hck HD HL hi2 hle;have HN:Hid (∀(hk:0<j+1+1) (h':j+1+1-1<l13.length),y=l13[j+1+1-1]):=fun _ _=>hy.symm
       clear hy;generalize l13[j]=x at hcj hle
       go_wp2_with fail
       go_quiet ((go_at_call 56;exact Calls.quiet_of_same (HL.out _)))
       go_wp2
       go_roundw
       case rel=>exact ⟨j+1+1,y,by omega,by go_num,fun h=>absurd h (by omega),HN.out,by omega,by rw [HR.out,HD.out];rfl,HA.out.keep rfl,HBB.out.trans ⟨rfl,rfl,rfl,Nat.le_refl _,fun _ _=>rfl⟩⟩
       case measure=>simp [intOf];omega
   ·have hd:l13.drop k = []:=List.drop_of_length_le (by omega)
    have HX:Hid (Ix wr (.slice a13 l13.length cap13) l13):=H13.out.below hB;have HT:Hid (Yx i1 0 l13=true):=(by rw [HR.out,hd];rfl:Yx i1 0 l13=true);have hlen:=Z37 i1 l13 0 HT.out (by omega);clear hc hp hd hB;cases hh:hasB i0 l13
    ·go_wp2_with (go_at_call 99;refine sw (Z1l _ l13 _ _ HX.out) ?_;rw [hh])
     go_ret;exact ⟨by rw [HT.out,hh];rfl,HBB.out⟩
    ·go_wp2_with (first
      |(go_at_call 99;refine sw (Z1l _ l13 _ _ HX.out) ?_;rw [hh])
      |(go_at_call 100;refine sw (Z16 _ _ hodd (by omega) (by omega) _) ?_))
     go_ret;exact ⟨by rw [HT.out,hh];simp,HBB.out⟩
 by_cases h2:i6=2
 ·subst h2
  clear h12;go_enter Tryz.func59,Tryz.ntmps59;go_wp2
  go_loopw [3] (fun i wr=>∃(k:Nat) (last:Int),k<=l13.length/\i=.int .i64 k/\(k=0->last=0)/\(∀(hk:0<k) (h':k-1<l13.length),last=l13[k-1])/\0<=last/\Yx i1 0 l13=Yx i1 last (l13.drop k)/\Blk wr w.heap.size #[.int .i64 i0,.int .i64 i1,.int .i64 i2,.int .i64 i3,.int .i64 i4,.int .i64 i5,.int .i64 2,.int .i64 i7,.int .i64 i8,.int .i64 i9,.int .i64 i10,.int .i64 i11,.slice a12 l12.length cap12,.slice a13 l13.length cap13,.slice a14 l14.length cap14,.slice a15 l15.length cap15,.slice a16 l16.length cap16,.slice a17 l17.length cap17] 36/\Below w.heap.size w wr) (fun i _=>l13.length-(intOf i).toNat)
  case atStart=>exact ⟨0,0,Nat.zero_le _,rfl,fun _=>rfl,fun h=>absurd h (by omega),by omega,by simp,Blk.new _ _ _,(Below.refl _ _).alloc (Nat.le_refl _) _⟩
  case round=>
   obtain ⟨k,last,hk,rfl,hz0,hp,h0,hr,BA,hB⟩:=hrel;have HR:Hid (Yx i1 0 l13=Yx i1 last (l13.drop k)):=hr;have hz:=hB.size;have cA:=BA.cell;have HA:Hid (Blk wr w.heap.size _ 36):=BA;have HBB:Hid _:=hB;clear hr BA;by_cases hlt:k<l13.length
   ·obtain ⟨b,off,rfl,hj⟩:=hc k hlt
    have hck:=(hB.cell (p:=⟨b,off+k,none⟩) (Xb (hj k hlt))).trans (hj k hlt);have HD:Hid (Yx i1 last (l13.drop k)=(inB l13[k] (last+1) i1 && Yx i1 l13[k] (l13.drop (k+1)))):=Z1y i1 last l13 k hlt;cases hi:inB l13[k] 1 i1
    ·have HL:Hid (∀ u:World,Calls Tryz.prog 56 #[.int .i64 l13[k],.int .i64 1,.int .i64 i1] u fun e w'=>e=.returned (.bool false)/\w'=u):=fun u=>by rw [<-hi];exact Za _ _ _ _
     have hno:inB l13[k] (last+1) i1=false:=by rw [Z02] at hi ⊢;omega
     rw [hno] at HD;clear hc hj hp hno hi hB;generalize l13[k]=y at *
     go_wp2_with fail
     go_quiet ((go_at_call 56;exact Calls.quiet_of_same (HL.out _)))
     go_wp2;go_ret;exact ⟨by rw [HR.out,HD.out];rfl,HBB.out.trans ⟨rfl,rfl,rfl,Nat.le_refl _,fun _ _=>rfl⟩⟩
    ·have HL:Hid (∀ u:World,Calls Tryz.prog 56 #[.int .i64 l13[k],.int .i64 1,.int .i64 i1] u fun e w'=>e=.returned (.bool true)/\w'=u):=fun u=>by rw [<-hi];exact Za _ _ _ _
     have hi2:=(Zr _ _ _).1 hi;by_cases hk0:k=0
     ·subst hk0
      obtain rfl:=hz0 rfl;rw [show inB l13[0] (0+1) i1=true by simpa using hi] at HD;clear hc hj hp hi hB hz0;simp only [Nat.add_zero] at hck;generalize hy:l13[0]=y at hck HD HL hi2;have HN:Hid (∀(hk:0<1) (h':1-1<l13.length),y=l13[1-1]):=fun _ _=>hy.symm
      clear hy
      go_wp2_with fail
      go_quiet ((go_at_call 56;exact Calls.quiet_of_same (HL.out _)))
      go_wp2
      go_roundw
      case rel=>exact ⟨1,y,by omega,by go_num,fun h=>absurd h (by omega),HN.out,by omega,by rw [HR.out,HD.out];rfl,HA.out.keep rfl,HBB.out.trans ⟨rfl,rfl,rfl,Nat.le_refl _,fun _ _=>rfl⟩⟩
      case measure=>simp [intOf];omega
     ·obtain ⟨j,rfl⟩:∃ j,k=j+1:=⟨k-1,by omega⟩
      have hjl:j<l13.length:=by omega
      have hcj:=(hB.cell (p:=⟨b,off+j,none⟩) (Xb (hj j hjl))).trans (hj j hjl);have hla:=hp (by omega) hjl;simp only [Nat.add_sub_cancel] at hla;by_cases hle:l13[j+1]<=l13[j]
      ·have hno:inB l13[j+1] (last+1) i1=false:=by rw [Z02];omega
       rw [hno] at HD;clear hc hj hp hi hB hz0 hno hla;generalize l13[j+1]=y at *;generalize l13[j]=x at *
       go_wp2_with fail
       go_quiet ((go_at_call 56;exact Calls.quiet_of_same (HL.out _)))
       go_wp2;go_ret;exact ⟨by rw [HR.out,HD.out];rfl,HBB.out.trans ⟨rfl,rfl,rfl,Nat.le_refl _,fun _ _=>rfl⟩⟩
      ·have hno:inB l13[j+1] (last+1) i1=true:=by rw [Zr];omega
       rw [hno] at HD;clear hc hj hp hi hB hz0 hno hla;generalize hy:l13[j+1]=y at hck HD HL hi2 hle;have HN:Hid (∀(hk:0<j+1+1) (h':j+1+1-1<l13.length),y=l13[j+1+1-1]):=fun _ _=>hy.symm
       clear hy;generalize l13[j]=x at hcj hle
       go_wp2_with fail
       go_quiet ((go_at_call 56;exact Calls.quiet_of_same (HL.out _)))
       go_wp2
       go_roundw
       case rel=>exact ⟨j+1+1,y,by omega,by go_num,fun h=>absurd h (by omega),HN.out,by omega,by rw [HR.out,HD.out];rfl,HA.out.keep rfl,HBB.out.trans ⟨rfl,rfl,rfl,Nat.le_refl _,fun _ _=>rfl⟩⟩
       case measure=>simp [intOf];omega
   ·have hd:l13.drop k = []:=List.drop_of_length_le (by omega)
    have HX:Hid (Ix wr (.slice a13 l13.length cap13) l13):=H13.out.below hB;have HT:Hid (Yx i1 0 l13=true):=(by rw [HR.out,hd];rfl:Yx i1 0 l13=true);have hlen:=Z37 i1 l13 0 HT.out (by omega);clear hc hp hd hB;cases hh:hasB i0 l13
    ·go_wp2_with (go_at_call 99;refine sw (Z1l _ l13 _ _ HX.out) ?_;rw [hh])
     go_ret;exact ⟨by rw [HT.out,hh];rfl,HBB.out⟩
    ·go_wp2_with (first
      |(go_at_call 99;refine sw (Z1l _ l13 _ _ HX.out) ?_;rw [hh])
      |(go_at_call 100;refine sw (Z16 _ _ hodd (by omega) (by omega) _) ?_))
     go_ret;exact ⟨by rw [HT.out,hh];simp,HBB.out⟩
 exact absurd ⟨h1,h2⟩ h12
theorem Z3v (w:World)(e:Ent):Xv (w.alloc (.cells #[.int .i64 e.t,.int .i64 e.cl,.int .i64 e.sq,.int .i64 e.op,.string e.k,.string e.v,.string e.o] 118)) w.heap.size 0 e:=by
 refine ⟨?_,?_,?_,?_,?_,?_,?_⟩ <;> simp
theorem l4entries_anyQSnCp (v:Value)(l:List Ent)(w:World)(hv:Es w v l)(hll:l.length<=1000000) :
  Calls Tryz.prog 102 #[v] w fun e w'=>∃ v',e=.returned v'/\Zv w' w.heap.size v' l/\Below w.heap.size w w':=by
 obtain ⟨hm,hf,a,cap,rfl,hc⟩:=hv;unfold maxLen at hm;go_enter Tryz.func102,Tryz.ntmps102;go_wp2
 go_loopw [3,4] (fun s i wr=>∃ k:Nat,k<=l.length/\i=.int .i64 k/\Zv wr w.heap.size s (l.take k)/\Below w.heap.size w wr) (fun _ i _=>l.length-(intOf i).toNat)
 case atStart=>exact ⟨0,Nat.zero_le _,rfl,Zv.made w w.heap.size (Nat.le_refl _),(Below.refl _ _).alloc (Nat.le_refl _) _⟩
 case round=>
  obtain ⟨k,hk,rfl,ho,hB⟩:=hrel;have hz:=hB.size;by_cases hlt:k<l.length
  ·obtain ⟨b,off,rfl,hj⟩:=hc k hlt
   have hfk:=hf l[k] (List.getElem_mem hlt);obtain ⟨c0,c1,c2,c3,c4,c5,c6⟩:=(hj k hlt).below hB;obtain ⟨a3,cap3,rfl⟩:=ho.shape;have hlen:(l.take k).length=k:=by rw [List.length_take];omega
   have HT:Hid (l.take (k+1)=l.take k ++ [l[k]]):=List.take_succ_eq_append_getElem hlt;have HO:Hid (Zv wr w.heap.size (.slice a3 (l.take k).length cap3) (l.take k)):=ho;have HBB:Hid _:=hB;clear hc hj hf ho hB;generalize l[k]=e at *
   go_wp2_with (at_builtin;refine Xu rfl (.tmp 12) (.tmp 17) rfl e hfk (HO.out.below ((Below.refl _ _).alloc (Nat.le_refl _) _)) rfl wr.heap.size 1 (Z3v wr e) rfl (by rw [hlen];omega) (by simp;omega) ?_;intro v' w' ho' hg;have hb':=growE hg (HO.out.below ((Below.refl _ _).alloc (Nat.le_refl _) _)) (by simp;omega))
   go_roundw
   case rel=>exact ⟨k+1,by omega,by go_num,by rw [HT.out];exact ho',(HBB.out.alloc hz _).trans hb'⟩
   case measure=>simp [intOf];omega
  ·go_wp2
   go_ret;rw [List.take_of_length_le (by omega)] at ho;exact ⟨_,rfl,ho,hB⟩
theorem ix_at {w:World}{a:Option Addr}{n c:Nat}{l:List Int}(h:Ix w (.slice a n c) l)(i:Nat)(hi:i<l.length):∃ b off,a=some ⟨b,off,none⟩/\w.cell? ⟨b,off+i,none⟩=some (.int .i64 l[i]):=by
 obtain ⟨-,a',c',e,hc⟩:=h;simp only [Value.slice.injEq] at e;obtain ⟨rfl,-,rfl⟩:=e;obtain ⟨b,off,rfl,hj⟩:=hc i hi;exact ⟨b,off,rfl,hj i hi⟩
def sameB (l l':List Ent):Bool:=l.length == l'.length && comK l l' == l.length
theorem sameB_self (l:List Ent):sameB l l=true:=by simp [sameB,comK_self]
theorem common_any (v u:Value)(l l':List Ent)(w:World)(hv:Es w v l)(hu:Es w u l')(hll:l.length<=1048576)(hll':l'.length<=1048576) :
  Calls Tryz.prog 74 #[v,u] w fun e w'=>e=.returned (.int .i64 (comK l l':Nat))/\∃ n,w'=w.drewN n:=by
 obtain ⟨hl,hf,a,cap,rfl,hc⟩:=hv;obtain ⟨hl',hf',a',cap',rfl,hc'⟩:=hu;go_enter Tryz.func74,Tryz.ntmps74;go_wp2
 go_loopw [5] (fun i wr=>∃ k:Nat,k<=l.length/\k<=l'.length/\i=.int .i64 k/\comK l l'=k+comK (l.drop k) (l'.drop k)/\∃ n,wr=w.drewN n) (fun i _=>l.length-(intOf i).toNat)
 case atStart=>exact ⟨0,Nat.zero_le _,Nat.zero_le _,rfl,by simp,0,rfl⟩
 case round=>
  obtain ⟨k,hk,hk',rfl,hcom,nd,rfl⟩:=hrel;have HC:Hid (comK l l'=k+comK (l.drop k) (l'.drop k)):=hcom;clear hcom;by_cases hlt:k<l.length/\k<l'.length
  ·obtain ⟨hlt,hlt'⟩:=hlt
   obtain ⟨b,off,rfl,hj⟩:=hc k hlt;obtain ⟨b',off',rfl,hj'⟩:=hc' k hlt';obtain ⟨c0,c1,c2,c3,c4,c5,c6⟩:=hj k hlt;obtain ⟨d0,d1,d2,d3,d4,d5,d6⟩:=hj' k hlt';have HS:Hid (comK (l.drop k) (l'.drop k)=if Z21 l[k] l'[k] then comK (l.drop (k+1)) (l'.drop (k+1))+1 else 0):=comK_step l l' k hlt hlt';clear hc hj hc' hj';generalize l[k]=e at *;generalize l'[k]=e' at *;have hE:∀ u:World,(Op.equalIn 10000 118 (.agg #[.int .i64 e.t,.int .i64 e.cl,.int .i64 e.sq,.int .i64 e.op,.string e.k,.string e.v,.string e.o]) (.agg #[.int .i64 e'.t,.int .i64 e'.cl,.int .i64 e'.sq,.int .i64 e'.op,.string e'.k,.string e'.v,.string e'.o])).run Tryz.prog u=.ok (Z21 e e') u:=fun u=>eqEnt_run 9997 e e' u
   cases hq:Z21 e e'
   ·rw [hq] at hE HS
    go_wp2;go_quiet (fail)
    go_wp2;go_ret;exact ⟨by rw [HC.out,HS.out];simp,nd+nq,by rw [World.drewN_drewN]⟩
   ·rw [hq] at hE HS
    go_wp2;go_quiet (fail)
    go_wp2
    go_roundw
    case rel=>exact ⟨k+1,by omega,by omega,by go_num,by rw [HC.out,HS.out];simp;omega,_,rfl⟩
    case measure=>simp [intOf];omega
  ·have hend:Hid (comK (l.drop k) (l'.drop k)=0):=comK_end l l' k hlt
   by_cases hs:k<l.length
   ·have hk2:¬ k<l'.length:=by omega
    go_wp2;go_quiet (fail)
    go_wp2;go_ret;exact ⟨by rw [HC.out,hend.out];simp,nd+nq,by rw [World.drewN_drewN]⟩
   ·go_wp2
    go_quiet (fail)
    go_wp2;go_ret;exact ⟨by rw [HC.out,hend.out];simp,nd+nq,by rw [World.drewN_drewN]⟩
theorem sameLog_any (v u:Value)(l l':List Ent)(w:World)(hv:Es w v l)(hu:Es w u l')(hll:l.length<=1048576)(hll':l'.length<=1048576) :
  Calls Tryz.prog 61 #[v,u] w fun e w'=>e=.returned (.bool (sameB l l'))/\∃ n,w'=w.drewN n:=by
 have hc0:=common_any v u l l' w hv hu hll hll';obtain ⟨hl,hf,a,cap,rfl,hc⟩:=hv;obtain ⟨hl',hf',a',cap',rfl,hc'⟩:=hu;unfold maxLen at hl hl';clear hc hc' hf hf';have hS:sameB l l'=(l.length == l'.length && comK l l' == l.length):=rfl;generalize sameB l l'=S at *;generalize comK l l'=K at *;generalize l.length=n at *;generalize l'.length=n' at *;have HC:Hid (Calls Tryz.prog 74 #[.slice a n cap,.slice a' n' cap'] w fun e w'=>e=.returned (.int .i64 (K:Nat))/\∃ n,w'=w.drewN n):=hc0;have HS:Hid (S=(n == n' && K == n)):=hS;clear hc0 hS;by_cases h:n=n'
 ·subst h
  have hs:S=((K:Int) == (n:Int)):=by
   rw [HS.out,beq_self_eq_true,Bool.true_and];by_cases hh:K=n
   ·simp [hh]
   ·rw [beq_eq_false_iff_ne.2 hh,eq_comm,beq_eq_false_iff_ne];omega
  have Hs:Hid (S=((K:Int) == (n:Int))):=hs;clear hs;go_enter Tryz.func61,Tryz.ntmps61
  go_wp2_with (go_at_call 74;refine HC.out.mono ?_;rintro e w1 ⟨rfl,nd,rfl⟩)
  go_ret;exact ⟨by rw [Hs.out];rfl,_,rfl⟩
 ·have hd:((n:Int) == (n':Int))=false:=by rw [beq_eq_false_iff_ne];omega
  have hs:Hid (S=false):=(by rw [HS.out];simp [h]:S=false);clear h;go_enter Tryz.func61,Tryz.ntmps61;go_wp2;go_ret;exact ⟨by rw [hs.out];rfl,0,rfl⟩
end Go.Proofs.YtmmpoppgabadmaaGreat
