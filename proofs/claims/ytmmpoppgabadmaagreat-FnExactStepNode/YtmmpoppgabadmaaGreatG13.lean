import Derived.Test.YtmmpoppgabadmaaGreatG09
import Derived.Deep.QuietTactic
import Derived.BigQuiet
set_option linter.unusedVariables false
set_option linter.unusedSimpArgs false
set_option maxRecDepth 100000
set_option maxHeartbeats 16000000
namespace Go.Proofs.YtmmpoppgabadmaaGreat
open Go.RowKit
theorem Z42 (most:Int):∀(l:List Int) (last:Int),Yo most last l=true->last<=most->(l.length:Int)<=most-last
 | [],last,_,h=>by simp;omega
 | x :: l,last,h,hm=>by
  simp only [Yo,Bool.and_eq_true,Zk] at h;have:=Z42 most l x h.2 h.1.2;simp only [List.length_cons];omega
def Yr (ro sz id:Int)(l:List Int):Bool:=if ro≠1/\ro≠2 then (l.length:Int) == 0 else Yo sz 0 l && (Jq id l && !majB l.length sz)
theorem Z4u (i0 i1 i2 i3 i4 i5 i6 i7 i8 i9 i10 i11:Int)(a12 a13 a14 a15 a16 a17:Option Addr)(cap12 cap13 cap14 cap15 cap16 cap17:Nat)(l12:List Ent)(l13 l14 l15 l16 l17:List Int)(w:World)(h13:Ix w (.slice a13 l13.length cap13) l13)(hs:0<=i1)(hs7:i1<=7):Calls Tryz.prog 72 #[.agg #[.int .i64 i0,.int .i64 i1,.int .i64 i2,.int .i64 i3,.int .i64 i4,.int .i64 i5,.int .i64 i6,.int .i64 i7,.int .i64 i8,.int .i64 i9,.int .i64 i10,.int .i64 i11,.slice a12 l12.length cap12,.slice a13 l13.length cap13,.slice a14 l14.length cap14,.slice a15 l15.length cap15,.slice a16 l16.length cap16,.slice a17 l17.length cap17]] w fun e w'=>e=.returned (.bool (Yr i6 i1 i0 l13))/\Below w.heap.size w w':=by
 have hb0:Hid (Below w.heap.size w (w.alloc (.cells #[.int .i64 i0,.int .i64 i1,.int .i64 i2,.int .i64 i3,.int .i64 i4,.int .i64 i5,.int .i64 i6,.int .i64 i7,.int .i64 i8,.int .i64 i9,.int .i64 i10,.int .i64 i11,.slice a12 l12.length cap12,.slice a13 l13.length cap13,.slice a14 l14.length cap14,.slice a15 l15.length cap15,.slice a16 l16.length cap16,.slice a17 l17.length cap17] 36))):=(Below.refl _ _).alloc (Nat.le_refl _) _;have H13:Hid (Ix w (.slice a13 l13.length cap13) l13):=h13;replace h13:=h13.1;have hl:=h13;clear h13;unfold maxLen at hl;by_cases h12:i6≠1/\i6≠2
 ·obtain ⟨ha,hb⟩:=h12
  rw [show Yr i6 i1 i0 l13=((l13.length:Int) == 0) by simp [Yr,ha,hb]];have na:(i6 != 1)=true:=by simpa using ha
  have nb:(i6 != 2)=true:=by simpa using hb
  clear ha hb;go_enter Tryz.func72,Tryz.ntmps72;go_wp2;go_ret;exact ⟨rfl,hb0.out⟩
 rw [show Yr i6 i1 i0 l13=(Yo i1 0 l13 && (Jq i0 l13 && !majB l13.length i1)) by unfold Yr;rw [if_neg h12]];by_cases h1:i6=1
 ·subst h1
  clear h12;cases hr:Yo i1 0 l13
  ·go_enter Tryz.func72,Tryz.ntmps72
   go_wp2_with (go_at_call 110;refine sw (Xc _ l13 _ _ (H13.out.below hb0.out) hs (by omega)) ?_;rw [hr])
   go_ret;exact ⟨rfl,hb0.out⟩
  cases hc:Jq i0 l13
  ·go_enter Tryz.func72,Tryz.ntmps72
   go_wp2_with (first
    |(go_at_call 110;refine sw (Xc _ l13 _ _ (H13.out.below hb0.out) hs (by omega)) ?_;rw [hr])
    |(go_at_call 111;refine sw (Z0e _ l13 _ _ (H13.out.below hb0.out)) ?_;rw [hc]))
   go_ret;exact ⟨rfl,hb0.out⟩
  ·go_enter Tryz.func72,Tryz.ntmps72
   go_wp2_with (first
    |(go_at_call 110;refine sw (Xc _ l13 _ _ (H13.out.below hb0.out) hs (by omega)) ?_;rw [hr])
    |(go_at_call 111;refine sw (Z0e _ l13 _ _ (H13.out.below hb0.out)) ?_;rw [hc])
    |(go_at_call 112;refine sw (J4 _ _ hs hs7 _) ?_))
   go_ret;exact ⟨by simp,hb0.out⟩
 by_cases h2:i6=2
 ·subst h2
  clear h12;cases hr:Yo i1 0 l13
  ·go_enter Tryz.func72,Tryz.ntmps72
   go_wp2_with (go_at_call 110;refine sw (Xc _ l13 _ _ (H13.out.below hb0.out) hs (by omega)) ?_;rw [hr])
   go_ret;exact ⟨rfl,hb0.out⟩
  cases hc:Jq i0 l13
  ·go_enter Tryz.func72,Tryz.ntmps72
   go_wp2_with (first
    |(go_at_call 110;refine sw (Xc _ l13 _ _ (H13.out.below hb0.out) hs (by omega)) ?_;rw [hr])
    |(go_at_call 111;refine sw (Z0e _ l13 _ _ (H13.out.below hb0.out)) ?_;rw [hc]))
   go_ret;exact ⟨rfl,hb0.out⟩
  ·go_enter Tryz.func72,Tryz.ntmps72
   go_wp2_with (first
    |(go_at_call 110;refine sw (Xc _ l13 _ _ (H13.out.below hb0.out) hs (by omega)) ?_;rw [hr])
    |(go_at_call 111;refine sw (Z0e _ l13 _ _ (H13.out.below hb0.out)) ?_;rw [hc])
    |(go_at_call 112;refine sw (J4 _ _ hs hs7 _) ?_))
   go_ret;exact ⟨by simp,hb0.out⟩
 exact absurd ⟨h1,h2⟩ h12
theorem Xb (i0 i1 i2 i3 i4 i5 i6 i7 i8 i9 i10 i11:Int)(a12 a13 a14 a15 a16 a17:Option Addr)(cap12 cap13 cap14 cap15 cap16 cap17:Nat)(l12:List Ent)(l13 l14 l15 l16 l17:List Int)(w:World)(h13:Ix w (.slice a13 l13.length cap13) l13)(hs:sizB i1=true):Calls Tryz.prog 59 #[.agg #[.int .i64 i0,.int .i64 i1,.int .i64 i2,.int .i64 i3,.int .i64 i4,.int .i64 i5,.int .i64 i6,.int .i64 i7,.int .i64 i8,.int .i64 i9,.int .i64 i10,.int .i64 i11,.slice a12 l12.length cap12,.slice a13 l13.length cap13,.slice a14 l14.length cap14,.slice a15 l15.length cap15,.slice a16 l16.length cap16,.slice a17 l17.length cap17]] w fun e w'=>e=.returned (.bool (Yr i6 i1 i0 l13))/\Below w.heap.size w w':=by
 have hb0:Hid (Below w.heap.size w (w.alloc (.cells #[.int .i64 i0,.int .i64 i1,.int .i64 i2,.int .i64 i3,.int .i64 i4,.int .i64 i5,.int .i64 i6,.int .i64 i7,.int .i64 i8,.int .i64 i9,.int .i64 i10,.int .i64 i11,.slice a12 l12.length cap12,.slice a13 l13.length cap13,.slice a14 l14.length cap14,.slice a15 l15.length cap15,.slice a16 l16.length cap16,.slice a17 l17.length cap17] 36))):=(Below.refl _ _).alloc (Nat.le_refl _) _;have H13:Hid (Ix w (.slice a13 l13.length cap13) l13):=h13;have hs2:i1=3∨i1=5∨i1=7:=by simpa [sizB,or_assoc] using hs
 clear hs;have hodd:i1%2=1:=by omega
 obtain ⟨hl,a0,cap0,e0,hc⟩:=h13;injection e0 with e1 _ e3;subst e1 e3;unfold maxLen at hl;by_cases h12:i6≠1/\i6≠2
 ·obtain ⟨ha,hb⟩:=h12
  rw [show Yr i6 i1 i0 l13=((l13.length:Int) == 0) by simp [Yr,ha,hb]];have na:(i6 != 1)=true:=by simpa using ha
  have nb:(i6 != 2)=true:=by simpa using hb
  clear ha hb hc;go_enter Tryz.func59,Tryz.ntmps59;go_wp2;go_ret;exact ⟨rfl,hb0.out⟩
 rw [show Yr i6 i1 i0 l13=(Yo i1 0 l13 && (Jq i0 l13 && !majB l13.length i1)) by unfold Yr;rw [if_neg h12]];by_cases h1:i6=1
 ·subst h1
  clear h12;go_enter Tryz.func59,Tryz.ntmps59;go_wp2
  go_loopw [3] (fun i wr=>∃(k:Nat) (last:Int),k<=l13.length/\i=.int .i64 k/\(k=0->last=0)/\(∀(hk:0<k) (h':k-1<l13.length),last=l13[k-1])/\0<=last/\Yo i1 0 l13=Yo i1 last (l13.drop k)/\Blk wr w.heap.size #[.int .i64 i0,.int .i64 i1,.int .i64 i2,.int .i64 i3,.int .i64 i4,.int .i64 i5,.int .i64 1,.int .i64 i7,.int .i64 i8,.int .i64 i9,.int .i64 i10,.int .i64 i11,.slice a12 l12.length cap12,.slice a13 l13.length cap13,.slice a14 l14.length cap14,.slice a15 l15.length cap15,.slice a16 l16.length cap16,.slice a17 l17.length cap17] 36/\Below w.heap.size w wr) (fun i _=>l13.length-(intOf i).toNat)
  case atStart=>exact ⟨0,0,Nat.zero_le _,rfl,fun _=>rfl,fun h=>absurd h (by omega),by omega,by simp,Blk.new _ _ _,(Below.refl _ _).alloc (Nat.le_refl _) _⟩
  case round=>
   obtain ⟨k,last,hk,rfl,hz0,hp,h0,hr,BA,hB⟩:=hrel;have HR:Hid (Yo i1 0 l13=Yo i1 last (l13.drop k)):=hr;have hz:=hB.size;have cA:=BA.cell;have HA:Hid (Blk wr w.heap.size _ 36):=BA;have HBB:Hid _:=hB;clear hr BA;by_cases hlt:k<l13.length
   ·obtain ⟨b,off,rfl,hj⟩:=hc k hlt
    have hck:=(hB.cell (p:=⟨b,off+k,none⟩) (Yd (hj k hlt))).trans (hj k hlt);have HD:Hid (Yo i1 last (l13.drop k)=(inB l13[k] (last+1) i1 && Yo i1 l13[k] (l13.drop (k+1)))):=Z2z i1 last l13 k hlt;cases hi:inB l13[k] 1 i1
    ·have HL:Hid (∀ u:World,Calls Tryz.prog 56 #[.int .i64 l13[k],.int .i64 1,.int .i64 i1] u fun e w'=>e=.returned (.bool false)/\w'=u):=fun u=>by rw [<-hi];exact Z1 _ _ _ _
     have hno:inB l13[k] (last+1) i1=false:=by rw [Z0h] at hi ⊢;omega
     rw [hno] at HD;clear hc hj hp hno hi hB;generalize l13[k]=y at *
     go_wp2_with fail
     go_quiet ((go_at_call 56;exact Calls.quiet_of_same (HL.out _)))
     go_wp2;go_ret;exact ⟨by rw [HR.out,HD.out];rfl,HBB.out.trans ⟨rfl,rfl,rfl,Nat.le_refl _,fun _ _=>rfl⟩⟩
    ·have HL:Hid (∀ u:World,Calls Tryz.prog 56 #[.int .i64 l13[k],.int .i64 1,.int .i64 i1] u fun e w'=>e=.returned (.bool true)/\w'=u):=fun u=>by rw [<-hi];exact Z1 _ _ _ _
     have hi2:=(Zk _ _ _).1 hi;by_cases hk0:k=0
     ·subst hk0
      obtain rfl:=hz0 rfl;rw [show inB l13[0] (0+1) i1=true by simpa using hi] at HD;clear hc hj hp hi hB hz0;simp only [Nat.add_zero] at hck;generalize hy:l13[0]=y at hck HD HL hi2;have HN:Hid (∀(hk:0<1) (h':1-1<l13.length),y=l13[1-1]):=fun _ _=>hy.symm
      clear hy
      go_wp2_with fail
      go_quiet ((go_at_call 56;exact Calls.quiet_of_same (HL.out _)))
      go_wp2
      go_roundw
      case rel=>exact ⟨1,y,by omega,by go_num,fun h=>absurd h (by omega),HN.out,by omega,by rw [HR.out,HD.out];rfl,HA.out.keep rfl,HBB.out.trans ⟨rfl,rfl,rfl,Nat.le_refl _,fun _ _=>rfl⟩⟩
      case measure=>simp [intOf];omega
     ·obtain ⟨j,rfl⟩:∃ j,k=j+1:=⟨k-1,by omega⟩
      have hjl:j<l13.length:=by omega
      have hcj:=(hB.cell (p:=⟨b,off+j,none⟩) (Yd (hj j hjl))).trans (hj j hjl);have hla:=hp (by omega) hjl;simp only [Nat.add_sub_cancel] at hla;by_cases hle:l13[j+1]<=l13[j]
      ·have hno:inB l13[j+1] (last+1) i1=false:=by rw [Z0h];omega
       rw [hno] at HD;clear hc hj hp hi hB hz0 hno hla;generalize l13[j+1]=y at *;generalize l13[j]=x at *
       go_wp2_with fail
       go_quiet ((go_at_call 56;exact Calls.quiet_of_same (HL.out _)))
       go_wp2;go_ret;exact ⟨by rw [HR.out,HD.out];rfl,HBB.out.trans ⟨rfl,rfl,rfl,Nat.le_refl _,fun _ _=>rfl⟩⟩
      ·have hno:inB l13[j+1] (last+1) i1=true:=by rw [Zk];omega
       rw [hno] at HD;clear hc hj hp hi hB hz0 hno hla;generalize hy:l13[j+1]=y at hck HD HL hi2 hle;have HN:Hid (∀(hk:0<j+1+1) (h':j+1+1-1<l13.length),y=l13[j+1+1-1]):=fun _ _=>hy.symm
       clear hy;generalize l13[j]=x at hcj hle
       go_wp2_with fail
       go_quiet ((go_at_call 56;exact Calls.quiet_of_same (HL.out _)))
       go_wp2
       go_roundw
       case rel=>exact ⟨j+1+1,y,by omega,by go_num,fun h=>absurd h (by omega),HN.out,by omega,by rw [HR.out,HD.out];rfl,HA.out.keep rfl,HBB.out.trans ⟨rfl,rfl,rfl,Nat.le_refl _,fun _ _=>rfl⟩⟩
       case measure=>simp [intOf];omega
   ·have hd:l13.drop k = []:=List.drop_of_length_le (by omega)
    have HX:Hid (Ix wr (.slice a13 l13.length cap13) l13):=H13.out.below hB;have HT:Hid (Yo i1 0 l13=true):=(by rw [HR.out,hd];rfl:Yo i1 0 l13=true);have hlen:=Z42 i1 l13 0 HT.out (by omega);clear hc hp hd hB;cases hh:Jq i0 l13
    ·go_wp2_with (go_at_call 99;refine sw (Z09 _ l13 _ _ HX.out) ?_;rw [hh])
     go_ret;exact ⟨by rw [HT.out,hh];rfl,HBB.out⟩
    ·go_wp2_with (first
      |(go_at_call 99;refine sw (Z09 _ l13 _ _ HX.out) ?_;rw [hh])
      |(go_at_call 100;refine sw (J8 _ _ hodd (by omega) (by omega) _) ?_))
     go_ret;exact ⟨by rw [HT.out,hh];simp,HBB.out⟩
 by_cases h2:i6=2
 ·subst h2
  clear h12;go_enter Tryz.func59,Tryz.ntmps59;go_wp2
  go_loopw [3] (fun i wr=>∃(k:Nat) (last:Int),k<=l13.length/\i=.int .i64 k/\(k=0->last=0)/\(∀(hk:0<k) (h':k-1<l13.length),last=l13[k-1])/\0<=last/\Yo i1 0 l13=Yo i1 last (l13.drop k)/\Blk wr w.heap.size #[.int .i64 i0,.int .i64 i1,.int .i64 i2,.int .i64 i3,.int .i64 i4,.int .i64 i5,.int .i64 2,.int .i64 i7,.int .i64 i8,.int .i64 i9,.int .i64 i10,.int .i64 i11,.slice a12 l12.length cap12,.slice a13 l13.length cap13,.slice a14 l14.length cap14,.slice a15 l15.length cap15,.slice a16 l16.length cap16,.slice a17 l17.length cap17] 36/\Below w.heap.size w wr) (fun i _=>l13.length-(intOf i).toNat)
  case atStart=>exact ⟨0,0,Nat.zero_le _,rfl,fun _=>rfl,fun h=>absurd h (by omega),by omega,by simp,Blk.new _ _ _,(Below.refl _ _).alloc (Nat.le_refl _) _⟩
  case round=>
   obtain ⟨k,last,hk,rfl,hz0,hp,h0,hr,BA,hB⟩:=hrel;have HR:Hid (Yo i1 0 l13=Yo i1 last (l13.drop k)):=hr;have hz:=hB.size;have cA:=BA.cell;have HA:Hid (Blk wr w.heap.size _ 36):=BA;have HBB:Hid _:=hB;clear hr BA;by_cases hlt:k<l13.length
   ·obtain ⟨b,off,rfl,hj⟩:=hc k hlt
    have hck:=(hB.cell (p:=⟨b,off+k,none⟩) (Yd (hj k hlt))).trans (hj k hlt);have HD:Hid (Yo i1 last (l13.drop k)=(inB l13[k] (last+1) i1 && Yo i1 l13[k] (l13.drop (k+1)))):=Z2z i1 last l13 k hlt;cases hi:inB l13[k] 1 i1
    ·have HL:Hid (∀ u:World,Calls Tryz.prog 56 #[.int .i64 l13[k],.int .i64 1,.int .i64 i1] u fun e w'=>e=.returned (.bool false)/\w'=u):=fun u=>by rw [<-hi];exact Z1 _ _ _ _
     have hno:inB l13[k] (last+1) i1=false:=by rw [Z0h] at hi ⊢;omega
     rw [hno] at HD;clear hc hj hp hno hi hB;generalize l13[k]=y at *
     go_wp2_with fail
     go_quiet ((go_at_call 56;exact Calls.quiet_of_same (HL.out _)))
     go_wp2;go_ret;exact ⟨by rw [HR.out,HD.out];rfl,HBB.out.trans ⟨rfl,rfl,rfl,Nat.le_refl _,fun _ _=>rfl⟩⟩
    ·have HL:Hid (∀ u:World,Calls Tryz.prog 56 #[.int .i64 l13[k],.int .i64 1,.int .i64 i1] u fun e w'=>e=.returned (.bool true)/\w'=u):=fun u=>by rw [<-hi];exact Z1 _ _ _ _
     have hi2:=(Zk _ _ _).1 hi;by_cases hk0:k=0
     ·subst hk0
      obtain rfl:=hz0 rfl;rw [show inB l13[0] (0+1) i1=true by simpa using hi] at HD;clear hc hj hp hi hB hz0;simp only [Nat.add_zero] at hck;generalize hy:l13[0]=y at hck HD HL hi2;have HN:Hid (∀(hk:0<1) (h':1-1<l13.length),y=l13[1-1]):=fun _ _=>hy.symm
      clear hy
      go_wp2_with fail
      go_quiet ((go_at_call 56;exact Calls.quiet_of_same (HL.out _)))
      go_wp2
      go_roundw
      case rel=>exact ⟨1,y,by omega,by go_num,fun h=>absurd h (by omega),HN.out,by omega,by rw [HR.out,HD.out];rfl,HA.out.keep rfl,HBB.out.trans ⟨rfl,rfl,rfl,Nat.le_refl _,fun _ _=>rfl⟩⟩
      case measure=>simp [intOf];omega
     ·obtain ⟨j,rfl⟩:∃ j,k=j+1:=⟨k-1,by omega⟩
      have hjl:j<l13.length:=by omega
      have hcj:=(hB.cell (p:=⟨b,off+j,none⟩) (Yd (hj j hjl))).trans (hj j hjl);have hla:=hp (by omega) hjl;simp only [Nat.add_sub_cancel] at hla;by_cases hle:l13[j+1]<=l13[j]
      ·have hno:inB l13[j+1] (last+1) i1=false:=by rw [Z0h];omega
       rw [hno] at HD;clear hc hj hp hi hB hz0 hno hla;generalize l13[j+1]=y at *;generalize l13[j]=x at *
       go_wp2_with fail
       go_quiet ((go_at_call 56;exact Calls.quiet_of_same (HL.out _)))
       go_wp2;go_ret;exact ⟨by rw [HR.out,HD.out];rfl,HBB.out.trans ⟨rfl,rfl,rfl,Nat.le_refl _,fun _ _=>rfl⟩⟩
      ·have hno:inB l13[j+1] (last+1) i1=true:=by rw [Zk];omega
       rw [hno] at HD;clear hc hj hp hi hB hz0 hno hla;generalize hy:l13[j+1]=y at hck HD HL hi2 hle;have HN:Hid (∀(hk:0<j+1+1) (h':j+1+1-1<l13.length),y=l13[j+1+1-1]):=fun _ _=>hy.symm
       clear hy;generalize l13[j]=x at hcj hle
       go_wp2_with fail
       go_quiet ((go_at_call 56;exact Calls.quiet_of_same (HL.out _)))
       go_wp2
       go_roundw
       case rel=>exact ⟨j+1+1,y,by omega,by go_num,fun h=>absurd h (by omega),HN.out,by omega,by rw [HR.out,HD.out];rfl,HA.out.keep rfl,HBB.out.trans ⟨rfl,rfl,rfl,Nat.le_refl _,fun _ _=>rfl⟩⟩
       case measure=>simp [intOf];omega
   ·have hd:l13.drop k = []:=List.drop_of_length_le (by omega)
    have HX:Hid (Ix wr (.slice a13 l13.length cap13) l13):=H13.out.below hB;have HT:Hid (Yo i1 0 l13=true):=(by rw [HR.out,hd];rfl:Yo i1 0 l13=true);have hlen:=Z42 i1 l13 0 HT.out (by omega);clear hc hp hd hB;cases hh:Jq i0 l13
    ·go_wp2_with (go_at_call 99;refine sw (Z09 _ l13 _ _ HX.out) ?_;rw [hh])
     go_ret;exact ⟨by rw [HT.out,hh];rfl,HBB.out⟩
    ·go_wp2_with (first
      |(go_at_call 99;refine sw (Z09 _ l13 _ _ HX.out) ?_;rw [hh])
      |(go_at_call 100;refine sw (J8 _ _ hodd (by omega) (by omega) _) ?_))
     go_ret;exact ⟨by rw [HT.out,hh];simp,HBB.out⟩
 exact absurd ⟨h1,h2⟩ h12
end Go.Proofs.YtmmpoppgabadmaaGreat
