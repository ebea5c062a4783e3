import Derived.Test.YtmmpoppgabadmaaGreatG19
import Derived.Deep.RegionHeld3
import Derived.Test.YtmmpoppgabadmaaGreatRows
import Derived.ProofKit
import Derived.OpenShut
import Derived.ShutString
import Derived.ChangeOld
import Derived.Carry
set_option linter.unusedVariables false
set_option linter.unusedSimpArgs false
set_option maxRecDepth 100000
set_option maxHeartbeats 16000000
namespace Go.Proofs.YtmmpoppgabadmaaGreat
open Go.RowKit
def Zw (sz:Int)(ns:List Nat):Bool:=ns.all fun n=>(n:Int) == sz
def Yq (id ln nw:Int)(l14 l15 l16 l17:List Int)(n k:Nat):Bool:=(List.range' k (n-k)).all fun j=>Yc ((j:Int)+1) id ln nw (l14.getD j 0) (l15.getD j 0) (l16.getD j 0) (l17.getD j 0)
theorem Z0s (id ln nw:Int)(l14 l15 l16 l17:List Int)(n k:Nat)(h:k<n):Yq id ln nw l14 l15 l16 l17 n k=(Yc ((k:Int)+1) id ln nw (l14.getD k 0) (l15.getD k 0) (l16.getD k 0) (l17.getD k 0) && Yq id ln nw l14 l15 l16 l17 n (k+1)):=by
 unfold Yq;rw [show n-k=(n-(k+1))+1 by omega,List.range'_succ];rfl
theorem Z0k (id ln nw:Int)(l14 l15 l16 l17:List Int)(n k:Nat)(h:n<=k):Yq id ln nw l14 l15 l16 l17 n k=true:=by
 unfold Yq;rw [show n-k=0 by omega];rfl
def Yr (ro sz id ln nw:Int)(l14 l15 l16 l17:List Int):Bool:=
 Zw (if ro=3 then sz else 0) [l14.length,l15.length,l16.length,l17.length] && Yq id ln nw l14 l15 l16 l17 (if ro=3 then sz else 0).toNat 0
theorem Xj (sz:Int)(a b c d:Nat):Zw sz [a,b,c,d]=true↔(a:Int)=sz/\(b:Int)=sz/\(c:Int)=sz/\(d:Int)=sz:=by simp [Zw]
theorem listsFit_any (i0 i1 i2 i3 i4 i5 i6 i7 i8 i9 i10 i11:Int)(a12 a13 a14 a15 a16 a17:Option Addr)(cap12 cap13 cap14 cap15 cap16 cap17:Nat)(l12:List Ent)(l13 l14 l15 l16 l17:List Int)(w:World)(h14:Ix w (.slice a14 l14.length cap14) l14)(h15:Ix w (.slice a15 l15.length cap15) l15)(h16:Ix w (.slice a16 l16.length cap16) l16)(h17:Ix w (.slice a17 l17.length cap17) l17)(hs:0<=i1)(hs7:i1<=7)(hll:l12.length<=1048576):Calls Tryz.prog 73 #[.agg #[.int .i64 i0,.int .i64 i1,.int .i64 i2,.int .i64 i3,.int .i64 i4,.int .i64 i5,.int .i64 i6,.int .i64 i7,.int .i64 i8,.int .i64 i9,.int .i64 i10,.int .i64 i11,.slice a12 l12.length cap12,.slice a13 l13.length cap13,.slice a14 l14.length cap14,.slice a15 l15.length cap15,.slice a16 l16.length cap16,.slice a17 l17.length cap17]] w fun e w'=>e=.returned (.bool (Yr i6 i1 i0 l12.length i9 l14 l15 l16 l17))/\Below w.heap.size w w':=by
 have HP:Hid (∀(u:World) (k:Nat),Below w.heap.size w u->k<l14.length->k<l15.length->k<l16.length->k<l17.length->k<1000->Calls Tryz.prog 113 #[.agg #[.int .i64 i0,.int .i64 i1,.int .i64 i2,.int .i64 i3,.int .i64 i4,.int .i64 i5,.int .i64 i6,.int .i64 i7,.int .i64 i8,.int .i64 i9,.int .i64 i10,.int .i64 i11,.slice a12 l12.length cap12,.slice a13 l13.length cap13,.slice a14 l14.length cap14,.slice a15 l15.length cap15,.slice a16 l16.length cap16,.slice a17 l17.length cap17],.int .i64 ((k:Int)+1)] u fun e w'=>e=.returned (.bool (Yc ((k:Int)+1) i0 l12.length i9 (l14.getD k 0) (l15.getD k 0) (l16.getD k 0) (l17.getD k 0)))/\Below u.heap.size u w'):=fun u k hu k14 k15 k16 k17 hk=>by
  have:=Z2g i0 i1 i2 i3 i4 i5 i6 i7 i8 i9 i10 i11 a12 a13 a14 a15 a16 a17 cap12 cap13 cap14 cap15 cap16 cap17 l12 l13 l14 l15 l16 l17 u k (h14.below hu) (h15.below hu) (h16.below hu) (h17.below hu) k14 k15 k16 k17 hk hll;simpa only [List.getD_eq_getElem?_getD,List.getElem?_eq_getElem,k14,k15,k16,k17,Option.getD_some] using this
 have m14:=h14.1;have m15:=h15.1;have m16:=h16.1;have m17:=h17.1;unfold maxLen at m14 m15 m16 m17;clear h14 h15 h16 h17;by_cases hro:i6=3
 ·subst hro
  have HL:Hid (Yr 3 i1 i0 l12.length i9 l14 l15 l16 l17=(Zw i1 [l14.length,l15.length,l16.length,l17.length] && Yq i0 l12.length i9 l14 l15 l16 l17 i1.toNat 0)):=(by simp [Yr]:Yr 3 i1 i0 l12.length i9 l14 l15 l16 l17=(Zw i1 [l14.length,l15.length,l16.length,l17.length] && Yq i0 l12.length i9 l14 l15 l16 l17 i1.toNat 0));go_enter Tryz.func73,Tryz.ntmps73;go_wp2;go_loop [22] (fun i=>∃ k:Nat,k<=4/\i=.int .i64 k/\Zw (i1) [l14.length,l15.length,l16.length,l17.length]=Zw (i1) ([l14.length,l15.length,l16.length,l17.length].drop k)) (fun i=>4-(intOf i).toNat)
  case atStart=>exact ⟨0,by omega,rfl,rfl⟩
  case round=>
   obtain ⟨k,hk,rfl,hr⟩:=hrel;have HR:Hid (Zw (i1) [l14.length,l15.length,l16.length,l17.length]=Zw (i1) ([l14.length,l15.length,l16.length,l17.length].drop k)):=hr;clear hr;rcases (show k=0∨k=1∨k=2∨k=3∨k=4 by omega) with rfl | rfl | rfl | rfl | rfl
   ·by_cases hq:(l14.length:Int)=i1
    ·have nq:((l14.length:Int) == i1)=true:=by simpa using hq
     have HN:Hid (Zw (i1) [l14.length,l15.length,l16.length,l17.length]=Zw (i1) ([l14.length,l15.length,l16.length,l17.length].drop 1)):=(by rw [HR.out];simp only [Zw,List.drop_zero,List.drop_succ_cons,List.all_cons,nq,Bool.true_and]:Zw (i1) [l14.length,l15.length,l16.length,l17.length]=Zw (i1) ([l14.length,l15.length,l16.length,l17.length].drop 1));clear hq;go_wp2;go_round
     case rel=>exact ⟨1,by omega,by go_num,HN.out⟩
     case measure=>simp [intOf]
    ·have nq:((l14.length:Int) == i1)=false:=by simpa using hq
     have HN:Hid (Zw (i1) [l14.length,l15.length,l16.length,l17.length]=false):=(by rw [HR.out];simp only [Zw,List.drop_zero,List.drop_succ_cons,List.all_cons,nq,Bool.false_and]:Zw (i1) [l14.length,l15.length,l16.length,l17.length]=false);clear hq;go_wp2;go_ret;exact ⟨by rw [HL.out,HN.out];rfl,((Below.refl _ _).alloc (Nat.le_refl _) _).alloc (by simp) _⟩
   ·by_cases hq:(l15.length:Int)=i1
    ·have nq:((l15.length:Int) == i1)=true:=by simpa using hq
     have HN:Hid (Zw (i1) [l14.length,l15.length,l16.length,l17.length]=Zw (i1) ([l14.length,l15.length,l16.length,l17.length].drop 2)):=(by rw [HR.out];simp only [Zw,List.drop_zero,List.drop_succ_cons,List.all_cons,nq,Bool.true_and]:Zw (i1) [l14.length,l15.length,l16.length,l17.length]=Zw (i1) ([l14.length,l15.length,l16.length,l17.length].drop 2));clear hq;go_wp2;go_round
     case rel=>exact ⟨2,by omega,by go_num,HN.out⟩
     case measure=>simp [intOf]
    ·have nq:((l15.length:Int) == i1)=false:=by simpa using hq
     have HN:Hid (Zw (i1) [l14.length,l15.length,l16.length,l17.length]=false):=(by rw [HR.out];simp only [Zw,List.drop_zero,List.drop_succ_cons,List.all_cons,nq,Bool.false_and]:Zw (i1) [l14.length,l15.length,l16.length,l17.length]=false);clear hq;go_wp2;go_ret;exact ⟨by rw [HL.out,HN.out];rfl,((Below.refl _ _).alloc (Nat.le_refl _) _).alloc (by simp) _⟩
   ·by_cases hq:(l16.length:Int)=i1
    ·have nq:((l16.length:Int) == i1)=true:=by simpa using hq
     have HN:Hid (Zw (i1) [l14.length,l15.length,l16.length,l17.length]=Zw (i1) ([l14.length,l15.length,l16.length,l17.length].drop 3)):=(by rw [HR.out];simp only [Zw,List.drop_zero,List.drop_succ_cons,List.all_cons,nq,Bool.true_and]:Zw (i1) [l14.length,l15.length,l16.length,l17.length]=Zw (i1) ([l14.length,l15.length,l16.length,l17.length].drop 3));clear hq;go_wp2;go_round
     case rel=>exact ⟨3,by omega,by go_num,HN.out⟩
     case measure=>simp [intOf]
    ·have nq:((l16.length:Int) == i1)=false:=by simpa using hq
     have HN:Hid (Zw (i1) [l14.length,l15.length,l16.length,l17.length]=false):=(by rw [HR.out];simp only [Zw,List.drop_zero,List.drop_succ_cons,List.all_cons,nq,Bool.false_and]:Zw (i1) [l14.length,l15.length,l16.length,l17.length]=false);clear hq;go_wp2;go_ret;exact ⟨by rw [HL.out,HN.out];rfl,((Below.refl _ _).alloc (Nat.le_refl _) _).alloc (by simp) _⟩
   ·by_cases hq:(l17.length:Int)=i1
    ·have nq:((l17.length:Int) == i1)=true:=by simpa using hq
     have HN:Hid (Zw (i1) [l14.length,l15.length,l16.length,l17.length]=Zw (i1) ([l14.length,l15.length,l16.length,l17.length].drop 4)):=(by rw [HR.out];simp only [Zw,List.drop_zero,List.drop_succ_cons,List.all_cons,nq,Bool.true_and]:Zw (i1) [l14.length,l15.length,l16.length,l17.length]=Zw (i1) ([l14.length,l15.length,l16.length,l17.length].drop 4));clear hq;go_wp2;go_round
     case rel=>exact ⟨4,by omega,by go_num,HN.out⟩
     case measure=>simp [intOf]
    ·have nq:((l17.length:Int) == i1)=false:=by simpa using hq
     have HN:Hid (Zw (i1) [l14.length,l15.length,l16.length,l17.length]=false):=(by rw [HR.out];simp only [Zw,List.drop_zero,List.drop_succ_cons,List.all_cons,nq,Bool.false_and]:Zw (i1) [l14.length,l15.length,l16.length,l17.length]=false);clear hq;go_wp2;go_ret;exact ⟨by rw [HL.out,HN.out];rfl,((Below.refl _ _).alloc (Nat.le_refl _) _).alloc (by simp) _⟩
   ·have HT:Zw (i1) [l14.length,l15.length,l16.length,l17.length]=true:=by rw [HR.out];rfl
    obtain ⟨q14,q15,q16,q17⟩:=(Xj _ _ _ _ _).1 HT;rw [HT] at HL;clear HR HT;go_wp2
    go_loopw [32] (fun i wr=>∃ k:Nat,(k:Int)<=i1/\i=.int .i64 k/\Yq i0 l12.length i9 l14 l15 l16 l17 (i1).toNat 0=Yq i0 l12.length i9 l14 l15 l16 l17 (i1).toNat k/\Blk wr w.heap.size #[.int .i64 i0,.int .i64 i1,.int .i64 i2,.int .i64 i3,.int .i64 i4,.int .i64 i5,.int .i64 3,.int .i64 i7,.int .i64 i8,.int .i64 i9,.int .i64 i10,.int .i64 i11,.slice a12 l12.length cap12,.slice a13 l13.length cap13,.slice a14 l14.length cap14,.slice a15 l15.length cap15,.slice a16 l16.length cap16,.slice a17 l17.length cap17] 36/\Below w.heap.size w wr) (fun i _=>8-(intOf i).toNat)
    case atStart=>exact ⟨0,by omega,rfl,rfl,(Blk.new _ _ _).alloc _,((Below.refl _ _).alloc (Nat.le_refl _) _).alloc (by simp) _⟩
    case round=>
     obtain ⟨k,hk,rfl,hr,BA,hB⟩:=hrel;have HR:Hid (Yq i0 l12.length i9 l14 l15 l16 l17 (i1).toNat 0=Yq i0 l12.length i9 l14 l15 l16 l17 (i1).toNat k):=hr;have HBB:Hid _:=hB;have HA:Hid (Blk wr w.heap.size _ 36):=BA;have hz:=hB.size;have hlt0:=BA.lt;clear hr BA hB;by_cases hlt:(k:Int)<i1
     ·have HD:Hid (Yq i0 l12.length i9 l14 l15 l16 l17 (i1).toNat k=_):=Z0s i0 l12.length i9 l14 l15 l16 l17 (i1).toNat k (by omega)
      generalize hq:Yc ((k:Int)+1) i0 l12.length i9 (l14.getD k 0) (l15.getD k 0) (l16.getD k 0) (l17.getD k 0)=q at HD;have HC:Hid (∀ u:World,Below w.heap.size w u->Calls Tryz.prog 113 #[.agg #[.int .i64 i0,.int .i64 i1,.int .i64 i2,.int .i64 i3,.int .i64 i4,.int .i64 i5,.int .i64 3,.int .i64 i7,.int .i64 i8,.int .i64 i9,.int .i64 i10,.int .i64 i11,.slice a12 l12.length cap12,.slice a13 l13.length cap13,.slice a14 l14.length cap14,.slice a15 l15.length cap15,.slice a16 l16.length cap16,.slice a17 l17.length cap17],.int .i64 ((k:Int)+1)] u fun e w'=>e=.returned (.bool q)/\Below u.heap.size u w'):=fun u hu=>by rw [<-hq];exact HP.out u k hu (by omega) (by omega) (by omega) (by omega) (by omega)
      clear hq;cases q
      ·go_wp2_with (first
        |(refine Zx 36 (.tmp 1) rfl ?_;refine Zk rfl 36 (.tmp 1) rfl (w.heap.size) rfl HA.out Tryz.underlying36 rfl Xe rfl ?_)
        |(go_at_call 113;refine (HC.out _ HBB.out).mono ?_;rintro e w1 ⟨rfl,hb1⟩))
       go_ret;exact ⟨by rw [HL.out,HR.out,HD.out];rfl,HBB.out.trans (hb1.mono hz)⟩
      ·go_wp2_with (first
        |(refine Zx 36 (.tmp 1) rfl ?_;refine Zk rfl 36 (.tmp 1) rfl (w.heap.size) rfl HA.out Tryz.underlying36 rfl Xe rfl ?_)
        |(go_at_call 113;refine (HC.out _ HBB.out).mono ?_;rintro e w1 ⟨rfl,hb1⟩))
       go_roundw
       case rel=>exact ⟨k+1,by omega,by go_num,by rw [HR.out,HD.out];rfl,HA.out.below hb1 hlt0,HBB.out.trans (hb1.mono hz)⟩
       case measure=>simp [intOf];omega
     ·go_wp2
      go_ret;exact ⟨by rw [HL.out,HR.out,Z0k _ _ _ _ _ _ _ _ _ (by omega)];rfl,HBB.out⟩
 ·have nro:(i6 == 3)=false:=by simpa using hro
  have HL:Hid (Yr i6 i1 i0 l12.length i9 l14 l15 l16 l17=(Zw 0 [l14.length,l15.length,l16.length,l17.length] && Yq i0 l12.length i9 l14 l15 l16 l17 (0:Int).toNat 0)):=(by simp [Yr,hro]:Yr i6 i1 i0 l12.length i9 l14 l15 l16 l17=(Zw 0 [l14.length,l15.length,l16.length,l17.length] && Yq i0 l12.length i9 l14 l15 l16 l17 (0:Int).toNat 0));clear hro;go_enter Tryz.func73,Tryz.ntmps73;go_wp2;go_loop [22] (fun i=>∃ k:Nat,k<=4/\i=.int .i64 k/\Zw 0 [l14.length,l15.length,l16.length,l17.length]=Zw (0) ([l14.length,l15.length,l16.length,l17.length].drop k)) (fun i=>4-(intOf i).toNat)
  case atStart=>exact ⟨0,by omega,rfl,rfl⟩
  case round=>
   obtain ⟨k,hk,rfl,hr⟩:=hrel;have HR:Hid (Zw 0 [l14.length,l15.length,l16.length,l17.length]=Zw (0) ([l14.length,l15.length,l16.length,l17.length].drop k)):=hr;clear hr;rcases (show k=0∨k=1∨k=2∨k=3∨k=4 by omega) with rfl | rfl | rfl | rfl | rfl
   ·by_cases hq:(l14.length:Int)=0
    ·have nq:((l14.length:Int) == 0)=true:=by simpa using hq
     have HN:Hid (Zw 0 [l14.length,l15.length,l16.length,l17.length]=Zw (0) ([l14.length,l15.length,l16.length,l17.length].drop 1)):=(by rw [HR.out];simp only [Zw,List.drop_zero,List.drop_succ_cons,List.all_cons,nq,Bool.true_and]:Zw 0 [l14.length,l15.length,l16.length,l17.length]=Zw (0) ([l14.length,l15.length,l16.length,l17.length].drop 1));clear hq;go_wp2;go_round
     case rel=>exact ⟨1,by omega,by go_num,HN.out⟩
     case measure=>simp [intOf]
    ·have nq:((l14.length:Int) == 0)=false:=by simpa using hq
     have HN:Hid (Zw 0 [l14.length,l15.length,l16.length,l17.length]=false):=(by rw [HR.out];simp only [Zw,List.drop_zero,List.drop_succ_cons,List.all_cons,nq,Bool.false_and]:Zw 0 [l14.length,l15.length,l16.length,l17.length]=false);clear hq;go_wp2;go_ret;exact ⟨by rw [HL.out,HN.out];rfl,((Below.refl _ _).alloc (Nat.le_refl _) _).alloc (by simp) _⟩
   ·by_cases hq:(l15.length:Int)=0
    ·have nq:((l15.length:Int) == 0)=true:=by simpa using hq
     have HN:Hid (Zw 0 [l14.length,l15.length,l16.length,l17.length]=Zw (0) ([l14.length,l15.length,l16.length,l17.length].drop 2)):=(by rw [HR.out];simp only [Zw,List.drop_zero,List.drop_succ_cons,List.all_cons,nq,Bool.true_and]:Zw 0 [l14.length,l15.length,l16.length,l17.length]=Zw (0) ([l14.length,l15.length,l16.length,l17.length].drop 2));clear hq;go_wp2;go_round
     case rel=>exact ⟨2,by omega,by go_num,HN.out⟩
     case measure=>simp [intOf]
    ·have nq:((l15.length:Int) == 0)=false:=by simpa using hq
     have HN:Hid (Zw 0 [l14.length,l15.length,l16.length,l17.length]=false):=(by rw [HR.out];simp only [Zw,List.drop_zero,List.drop_succ_cons,List.all_cons,nq,Bool.false_and]:Zw 0 [l14.length,l15.length,l16.length,l17.length]=false);clear hq;go_wp2;go_ret;exact ⟨by rw [HL.out,HN.out];rfl,((Below.refl _ _).alloc (Nat.le_refl _) _).alloc (by simp) _⟩
   ·by_cases hq:(l16.length:Int)=0
    ·have nq:((l16.length:Int) == 0)=true:=by simpa using hq
     have HN:Hid (Zw 0 [l14.length,l15.length,l16.length,l17.length]=Zw (0) ([l14.length,l15.length,l16.length,l17.length].drop 3)):=(by rw [HR.out];simp only [Zw,List.drop_zero,List.drop_succ_cons,List.all_cons,nq,Bool.true_and]:Zw 0 [l14.length,l15.length,l16.length,l17.length]=Zw (0) ([l14.length,l15.length,l16.length,l17.length].drop 3));clear hq;go_wp2;go_round
     case rel=>exact ⟨3,by omega,by go_num,HN.out⟩
     case measure=>simp [intOf]
    ·have nq:((l16.length:Int) == 0)=false:=by simpa using hq
     have HN:Hid (Zw 0 [l14.length,l15.length,l16.length,l17.length]=false):=(by rw [HR.out];simp only [Zw,List.drop_zero,List.drop_succ_cons,List.all_cons,nq,Bool.false_and]:Zw 0 [l14.length,l15.length,l16.length,l17.length]=false);clear hq;go_wp2;go_ret;exact ⟨by rw [HL.out,HN.out];rfl,((Below.refl _ _).alloc (Nat.le_refl _) _).alloc (by simp) _⟩
   ·by_cases hq:(l17.length:Int)=0
    ·have nq:((l17.length:Int) == 0)=true:=by simpa using hq
     have HN:Hid (Zw 0 [l14.length,l15.length,l16.length,l17.length]=Zw (0) ([l14.length,l15.length,l16.length,l17.length].drop 4)):=(by rw [HR.out];simp only [Zw,List.drop_zero,List.drop_succ_cons,List.all_cons,nq,Bool.true_and]:Zw 0 [l14.length,l15.length,l16.length,l17.length]=Zw (0) ([l14.length,l15.length,l16.length,l17.length].drop 4));clear hq;go_wp2;go_round
     case rel=>exact ⟨4,by omega,by go_num,HN.out⟩
     case measure=>simp [intOf]
    ·have nq:((l17.length:Int) == 0)=false:=by simpa using hq
     have HN:Hid (Zw 0 [l14.length,l15.length,l16.length,l17.length]=false):=(by rw [HR.out];simp only [Zw,List.drop_zero,List.drop_succ_cons,List.all_cons,nq,Bool.false_and]:Zw 0 [l14.length,l15.length,l16.length,l17.length]=false);clear hq;go_wp2;go_ret;exact ⟨by rw [HL.out,HN.out];rfl,((Below.refl _ _).alloc (Nat.le_refl _) _).alloc (by simp) _⟩
   ·have HT:Zw 0 [l14.length,l15.length,l16.length,l17.length]=true:=by rw [HR.out];rfl
    obtain ⟨q14,q15,q16,q17⟩:=(Xj _ _ _ _ _).1 HT;rw [HT] at HL;clear HR HT;go_wp2
    go_loopw [32] (fun i wr=>∃ k:Nat,(k:Int)<=0/\i=.int .i64 k/\Yq i0 l12.length i9 l14 l15 l16 l17 (0:Int).toNat 0=Yq i0 l12.length i9 l14 l15 l16 l17 (0:Int).toNat k/\Blk wr w.heap.size #[.int .i64 i0,.int .i64 i1,.int .i64 i2,.int .i64 i3,.int .i64 i4,.int .i64 i5,.int .i64 i6,.int .i64 i7,.int .i64 i8,.int .i64 i9,.int .i64 i10,.int .i64 i11,.slice a12 l12.length cap12,.slice a13 l13.length cap13,.slice a14 l14.length cap14,.slice a15 l15.length cap15,.slice a16 l16.length cap16,.slice a17 l17.length cap17] 36/\Below w.heap.size w wr) (fun i _=>8-(intOf i).toNat)
    case atStart=>exact ⟨0,by omega,rfl,rfl,(Blk.new _ _ _).alloc _,((Below.refl _ _).alloc (Nat.le_refl _) _).alloc (by simp) _⟩
    case round=>
     obtain ⟨k,hk,rfl,hr,BA,hB⟩:=hrel;have HR:Hid (Yq i0 l12.length i9 l14 l15 l16 l17 (0:Int).toNat 0=Yq i0 l12.length i9 l14 l15 l16 l17 (0:Int).toNat k):=hr;have HBB:Hid _:=hB;have HA:Hid (Blk wr w.heap.size _ 36):=BA;have hz:=hB.size;have hlt0:=BA.lt;clear hr BA hB;by_cases hlt:(k:Int)<0
     ·have HD:Hid (Yq i0 l12.length i9 l14 l15 l16 l17 (0:Int).toNat k=_):=Z0s i0 l12.length i9 l14 l15 l16 l17 (0:Int).toNat k (by omega)
      generalize hq:Yc ((k:Int)+1) i0 l12.length i9 (l14.getD k 0) (l15.getD k 0) (l16.getD k 0) (l17.getD k 0)=q at HD;have HC:Hid (∀ u:World,Below w.heap.size w u->Calls Tryz.prog 113 #[.agg #[.int .i64 i0,.int .i64 i1,.int .i64 i2,.int .i64 i3,.int .i64 i4,.int .i64 i5,.int .i64 i6,.int .i64 i7,.int .i64 i8,.int .i64 i9,.int .i64 i10,.int .i64 i11,.slice a12 l12.length cap12,.slice a13 l13.length cap13,.slice a14 l14.length cap14,.slice a15 l15.length cap15,.slice a16 l16.length cap16,.slice a17 l17.length cap17],.int .i64 ((k:Int)+1)] u fun e w'=>e=.returned (.bool q)/\Below u.heap.size u w'):=fun u hu=>by rw [<-hq];exact HP.out u k hu (by omega) (by omega) (by omega) (by omega) (by omega)
      clear hq;cases q
      ·go_wp2_with (first
        |(refine Zx 36 (.tmp 1) rfl ?_;refine Zk rfl 36 (.tmp 1) rfl (w.heap.size) rfl HA.out Tryz.underlying36 rfl Xe rfl ?_)
        |(go_at_call 113;refine (HC.out _ HBB.out).mono ?_;rintro e w1 ⟨rfl,hb1⟩))
       go_ret;exact ⟨by rw [HL.out,HR.out,HD.out];rfl,HBB.out.trans (hb1.mono hz)⟩
      ·go_wp2_with (first
        |(refine Zx 36 (.tmp 1) rfl ?_;refine Zk rfl 36 (.tmp 1) rfl (w.heap.size) rfl HA.out Tryz.underlying36 rfl Xe rfl ?_)
        |(go_at_call 113;refine (HC.out _ HBB.out).mono ?_;rintro e w1 ⟨rfl,hb1⟩))
       go_roundw
       case rel=>exact ⟨k+1,by omega,by go_num,by rw [HR.out,HD.out];rfl,HA.out.below hb1 hlt0,HBB.out.trans (hb1.mono hz)⟩
       case measure=>simp [intOf];omega
     ·go_wp2
      go_ret;exact ⟨by rw [HL.out,HR.out,Z0k _ _ _ _ _ _ _ _ _ (by omega)];rfl,HBB.out⟩
def Z1h (t v:Int):Bool:=inB t 0 1073741824 && (inB v 0 7 && (decide (0<t) || v == 0))
def stB (t v:Int)(l:List Ent):Bool:=Z1h t v && (decide (l.length<=4096) && Xf t 1 l)
theorem Z0l (t v:Int)(u:Value)(l:List Ent)(w:World)(hv:Es w u l)(hll:l.length<=1048576) :
  Calls Tryz.prog 101 #[.agg #[.int .i64 t,.int .i64 v,u]] w fun e w'=>e=.returned (.bool (stB t v l))/\Below w.heap.size w w':=by
 have HV:Hid (Es w u l):=hv;obtain ⟨hl,hf,a,cap,rfl,hc⟩:=hv;clear hc hf;have hb0:Hid (Below w.heap.size w (w.alloc (.cells #[.int .i64 t,.int .i64 v,.slice a l.length cap] 104))):=(Below.refl _ _).alloc (Nat.le_refl _) _;have g1:True:=trivial;cases h1:inB t 0 1073741824
 ·have e:stB t v l=false:=by simp [stB,Z1h,h1]
  rw [e];go_enter Tryz.func101,Tryz.ntmps101
  go_wp2_with (go_at_call 56;refine (Z6 t 0 1073741824 _).mono ?_;rintro e w1 ⟨rfl,rfl⟩;rw [h1])
  go_ret;exact ⟨rfl,hb0.out⟩
 ·cases h2:inB v 0 7
  ·have e:stB t v l=false:=by simp [stB,Z1h,h1,h2]
   rw [e];go_enter Tryz.func101,Tryz.ntmps101
   go_wp2_with (first
    |(go_at_call 56;clear g1;refine (Z6 t 0 1073741824 _).mono ?_;rintro e w1 ⟨rfl,rfl⟩;rw [h1])
    |(go_at_call 56;refine (Z6 v 0 7 _).mono ?_;rintro e w1 ⟨rfl,rfl⟩;rw [h2]))
   go_ret;exact ⟨rfl,hb0.out⟩
  ·by_cases h3:t=0/\v≠0
   ·obtain ⟨rfl,h3⟩:=h3
    have e:stB 0 v l=false:=by simp [stB,Z1h,h3]
    rw [e];go_enter Tryz.func101,Tryz.ntmps101
    go_wp2_with (first
     |(go_at_call 56;clear g1;refine (Z6 0 0 1073741824 _).mono ?_;rintro e w1 ⟨rfl,rfl⟩;rw [h1])
     |(go_at_call 56;refine (Z6 v 0 7 _).mono ?_;rintro e w1 ⟨rfl,rfl⟩;rw [h2]))
    go_ret;exact ⟨rfl,hb0.out⟩
   ·have hA:Z1h t v=true:=by
     have:=(Zs _ _ _).1 h1;simp only [Z1h,h1,h2,Bool.true_and,Bool.or_eq_true,decide_eq_true_eq,beq_iff_eq];omega
    have e:stB t v l=(decide (l.length<=4096) && Xf t 1 l):=by simp [stB,hA]
    rw [e];by_cases hn:l.length<=4096
    ·rw [decide_eq_true hn,Bool.true_and]
     have h3':t=0->v=0:=fun h=>Decidable.byContradiction fun h'=>h3 ⟨h,h'⟩
     clear h3;by_cases h0:t=0
     ·obtain rfl:=h0
      obtain rfl:=h3' rfl;clear h3';go_enter Tryz.func101,Tryz.ntmps101
      go_wp2_with (first
       |(go_at_call 56;clear g1;refine (Z6 0 0 1073741824 _).mono ?_;rintro e w1 ⟨rfl,rfl⟩;rw [h1])
       |(go_at_call 56;refine (Z6 0 0 7 _).mono ?_;rintro e w1 ⟨rfl,rfl⟩;rw [h2])
       |(go_at_call 57;refine (Yf _ 1 0 l _ (HV.out.below hb0.out) hll).mono ?_;rintro e w2 ⟨rfl,hb⟩))
      go_ret;exact ⟨rfl,hb0.out.trans (hb.mono (by simp))⟩
     ·clear h3'
      go_enter Tryz.func101,Tryz.ntmps101
      go_wp2_with (first
       |(go_at_call 56;clear g1;refine (Z6 t 0 1073741824 _).mono ?_;rintro e w1 ⟨rfl,rfl⟩;rw [h1])
       |(go_at_call 56;refine (Z6 v 0 7 _).mono ?_;rintro e w1 ⟨rfl,rfl⟩;rw [h2])
       |(go_at_call 57;refine (Yf _ 1 t l _ (HV.out.below hb0.out) hll).mono ?_;rintro e w2 ⟨rfl,hb⟩))
      go_ret;exact ⟨rfl,hb0.out.trans (hb.mono (by simp))⟩
    ·rw [decide_eq_false hn,Bool.false_and]
     have h3':t=0->v=0:=fun h=>Decidable.byContradiction fun h'=>h3 ⟨h,h'⟩
     clear h3;by_cases h0:t=0
     ·obtain rfl:=h0
      obtain rfl:=h3' rfl;clear h3';go_enter Tryz.func101,Tryz.ntmps101
      go_wp2_with (first
       |(go_at_call 56;clear g1;refine (Z6 0 0 1073741824 _).mono ?_;rintro e w1 ⟨rfl,rfl⟩;rw [h1])
       |(go_at_call 56;refine (Z6 0 0 7 _).mono ?_;rintro e w1 ⟨rfl,rfl⟩;rw [h2]))
      go_ret;exact ⟨rfl,hb0.out⟩
     ·clear h3'
      go_enter Tryz.func101,Tryz.ntmps101
      go_wp2_with (first
       |(go_at_call 56;clear g1;refine (Z6 t 0 1073741824 _).mono ?_;rintro e w1 ⟨rfl,rfl⟩;rw [h1])
       |(go_at_call 56;refine (Z6 v 0 7 _).mono ?_;rintro e w1 ⟨rfl,rfl⟩;rw [h2]))
      go_ret;exact ⟨rfl,hb0.out⟩
def newB (id sz el bt t v:Int)(l:List Ent):Bool:=Y0 id sz el bt && (stB t v l && decide (v<=sz))
theorem Z0i:(Tryz.prog.info? 36).map (·.size)=some 18:=by kernel_rfl
def NewAt (w w':World)(x:Ending)(id sz el bt t v dr:Int)(l:List Ent):Prop:=
 if newB id sz el bt t v l then ∃ b c,x=.returned (.agg #[.int .i64 id,.int .i64 sz,.int .i64 el,.int .i64 bt,.int .i64 t,.int .i64 v,.int .i64 0,.int .i64 0,.int .i64 0,.int .i64 0,.int .i64 (Xg el dr),.int .i64 0,.slice b l.length c,.slice none 0 0,.slice none 0 0,.slice none 0 0,.slice none 0 0,.slice none 0 0])/\Zp w' w.heap.size (.slice b l.length c) l/\Below w.heap.size w w'
 else x=.returned (.agg #[.int .i64 0,.int .i64 0,.int .i64 0,.int .i64 0,.int .i64 0,.int .i64 0,.int .i64 0,.int .i64 0,.int .i64 0,.int .i64 0,.int .i64 0,.int .i64 0,.slice none 0 0,.slice none 0 0,.slice none 0 0,.slice none 0 0,.slice none 0 0,.slice none 0 0])/\Below w.heap.size w w'
theorem Z3m (w:World)(e:Ent):Jc (w.alloc (.cells #[.int .i64 e.t,.int .i64 e.cl,.int .i64 e.sq,.int .i64 e.op,.string e.k,.string e.v,.string e.o] 118)) w.heap.size 0 e:=by
 refine ⟨?_,?_,?_,?_,?_,?_,?_⟩ <;> simp
theorem Z3l (v:Value)(l:List Ent)(w:World)(hv:Es w v l)(hll:l.length<=1000000) :
  Calls Tryz.prog 102 #[v] w fun e w'=>∃ v',e=.returned v'/\Zp w' w.heap.size v' l/\Below w.heap.size w w':=by
 obtain ⟨hm,hf,a,cap,rfl,hc⟩:=hv;unfold maxLen at hm;go_enter Tryz.func102,Tryz.ntmps102;go_wp2
 go_loopw [3,4] (fun s i wr=>∃ k:Nat,k<=l.length/\i=.int .i64 k/\Zp wr w.heap.size s (l.take k)/\Below w.heap.size w wr) (fun _ i _=>l.length-(intOf i).toNat)
 case atStart=>exact ⟨0,Nat.zero_le _,rfl,Zp.made w w.heap.size (Nat.le_refl _),(Below.refl _ _).alloc (Nat.le_refl _) _⟩
 case round=>
  obtain ⟨k,hk,rfl,ho,hB⟩:=hrel;have hz:=hB.size;by_cases hlt:k<l.length
  ·obtain ⟨b,off,rfl,hj⟩:=hc k hlt
   have hfk:=hf l[k] (List.getElem_mem hlt);obtain ⟨c0,c1,c2,c3,c4,c5,c6⟩:=(hj k hlt).below hB;obtain ⟨a3,cap3,rfl⟩:=ho.shape;have hlen:(l.take k).length=k:=by rw [List.length_take];omega
   have HT:Hid (l.take (k+1)=l.take k ++ [l[k]]):=List.take_succ_eq_append_getElem hlt;have HO:Hid (Zp wr w.heap.size (.slice a3 (l.take k).length cap3) (l.take k)):=ho;have HBB:Hid _:=hB;clear hc hj hf ho hB;generalize l[k]=e at *
   go_wp2_with (at_builtin;refine Xs rfl (.tmp 12) (.tmp 17) rfl e hfk (HO.out.below ((Below.refl _ _).alloc (Nat.le_refl _) _)) rfl wr.heap.size 1 (Z3m wr e) rfl (by rw [hlen];omega) (by simp;omega) ?_;intro v' w' ho' hg;have hb':=growE hg (HO.out.below ((Below.refl _ _).alloc (Nat.le_refl _) _)) (by simp;omega))
   go_roundw
   case rel=>exact ⟨k+1,by omega,by go_num,by rw [HT.out];exact ho',(HBB.out.alloc hz _).trans hb'⟩
   case measure=>simp [intOf];omega
  ·go_wp2
   go_ret;rw [List.take_of_length_le (by omega)] at ho;exact ⟨_,rfl,ho,hB⟩
theorem sNewNode_any (id sz el bt t v dr:Int)(a:Option Addr)(cap:Nat)(l:List Ent)(w:World)(hv:Es w (.slice a l.length cap) l)(hll:l.length<=1048576)(hd1 : -(2^63)<=dr)(hd2:dr<2^63) :
  Calls Tryz.prog 63 #[.int .i64 id,.int .i64 sz,.int .i64 el,.int .i64 bt,.agg #[.int .i64 t,.int .i64 v,.slice a l.length cap],.int .i64 dr] w fun x w'=>NewAt w w' x id sz el bt t v dr l:=by
 have HV:Hid (Es w (.slice a l.length cap) l):=hv;clear hv;unfold NewAt;cases hp:Y0 id sz el bt
 ·rw [show newB id sz el bt t v l=false by simp [newB,hp]]
  simp only [Bool.false_eq_true,if_false];go_enter Tryz.func63,Tryz.ntmps63
  go_wp2_with (first
   |(go_at_call 58;refine sw (Zr _ _ _ _ _) ?_;rw [hp])
   |(refine Y6 36 (.tmp 12) _ rfl ?_;refine Y1 rfl 36 (.tmp 12) _ rfl (w.heap.size+1) rfl (by simp) rfl Z0i rfl rfl (by simp [Value.oneCell']) ?_))
  exact bodyPost_ret (v:=.agg #[.int .i64 0,.int .i64 0,.int .i64 0,.int .i64 0,.int .i64 0,.int .i64 0,.int .i64 0,.int .i64 0,.int .i64 0,.int .i64 0,.int .i64 0,.int .i64 0,.slice none 0 0,.slice none 0 0,.slice none 0 0,.slice none 0 0,.slice none 0 0,.slice none 0 0]) (Y5 Tryz.results63 rfl (Blk.new' _ _ _ (by simp)) Tryz.underlying36 rfl Z0i rfl) rfl ⟨rfl,((Below.refl _ _).alloc (Nat.le_refl _) _).alloc (by simp) _⟩
 cases hs:stB t v l
 ·rw [show newB id sz el bt t v l=false by simp [newB,hs]]
  simp only [Bool.false_eq_true,if_false];go_enter Tryz.func63,Tryz.ntmps63
  go_wp2_with (first
   |(go_at_call 58;refine sw (Zr _ _ _ _ _) ?_;rw [hp])
   |(go_at_call 101;refine (Z0l t v _ l _ (HV.out.below (((Below.refl _ _).alloc (Nat.le_refl _) _).alloc (by simp) _)) hll).mono ?_;rintro e w1 ⟨rfl,hb1⟩;rw [hs];have hz:w.heap.size+1<w1.heap.size:=(by have:=hb1.size;simp at this;omega);have BS:=((Blk.new w _ _).alloc _).below hb1 (by simp;omega);have BR:=(Blk.new' (w.alloc _) _ _ (k:=w.heap.size+1) (by simp)).below hb1 (by simp);have HB:Hid (Below w.heap.size w w1):=(((Below.refl w.heap.size w).alloc (Nat.le_refl _) _).alloc (by simp) _).trans (hb1.mono (by simp;omega));have cS:=BS.cell;clear hb1)
   |(have hBR:=BR;refine Y6 36 (.tmp 12) _ rfl ?_;clear hBR;refine Zz rfl 36 (.tmp 12) _ rfl (w.heap.size+1) rfl rfl BR Z0i rfl rfl (by simp [Value.oneCell']) ?_))
  exact bodyPost_ret (v:=.agg #[.int .i64 0,.int .i64 0,.int .i64 0,.int .i64 0,.int .i64 0,.int .i64 0,.int .i64 0,.int .i64 0,.int .i64 0,.int .i64 0,.int .i64 0,.int .i64 0,.slice none 0 0,.slice none 0 0,.slice none 0 0,.slice none 0 0,.slice none 0 0,.slice none 0 0]) (Y5 Tryz.results63 rfl (BR.row _) Tryz.underlying36 rfl Z0i rfl) rfl ⟨rfl,X4 HB.out (by omega) _⟩
 by_cases hvs:v<=sz
 case neg=>
  rw [show newB id sz el bt t v l=false by simp [newB,hvs]];simp only [Bool.false_eq_true,if_false];have hgt:sz<v:=by omega
  go_enter Tryz.func63,Tryz.ntmps63
  go_wp2_with (first
   |(go_at_call 58;refine sw (Zr _ _ _ _ _) ?_;rw [hp])
   |(go_at_call 101;refine (Z0l t v _ l _ (HV.out.below (((Below.refl _ _).alloc (Nat.le_refl _) _).alloc (by simp) _)) hll).mono ?_;rintro e w1 ⟨rfl,hb1⟩;rw [hs];have hz:w.heap.size+1<w1.heap.size:=(by have:=hb1.size;simp at this;omega);have BS:=((Blk.new w _ _).alloc _).below hb1 (by simp;omega);have BR:=(Blk.new' (w.alloc _) _ _ (k:=w.heap.size+1) (by simp)).below hb1 (by simp);have HB:Hid (Below w.heap.size w w1):=(((Below.refl w.heap.size w).alloc (Nat.le_refl _) _).alloc (by simp) _).trans (hb1.mono (by simp;omega));have cS:=BS.cell;clear hb1)
   |(have hBR:=BR;refine Y6 36 (.tmp 12) _ rfl ?_;clear hBR;refine Zz rfl 36 (.tmp 12) _ rfl (w.heap.size+1) rfl rfl BR Z0i rfl rfl (by simp [Value.oneCell']) ?_))
  exact bodyPost_ret (v:=.agg #[.int .i64 0,.int .i64 0,.int .i64 0,.int .i64 0,.int .i64 0,.int .i64 0,.int .i64 0,.int .i64 0,.int .i64 0,.int .i64 0,.int .i64 0,.int .i64 0,.slice none 0 0,.slice none 0 0,.slice none 0 0,.slice none 0 0,.slice none 0 0,.slice none 0 0]) (Y5 Tryz.results63 rfl (BR.row _) Tryz.underlying36 rfl Z0i rfl) rfl ⟨rfl,X4 HB.out (by omega) _⟩
 rw [show newB id sz el bt t v l=true by simp [newB,hp,hs,hvs]];simp only [if_true];have hl4:l.length<=4096:=by simp only [stB,Bool.and_eq_true,decide_eq_true_eq] at hs;exact hs.2.1
 go_enter Tryz.func63,Tryz.ntmps63
 go_wp2_with (first
  |(go_at_call 58;refine sw (Zr _ _ _ _ _) ?_;rw [hp])
  |(go_at_call 101;refine (Z0l t v _ l _ (HV.out.below (((Below.refl _ _).alloc (Nat.le_refl _) _).alloc (by simp) _)) hll).mono ?_;rintro e w1 ⟨rfl,hb1⟩;rw [hs];have hz:w.heap.size+1<w1.heap.size:=(by have:=hb1.size;simp at this;omega);have BS:=((Blk.new w _ _).alloc _).below hb1 (by simp;omega);have BR:=(Blk.new' (w.alloc _) _ _ (k:=w.heap.size+1) (by simp)).below hb1 (by simp);have HB:Hid (Below w.heap.size w w1):=(((Below.refl w.heap.size w).alloc (Nat.le_refl _) _).alloc (by simp) _).trans (hb1.mono (by simp;omega));have cS:=BS.cell;clear hb1))
 refine wp_named ?_;intro a0 ha0;have hsz0:a0.tmps.size=46:=by rw [ha0];rfl
 have e0:a0.eval (.tmp 0)=.int .i64 id:=by rw [ha0];rfl
 have e1:a0.eval (.tmp 1)=.int .i64 sz:=by rw [ha0];rfl
 have e2:a0.eval (.tmp 2)=.int .i64 el:=by rw [ha0];rfl
 have e3:a0.eval (.tmp 3)=.int .i64 bt:=by rw [ha0];rfl
 have e5:a0.eval (.tmp 5)=.int .i64 dr:=by rw [ha0];rfl
 have e10:a0.eval (.tmp 10)=.pointer (some ⟨w.heap.size,0,none⟩):=by rw [ha0];rfl
 have e12:a0.eval (.tmp 12)=.pointer (some ⟨w.heap.size+1,0,none⟩):=by rw [ha0];rfl
 have HA0:Hid (a0=_):=ha0;clear ha0;refine Yv (by kernel_rfl) (fun L aF w'=>∃ x:Nat->Value,aF=frame a0 [31,32,33,34,35,36,37,38,39,40,41,42,43,44,45] x/\Below w.heap.size w w'/\(Blk w' w.heap.size #[.int .i64 t,.int .i64 v,.slice a l.length cap] 104)/\(∃ C,Blk w' (w.heap.size+1) C 36/\C.size=18/\(L.getD 15 false=true->∃ b c,C=#[.int .i64 id,.int .i64 sz,.int .i64 el,.int .i64 bt,.int .i64 t,.int .i64 v,.int .i64 0,.int .i64 0,.int .i64 0,.int .i64 0,.int .i64 (Xg el dr),.int .i64 0,.slice b l.length c,.slice none 0 0,.slice none 0 0,.slice none 0 0,.slice none 0 0,.slice none 0 0]/\Zp w' w1.heap.size (.slice b l.length c) l))/\(w1.heap.size<=w'.heap.size)/\(L.getD 0 false=true->x 31=.int .i64 id)/\(L.getD 1 false=true->x 32=.int .i64 sz)/\(L.getD 2 false=true->x 33=.int .i64 el)/\(L.getD 3 false=true->x 34=.int .i64 bt)/\(L.getD 4 false=true->x 35=.pointer (some ⟨w.heap.size,0,none⟩))/\(L.getD 5 false=true->x 36=.int .i64 t)/\(L.getD 6 false=true->x 37=.pointer (some ⟨w.heap.size,1,none⟩))/\(L.getD 7 false=true->x 38=.int .i64 v)/\(L.getD 8 false=true->x 39=.pointer (some ⟨w.heap.size,2,none⟩))/\(L.getD 9 false=true->x 40=.slice a l.length cap)/\(L.getD 10 false=true->∃ b c,x 41=.slice b l.length c/\Zp w' w1.heap.size (.slice b l.length c) l)/\(L.getD 11 false=true->x 42=.int .i64 el)/\(L.getD 12 false=true->x 43=.int .i64 dr)/\(L.getD 13 false=true->x 44=.int .i64 (Xg el dr))/\(L.getD 14 false=true->∃ b c,x 45=.agg #[.int .i64 id,.int .i64 sz,.int .i64 el,.int .i64 bt,.int .i64 t,.int .i64 v,.int .i64 0,.int .i64 0,.int .i64 0,.int .i64 0,.int .i64 (Xg el dr),.int .i64 0,.slice b l.length c,.slice none 0 0,.slice none 0 0,.slice none 0 0,.slice none 0 0,.slice none 0 0]/\Zp w' w1.heap.size (.slice b l.length c) l)/\(L.getD 15 false=true->True)) ?_ ?_ ?_
 ·exact ⟨_,Xn a0 [31,32,33,34,35,36,37,38,39,40,41,42,43,44,45],HB.out.drew,BS.drew,⟨_,BR.drew,rfl,fun h=>(Zt h).elim⟩,Nat.le_refl _,fun h=>(Zt h).elim,fun h=>(Zt h).elim,fun h=>(Zt h).elim,fun h=>(Zt h).elim,fun h=>(Zt h).elim,fun h=>(Zt h).elim,fun h=>(Zt h).elim,fun h=>(Zt h).elim,fun h=>(Zt h).elim,fun h=>(Zt h).elim,fun h=>(Zt h).elim,fun h=>(Zt h).elim,fun h=>(Zt h).elim,fun h=>(Zt h).elim,fun h=>(Zt h).elim,fun h=>(Zt h).elim⟩
 ·rintro L a w' i hsL hi ⟨x,rfl,hB,X1,X2,X3,h0,h1,h2,h3,h4,h5,h6,h7,h8,h9,h10,h11,h12,h13,h14,h15⟩
  have hiL:i<16:=(Y9 hsL hi).1;have hL:L.size=16:=hsL;have hw':w.heap.size<=w'.heap.size:=hB.size;rcases (show i=0∨i=1∨i=2∨i=3∨i=4∨i=5∨i=6∨i=7∨i=8∨i=9∨i=10∨i=11∨i=12∨i=13∨i=14∨i=15 by omega) with rfl | rfl | rfl | rfl | rfl | rfl | rfl | rfl | rfl | rfl | rfl | rfl | rfl | rfl | rfl | rfl
  ·skip
   refine Za rfl rfl (Y2 (.tmp 0) (Or.inl rfl) ?_);rw [Zm _ _ _ 0 rfl,e0];exact ⟨_,Zd _ _ _ 31 _ rfl,hB,X1,(by obtain ⟨C,p1,p2,p3⟩:=X2;exact ⟨C,p1,p2,fun h9=>p3 (Z0 h9 (by omega) (by decide))⟩),X3,fun h=>Zh _ _ _,fun h=>by rw [Z3 _ _ _ _ (by decide)];exact (h1 (Z0 h (by omega) (by decide))),fun h=>by rw [Z3 _ _ _ _ (by decide)];exact (h2 (Z0 h (by omega) (by decide))),fun h=>by rw [Z3 _ _ _ _ (by decide)];exact (h3 (Z0 h (by omega) (by decide))),fun h=>by rw [Z3 _ _ _ _ (by decide)];exact (h4 (Z0 h (by omega) (by decide))),fun h=>by rw [Z3 _ _ _ _ (by decide)];exact (h5 (Z0 h (by omega) (by decide))),fun h=>by rw [Z3 _ _ _ _ (by decide)];exact (h6 (Z0 h (by omega) (by decide))),fun h=>by rw [Z3 _ _ _ _ (by decide)];exact (h7 (Z0 h (by omega) (by decide))),fun h=>by rw [Z3 _ _ _ _ (by decide)];exact (h8 (Z0 h (by omega) (by decide))),fun h=>by rw [Z3 _ _ _ _ (by decide)];exact (h9 (Z0 h (by omega) (by decide))),fun h=>by rw [Z3 _ _ _ _ (by decide)];exact (by obtain ⟨b2,c2,ey,ho⟩:=(h10 (Z0 h (by omega) (by decide)));exact ⟨b2,c2,ey,ho.below (Below.refl _ _)⟩),fun h=>by rw [Z3 _ _ _ _ (by decide)];exact (h11 (Z0 h (by omega) (by decide))),fun h=>by rw [Z3 _ _ _ _ (by decide)];exact (h12 (Z0 h (by omega) (by decide))),fun h=>by rw [Z3 _ _ _ _ (by decide)];exact (h13 (Z0 h (by omega) (by decide))),fun h=>by rw [Z3 _ _ _ _ (by decide)];exact (by obtain ⟨b2,c2,ey,ho⟩:=(h14 (Z0 h (by omega) (by decide)));exact ⟨b2,c2,ey,ho.below (Below.refl _ _)⟩),fun h=>trivial⟩
  ·skip
   refine Za rfl rfl (Y2 (.tmp 1) (Or.inl rfl) ?_);rw [Zm _ _ _ 1 rfl,e1];exact ⟨_,Zd _ _ _ 32 _ rfl,hB,X1,(by obtain ⟨C,p1,p2,p3⟩:=X2;exact ⟨C,p1,p2,fun h9=>p3 (Z0 h9 (by omega) (by decide))⟩),X3,fun h=>by rw [Z3 _ _ _ _ (by decide)];exact (h0 (Z0 h (by omega) (by decide))),fun h=>Zh _ _ _,fun h=>by rw [Z3 _ _ _ _ (by decide)];exact (h2 (Z0 h (by omega) (by decide))),fun h=>by rw [Z3 _ _ _ _ (by decide)];exact (h3 (Z0 h (by omega) (by decide))),fun h=>by rw [Z3 _ _ _ _ (by decide)];exact (h4 (Z0 h (by omega) (by decide))),fun h=>by rw [Z3 _ _ _ _ (by decide)];exact (h5 (Z0 h (by omega) (by decide))),fun h=>by rw [Z3 _ _ _ _ (by decide)];exact (h6 (Z0 h (by omega) (by decide))),fun h=>by rw [Z3 _ _ _ _ (by decide)];exact (h7 (Z0 h (by omega) (by decide))),fun h=>by rw [Z3 _ _ _ _ (by decide)];exact (h8 (Z0 h (by omega) (by decide))),fun h=>by rw [Z3 _ _ _ _ (by decide)];exact (h9 (Z0 h (by omega) (by decide))),fun h=>by rw [Z3 _ _ _ _ (by decide)];exact (by obtain ⟨b2,c2,ey,ho⟩:=(h10 (Z0 h (by omega) (by decide)));exact ⟨b2,c2,ey,ho.below (Below.refl _ _)⟩),fun h=>by rw [Z3 _ _ _ _ (by decide)];exact (h11 (Z0 h (by omega) (by decide))),fun h=>by rw [Z3 _ _ _ _ (by decide)];exact (h12 (Z0 h (by omega) (by decide))),fun h=>by rw [Z3 _ _ _ _ (by decide)];exact (h13 (Z0 h (by omega) (by decide))),fun h=>by rw [Z3 _ _ _ _ (by decide)];exact (by obtain ⟨b2,c2,ey,ho⟩:=(h14 (Z0 h (by omega) (by decide)));exact ⟨b2,c2,ey,ho.below (Below.refl _ _)⟩),fun h=>trivial⟩
  ·skip
   refine Za rfl rfl (Y2 (.tmp 2) (Or.inl rfl) ?_);rw [Zm _ _ _ 2 rfl,e2];exact ⟨_,Zd _ _ _ 33 _ rfl,hB,X1,(by obtain ⟨C,p1,p2,p3⟩:=X2;exact ⟨C,p1,p2,fun h9=>p3 (Z0 h9 (by omega) (by decide))⟩),X3,fun h=>by rw [Z3 _ _ _ _ (by decide)];exact (h0 (Z0 h (by omega) (by decide))),fun h=>by rw [Z3 _ _ _ _ (by decide)];exact (h1 (Z0 h (by omega) (by decide))),fun h=>Zh _ _ _,fun h=>by rw [Z3 _ _ _ _ (by decide)];exact (h3 (Z0 h (by omega) (by decide))),fun h=>by rw [Z3 _ _ _ _ (by decide)];exact (h4 (Z0 h (by omega) (by decide))),fun h=>by rw [Z3 _ _ _ _ (by decide)];exact (h5 (Z0 h (by omega) (by decide))),fun h=>by rw [Z3 _ _ _ _ (by decide)];exact (h6 (Z0 h (by omega) (by decide))),fun h=>by rw [Z3 _ _ _ _ (by decide)];exact (h7 (Z0 h (by omega) (by decide))),fun h=>by rw [Z3 _ _ _ _ (by decide)];exact (h8 (Z0 h (by omega) (by decide))),fun h=>by rw [Z3 _ _ _ _ (by decide)];exact (h9 (Z0 h (by omega) (by decide))),fun h=>by rw [Z3 _ _ _ _ (by decide)];exact (by obtain ⟨b2,c2,ey,ho⟩:=(h10 (Z0 h (by omega) (by decide)));exact ⟨b2,c2,ey,ho.below (Below.refl _ _)⟩),fun h=>by rw [Z3 _ _ _ _ (by decide)];exact (h11 (Z0 h (by omega) (by decide))),fun h=>by rw [Z3 _ _ _ _ (by decide)];exact (h12 (Z0 h (by omega) (by decide))),fun h=>by rw [Z3 _ _ _ _ (by decide)];exact (h13 (Z0 h (by omega) (by decide))),fun h=>by rw [Z3 _ _ _ _ (by decide)];exact (by obtain ⟨b2,c2,ey,ho⟩:=(h14 (Z0 h (by omega) (by decide)));exact ⟨b2,c2,ey,ho.below (Below.refl _ _)⟩),fun h=>trivial⟩
  ·skip
   refine Za rfl rfl (Y2 (.tmp 3) (Or.inl rfl) ?_);rw [Zm _ _ _ 3 rfl,e3];exact ⟨_,Zd _ _ _ 34 _ rfl,hB,X1,(by obtain ⟨C,p1,p2,p3⟩:=X2;exact ⟨C,p1,p2,fun h9=>p3 (Z0 h9 (by omega) (by decide))⟩),X3,fun h=>by rw [Z3 _ _ _ _ (by decide)];exact (h0 (Z0 h (by omega) (by decide))),fun h=>by rw [Z3 _ _ _ _ (by decide)];exact (h1 (Z0 h (by omega) (by decide))),fun h=>by rw [Z3 _ _ _ _ (by decide)];exact (h2 (Z0 h (by omega) (by decide))),fun h=>Zh _ _ _,fun h=>by rw [Z3 _ _ _ _ (by decide)];exact (h4 (Z0 h (by omega) (by decide))),fun h=>by rw [Z3 _ _ _ _ (by decide)];exact (h5 (Z0 h (by omega) (by decide))),fun h=>by rw [Z3 _ _ _ _ (by decide)];exact (h6 (Z0 h (by omega) (by decide))),fun h=>by rw [Z3 _ _ _ _ (by decide)];exact (h7 (Z0 h (by omega) (by decide))),fun h=>by rw [Z3 _ _ _ _ (by decide)];exact (h8 (Z0 h (by omega) (by decide))),fun h=>by rw [Z3 _ _ _ _ (by decide)];exact (h9 (Z0 h (by omega) (by decide))),fun h=>by rw [Z3 _ _ _ _ (by decide)];exact (by obtain ⟨b2,c2,ey,ho⟩:=(h10 (Z0 h (by omega) (by decide)));exact ⟨b2,c2,ey,ho.below (Below.refl _ _)⟩),fun h=>by rw [Z3 _ _ _ _ (by decide)];exact (h11 (Z0 h (by omega) (by decide))),fun h=>by rw [Z3 _ _ _ _ (by decide)];exact (h12 (Z0 h (by omega) (by decide))),fun h=>by rw [Z3 _ _ _ _ (by decide)];exact (h13 (Z0 h (by omega) (by decide))),fun h=>by rw [Z3 _ _ _ _ (by decide)];exact (by obtain ⟨b2,c2,ey,ho⟩:=(h14 (Z0 h (by omega) (by decide)));exact ⟨b2,c2,ey,ho.below (Below.refl _ _)⟩),fun h=>trivial⟩
  ·skip
   have ev10:(frame a0 [31,32,33,34,35,36,37,38,39,40,41,42,43,44,45] x).tmps[10]?.getD undef=.pointer (some ⟨w.heap.size,0,none⟩):=by have h:=(Zm a0 [31,32,33,34,35,36,37,38,39,40,41,42,43,44,45] x 10 rfl).trans e10;simpa [Act.eval] using h
   refine Za rfl rfl (Zl (v:=.pointer (some ⟨w.heap.size,0,none⟩)) ?_ ?_)
   ·obtain ⟨aa,haa⟩:∃ aa,aa=frame a0 [31,32,33,34,35,36,37,38,39,40,41,42,43,44,45] x:=⟨_,rfl⟩
    rw [<-haa] at ev10 ⊢;clear haa HA0;go_simp
   exact ⟨_,Zd _ _ _ 35 _ rfl,hB,X1,(by obtain ⟨C,p1,p2,p3⟩:=X2;exact ⟨C,p1,p2,fun h9=>p3 (Z0 h9 (by omega) (by decide))⟩),X3,fun h=>by rw [Z3 _ _ _ _ (by decide)];exact (h0 (Z0 h (by omega) (by decide))),fun h=>by rw [Z3 _ _ _ _ (by decide)];exact (h1 (Z0 h (by omega) (by decide))),fun h=>by rw [Z3 _ _ _ _ (by decide)];exact (h2 (Z0 h (by omega) (by decide))),fun h=>by rw [Z3 _ _ _ _ (by decide)];exact (h3 (Z0 h (by omega) (by decide))),fun h=>Zh _ _ _,fun h=>by rw [Z3 _ _ _ _ (by decide)];exact (h5 (Z0 h (by omega) (by decide))),fun h=>by rw [Z3 _ _ _ _ (by decide)];exact (h6 (Z0 h (by omega) (by decide))),fun h=>by rw [Z3 _ _ _ _ (by decide)];exact (h7 (Z0 h (by omega) (by decide))),fun h=>by rw [Z3 _ _ _ _ (by decide)];exact (h8 (Z0 h (by omega) (by decide))),fun h=>by rw [Z3 _ _ _ _ (by decide)];exact (h9 (Z0 h (by omega) (by decide))),fun h=>by rw [Z3 _ _ _ _ (by decide)];exact (by obtain ⟨b2,c2,ey,ho⟩:=(h10 (Z0 h (by omega) (by decide)));exact ⟨b2,c2,ey,ho.below (Below.refl _ _)⟩),fun h=>by rw [Z3 _ _ _ _ (by decide)];exact (h11 (Z0 h (by omega) (by decide))),fun h=>by rw [Z3 _ _ _ _ (by decide)];exact (h12 (Z0 h (by omega) (by decide))),fun h=>by rw [Z3 _ _ _ _ (by decide)];exact (h13 (Z0 h (by omega) (by decide))),fun h=>by rw [Z3 _ _ _ _ (by decide)];exact (by obtain ⟨b2,c2,ey,ho⟩:=(h14 (Z0 h (by omega) (by decide)));exact ⟨b2,c2,ey,ho.below (Below.refl _ _)⟩),fun h=>trivial⟩
  ·have d4:=h4 (Z7 hi (by decide))
   have cc:w'.cell? ⟨w.heap.size,0,none⟩=some (.int .i64 t):=X1.cell 0;have ev35:(frame a0 [31,32,33,34,35,36,37,38,39,40,41,42,43,44,45] x).tmps[35]?.getD undef=.pointer (some ⟨w.heap.size,0,none⟩):=by have h:=(Z5 a0 [31,32,33,34,35,36,37,38,39,40,41,42,43,44,45] x 35 rfl (by omega)).trans d4;simpa [Act.eval] using h
   refine Za rfl rfl (Zl (v:=.int .i64 t) ?_ ?_)
   ·obtain ⟨aa,haa⟩:∃ aa,aa=frame a0 [31,32,33,34,35,36,37,38,39,40,41,42,43,44,45] x:=⟨_,rfl⟩
    rw [<-haa] at ev35 ⊢;clear haa HA0;go_simp
   exact ⟨_,Zd _ _ _ 36 _ rfl,hB,X1,(by obtain ⟨C,p1,p2,p3⟩:=X2;exact ⟨C,p1,p2,fun h9=>p3 (Z0 h9 (by omega) (by decide))⟩),X3,fun h=>by rw [Z3 _ _ _ _ (by decide)];exact (h0 (Z0 h (by omega) (by decide))),fun h=>by rw [Z3 _ _ _ _ (by decide)];exact (h1 (Z0 h (by omega) (by decide))),fun h=>by rw [Z3 _ _ _ _ (by decide)];exact (h2 (Z0 h (by omega) (by decide))),fun h=>by rw [Z3 _ _ _ _ (by decide)];exact (h3 (Z0 h (by omega) (by decide))),fun h=>by rw [Z3 _ _ _ _ (by decide)];exact (h4 (Z0 h (by omega) (by decide))),fun h=>Zh _ _ _,fun h=>by rw [Z3 _ _ _ _ (by decide)];exact (h6 (Z0 h (by omega) (by decide))),fun h=>by rw [Z3 _ _ _ _ (by decide)];exact (h7 (Z0 h (by omega) (by decide))),fun h=>by rw [Z3 _ _ _ _ (by decide)];exact (h8 (Z0 h (by omega) (by decide))),fun h=>by rw [Z3 _ _ _ _ (by decide)];exact (h9 (Z0 h (by omega) (by decide))),fun h=>by rw [Z3 _ _ _ _ (by decide)];exact (by obtain ⟨b2,c2,ey,ho⟩:=(h10 (Z0 h (by omega) (by decide)));exact ⟨b2,c2,ey,ho.below (Below.refl _ _)⟩),fun h=>by rw [Z3 _ _ _ _ (by decide)];exact (h11 (Z0 h (by omega) (by decide))),fun h=>by rw [Z3 _ _ _ _ (by decide)];exact (h12 (Z0 h (by omega) (by decide))),fun h=>by rw [Z3 _ _ _ _ (by decide)];exact (h13 (Z0 h (by omega) (by decide))),fun h=>by rw [Z3 _ _ _ _ (by decide)];exact (by obtain ⟨b2,c2,ey,ho⟩:=(h14 (Z0 h (by omega) (by decide)));exact ⟨b2,c2,ey,ho.below (Below.refl _ _)⟩),fun h=>trivial⟩
  ·skip
   have ev10:(frame a0 [31,32,33,34,35,36,37,38,39,40,41,42,43,44,45] x).tmps[10]?.getD undef=.pointer (some ⟨w.heap.size,0,none⟩):=by have h:=(Zm a0 [31,32,33,34,35,36,37,38,39,40,41,42,43,44,45] x 10 rfl).trans e10;simpa [Act.eval] using h
   refine Za rfl rfl (Zl (v:=.pointer (some ⟨w.heap.size,1,none⟩)) ?_ ?_)
   ·obtain ⟨aa,haa⟩:∃ aa,aa=frame a0 [31,32,33,34,35,36,37,38,39,40,41,42,43,44,45] x:=⟨_,rfl⟩
    rw [<-haa] at ev10 ⊢;clear haa HA0;go_simp
   exact ⟨_,Zd _ _ _ 37 _ rfl,hB,X1,(by obtain ⟨C,p1,p2,p3⟩:=X2;exact ⟨C,p1,p2,fun h9=>p3 (Z0 h9 (by omega) (by decide))⟩),X3,fun h=>by rw [Z3 _ _ _ _ (by decide)];exact (h0 (Z0 h (by omega) (by decide))),fun h=>by rw [Z3 _ _ _ _ (by decide)];exact (h1 (Z0 h (by omega) (by decide))),fun h=>by rw [Z3 _ _ _ _ (by decide)];exact (h2 (Z0 h (by omega) (by decide))),fun h=>by rw [Z3 _ _ _ _ (by decide)];exact (h3 (Z0 h (by omega) (by decide))),fun h=>by rw [Z3 _ _ _ _ (by decide)];exact (h4 (Z0 h (by omega) (by decide))),fun h=>by rw [Z3 _ _ _ _ (by decide)];exact (h5 (Z0 h (by omega) (by decide))),fun h=>Zh _ _ _,fun h=>by rw [Z3 _ _ _ _ (by decide)];exact (h7 (Z0 h (by omega) (by decide))),fun h=>by rw [Z3 _ _ _ _ (by decide)];exact (h8 (Z0 h (by omega) (by decide))),fun h=>by rw [Z3 _ _ _ _ (by decide)];exact (h9 (Z0 h (by omega) (by decide))),fun h=>by rw [Z3 _ _ _ _ (by decide)];exact (by obtain ⟨b2,c2,ey,ho⟩:=(h10 (Z0 h (by omega) (by decide)));exact ⟨b2,c2,ey,ho.below (Below.refl _ _)⟩),fun h=>by rw [Z3 _ _ _ _ (by decide)];exact (h11 (Z0 h (by omega) (by decide))),fun h=>by rw [Z3 _ _ _ _ (by decide)];exact (h12 (Z0 h (by omega) (by decide))),fun h=>by rw [Z3 _ _ _ _ (by decide)];exact (h13 (Z0 h (by omega) (by decide))),fun h=>by rw [Z3 _ _ _ _ (by decide)];exact (by obtain ⟨b2,c2,ey,ho⟩:=(h14 (Z0 h (by omega) (by decide)));exact ⟨b2,c2,ey,ho.below (Below.refl _ _)⟩),fun h=>trivial⟩
  ·have d6:=h6 (Z7 hi (by decide))
   have cc:w'.cell? ⟨w.heap.size,1,none⟩=some (.int .i64 v):=X1.cell 1;have ev37:(frame a0 [31,32,33,34,35,36,37,38,39,40,41,42,43,44,45] x).tmps[37]?.getD undef=.pointer (some ⟨w.heap.size,1,none⟩):=by have h:=(Z5 a0 [31,32,33,34,35,36,37,38,39,40,41,42,43,44,45] x 37 rfl (by omega)).trans d6;simpa [Act.eval] using h
   refine Za rfl rfl (Zl (v:=.int .i64 v) ?_ ?_)
   ·obtain ⟨aa,haa⟩:∃ aa,aa=frame a0 [31,32,33,34,35,36,37,38,39,40,41,42,43,44,45] x:=⟨_,rfl⟩
    rw [<-haa] at ev37 ⊢;clear haa HA0;go_simp
   exact ⟨_,Zd _ _ _ 38 _ rfl,hB,X1,(by obtain ⟨C,p1,p2,p3⟩:=X2;exact ⟨C,p1,p2,fun h9=>p3 (Z0 h9 (by omega) (by decide))⟩),X3,fun h=>by rw [Z3 _ _ _ _ (by decide)];exact (h0 (Z0 h (by omega) (by decide))),fun h=>by rw [Z3 _ _ _ _ (by decide)];exact (h1 (Z0 h (by omega) (by decide))),fun h=>by rw [Z3 _ _ _ _ (by decide)];exact (h2 (Z0 h (by omega) (by decide))),fun h=>by rw [Z3 _ _ _ _ (by decide)];exact (h3 (Z0 h (by omega) (by decide))),fun h=>by rw [Z3 _ _ _ _ (by decide)];exact (h4 (Z0 h (by omega) (by decide))),fun h=>by rw [Z3 _ _ _ _ (by decide)];exact (h5 (Z0 h (by omega) (by decide))),fun h=>by rw [Z3 _ _ _ _ (by decide)];exact (h6 (Z0 h (by omega) (by decide))),fun h=>Zh _ _ _,fun h=>by rw [Z3 _ _ _ _ (by decide)];exact (h8 (Z0 h (by omega) (by decide))),fun h=>by rw [Z3 _ _ _ _ (by decide)];exact (h9 (Z0 h (by omega) (by decide))),fun h=>by rw [Z3 _ _ _ _ (by decide)];exact (by obtain ⟨b2,c2,ey,ho⟩:=(h10 (Z0 h (by omega) (by decide)));exact ⟨b2,c2,ey,ho.below (Below.refl _ _)⟩),fun h=>by rw [Z3 _ _ _ _ (by decide)];exact (h11 (Z0 h (by omega) (by decide))),fun h=>by rw [Z3 _ _ _ _ (by decide)];exact (h12 (Z0 h (by omega) (by decide))),fun h=>by rw [Z3 _ _ _ _ (by decide)];exact (h13 (Z0 h (by omega) (by decide))),fun h=>by rw [Z3 _ _ _ _ (by decide)];exact (by obtain ⟨b2,c2,ey,ho⟩:=(h14 (Z0 h (by omega) (by decide)));exact ⟨b2,c2,ey,ho.below (Below.refl _ _)⟩),fun h=>trivial⟩
  ·skip
   have ev10:(frame a0 [31,32,33,34,35,36,37,38,39,40,41,42,43,44,45] x).tmps[10]?.getD undef=.pointer (some ⟨w.heap.size,0,none⟩):=by have h:=(Zm a0 [31,32,33,34,35,36,37,38,39,40,41,42,43,44,45] x 10 rfl).trans e10;simpa [Act.eval] using h
   refine Za rfl rfl (Zl (v:=.pointer (some ⟨w.heap.size,2,none⟩)) ?_ ?_)
   ·obtain ⟨aa,haa⟩:∃ aa,aa=frame a0 [31,32,33,34,35,36,37,38,39,40,41,42,43,44,45] x:=⟨_,rfl⟩
    rw [<-haa] at ev10 ⊢;clear haa HA0;go_simp
   exact ⟨_,Zd _ _ _ 39 _ rfl,hB,X1,(by obtain ⟨C,p1,p2,p3⟩:=X2;exact ⟨C,p1,p2,fun h9=>p3 (Z0 h9 (by omega) (by decide))⟩),X3,fun h=>by rw [Z3 _ _ _ _ (by decide)];exact (h0 (Z0 h (by omega) (by decide))),fun h=>by rw [Z3 _ _ _ _ (by decide)];exact (h1 (Z0 h (by omega) (by decide))),fun h=>by rw [Z3 _ _ _ _ (by decide)];exact (h2 (Z0 h (by omega) (by decide))),fun h=>by rw [Z3 _ _ _ _ (by decide)];exact (h3 (Z0 h (by omega) (by decide))),fun h=>by rw [Z3 _ _ _ _ (by decide)];exact (h4 (Z0 h (by omega) (by decide))),fun h=>by rw [Z3 _ _ _ _ (by decide)];exact (h5 (Z0 h (by omega) (by decide))),fun h=>by rw [Z3 _ _ _ _ (by decide)];exact (h6 (Z0 h (by omega) (by decide))),fun h=>by rw [Z3 _ _ _ _ (by decide)];exact (h7 (Z0 h (by omega) (by decide))),fun h=>Zh _ _ _,fun h=>by rw [Z3 _ _ _ _ (by decide)];exact (h9 (Z0 h (by omega) (by decide))),fun h=>by rw [Z3 _ _ _ _ (by decide)];exact (by obtain ⟨b2,c2,ey,ho⟩:=(h10 (Z0 h (by omega) (by decide)));exact ⟨b2,c2,ey,ho.below (Below.refl _ _)⟩),fun h=>by rw [Z3 _ _ _ _ (by decide)];exact (h11 (Z0 h (by omega) (by decide))),fun h=>by rw [Z3 _ _ _ _ (by decide)];exact (h12 (Z0 h (by omega) (by decide))),fun h=>by rw [Z3 _ _ _ _ (by decide)];exact (h13 (Z0 h (by omega) (by decide))),fun h=>by rw [Z3 _ _ _ _ (by decide)];exact (by obtain ⟨b2,c2,ey,ho⟩:=(h14 (Z0 h (by omega) (by decide)));exact ⟨b2,c2,ey,ho.below (Below.refl _ _)⟩),fun h=>trivial⟩
  ·have d8:=h8 (Z7 hi (by decide))
   have cc:w'.cell? ⟨w.heap.size,2,none⟩=some (.slice a l.length cap):=X1.cell 2;have ev39:(frame a0 [31,32,33,34,35,36,37,38,39,40,41,42,43,44,45] x).tmps[39]?.getD undef=.pointer (some ⟨w.heap.size,2,none⟩):=by have h:=(Z5 a0 [31,32,33,34,35,36,37,38,39,40,41,42,43,44,45] x 39 rfl (by omega)).trans d8;simpa [Act.eval] using h
   refine Za rfl rfl (Zl (v:=.slice a l.length cap) ?_ ?_)
   ·obtain ⟨aa,haa⟩:∃ aa,aa=frame a0 [31,32,33,34,35,36,37,38,39,40,41,42,43,44,45] x:=⟨_,rfl⟩
    rw [<-haa] at ev39 ⊢;clear haa HA0;go_simp
   exact ⟨_,Zd _ _ _ 40 _ rfl,hB,X1,(by obtain ⟨C,p1,p2,p3⟩:=X2;exact ⟨C,p1,p2,fun h9=>p3 (Z0 h9 (by omega) (by decide))⟩),X3,fun h=>by rw [Z3 _ _ _ _ (by decide)];exact (h0 (Z0 h (by omega) (by decide))),fun h=>by rw [Z3 _ _ _ _ (by decide)];exact (h1 (Z0 h (by omega) (by decide))),fun h=>by rw [Z3 _ _ _ _ (by decide)];exact (h2 (Z0 h (by omega) (by decide))),fun h=>by rw [Z3 _ _ _ _ (by decide)];exact (h3 (Z0 h (by omega) (by decide))),fun h=>by rw [Z3 _ _ _ _ (by decide)];exact (h4 (Z0 h (by omega) (by decide))),fun h=>by rw [Z3 _ _ _ _ (by decide)];exact (h5 (Z0 h (by omega) (by decide))),fun h=>by rw [Z3 _ _ _ _ (by decide)];exact (h6 (Z0 h (by omega) (by decide))),fun h=>by rw [Z3 _ _ _ _ (by decide)];exact (h7 (Z0 h (by omega) (by decide))),fun h=>by rw [Z3 _ _ _ _ (by decide)];exact (h8 (Z0 h (by omega) (by decide))),fun h=>Zh _ _ _,fun h=>by rw [Z3 _ _ _ _ (by decide)];exact (by obtain ⟨b2,c2,ey,ho⟩:=(h10 (Z0 h (by omega) (by decide)));exact ⟨b2,c2,ey,ho.below (Below.refl _ _)⟩),fun h=>by rw [Z3 _ _ _ _ (by decide)];exact (h11 (Z0 h (by omega) (by decide))),fun h=>by rw [Z3 _ _ _ _ (by decide)];exact (h12 (Z0 h (by omega) (by decide))),fun h=>by rw [Z3 _ _ _ _ (by decide)];exact (h13 (Z0 h (by omega) (by decide))),fun h=>by rw [Z3 _ _ _ _ (by decide)];exact (by obtain ⟨b2,c2,ey,ho⟩:=(h14 (Z0 h (by omega) (by decide)));exact ⟨b2,c2,ey,ho.below (Below.refl _ _)⟩),fun h=>trivial⟩
  ·have d9:=h9 (Z7 hi (by decide))
   have ev40:=(Z5 a0 [31,32,33,34,35,36,37,38,39,40,41,42,43,44,45] x 40 rfl (by omega)).trans d9;refine Za rfl rfl (Yi (N:=102) rfl (fun _ _=>by go_simp) #[.slice a l.length cap] (by simp only [List.map_toArray,List.map_cons,List.map_nil,ev40]) ?_);refine Calls.mono (Z3l _ l _ (HV.out.below hB) (by omega)) ?_;rintro e w2 ⟨v2,rfl,ho,hb⟩;refine ⟨_,rfl,?_⟩;exact ⟨_,Zd _ _ _ 41 _ rfl,hB.trans (hb.mono hw'),X1.below hb X1.lt,(by obtain ⟨C,p1,p2,p3⟩:=X2;exact ⟨C,p1.below hb p1.lt,p2,fun h9=>by obtain ⟨b,c,q1,q2⟩:=p3 (Z0 h9 (by omega) (by decide));exact ⟨b,c,q1,q2.below hb⟩⟩),Nat.le_trans X3 hb.size,fun h=>by rw [Z3 _ _ _ _ (by decide)];exact (h0 (Z0 h (by omega) (by decide))),fun h=>by rw [Z3 _ _ _ _ (by decide)];exact (h1 (Z0 h (by omega) (by decide))),fun h=>by rw [Z3 _ _ _ _ (by decide)];exact (h2 (Z0 h (by omega) (by decide))),fun h=>by rw [Z3 _ _ _ _ (by decide)];exact (h3 (Z0 h (by omega) (by decide))),fun h=>by rw [Z3 _ _ _ _ (by decide)];exact (h4 (Z0 h (by omega) (by decide))),fun h=>by rw [Z3 _ _ _ _ (by decide)];exact (h5 (Z0 h (by omega) (by decide))),fun h=>by rw [Z3 _ _ _ _ (by decide)];exact (h6 (Z0 h (by omega) (by decide))),fun h=>by rw [Z3 _ _ _ _ (by decide)];exact (h7 (Z0 h (by omega) (by decide))),fun h=>by rw [Z3 _ _ _ _ (by decide)];exact (h8 (Z0 h (by omega) (by decide))),fun h=>by rw [Z3 _ _ _ _ (by decide)];exact (h9 (Z0 h (by omega) (by decide))),fun h=>(by obtain ⟨b2,c2,rfl⟩:=ho.shape;exact ⟨b2,c2,Zh _ _ _,ho.le X3⟩),fun h=>by rw [Z3 _ _ _ _ (by decide)];exact (h11 (Z0 h (by omega) (by decide))),fun h=>by rw [Z3 _ _ _ _ (by decide)];exact (h12 (Z0 h (by omega) (by decide))),fun h=>by rw [Z3 _ _ _ _ (by decide)];exact (h13 (Z0 h (by omega) (by decide))),fun h=>by rw [Z3 _ _ _ _ (by decide)];exact (by obtain ⟨b2,c2,ey,ho⟩:=(h14 (Z0 h (by omega) (by decide)));exact ⟨b2,c2,ey,ho.below hb⟩),fun h=>trivial⟩
  ·skip
   refine Za rfl rfl (Y2 (.tmp 2) (Or.inl rfl) ?_);rw [Zm _ _ _ 2 rfl,e2];exact ⟨_,Zd _ _ _ 42 _ rfl,hB,X1,(by obtain ⟨C,p1,p2,p3⟩:=X2;exact ⟨C,p1,p2,fun h9=>p3 (Z0 h9 (by omega) (by decide))⟩),X3,fun h=>by rw [Z3 _ _ _ _ (by decide)];exact (h0 (Z0 h (by omega) (by decide))),fun h=>by rw [Z3 _ _ _ _ (by decide)];exact (h1 (Z0 h (by omega) (by decide))),fun h=>by rw [Z3 _ _ _ _ (by decide)];exact (h2 (Z0 h (by omega) (by decide))),fun h=>by rw [Z3 _ _ _ _ (by decide)];exact (h3 (Z0 h (by omega) (by decide))),fun h=>by rw [Z3 _ _ _ _ (by decide)];exact (h4 (Z0 h (by omega) (by decide))),fun h=>by rw [Z3 _ _ _ _ (by decide)];exact (h5 (Z0 h (by omega) (by decide))),fun h=>by rw [Z3 _ _ _ _ (by decide)];exact (h6 (Z0 h (by omega) (by decide))),fun h=>by rw [Z3 _ _ _ _ (by decide)];exact (h7 (Z0 h (by omega) (by decide))),fun h=>by rw [Z3 _ _ _ _ (by decide)];exact (h8 (Z0 h (by omega) (by decide))),fun h=>by rw [Z3 _ _ _ _ (by decide)];exact (h9 (Z0 h (by omega) (by decide))),fun h=>by rw [Z3 _ _ _ _ (by decide)];exact (by obtain ⟨b2,c2,ey,ho⟩:=(h10 (Z0 h (by omega) (by decide)));exact ⟨b2,c2,ey,ho.below (Below.refl _ _)⟩),fun h=>Zh _ _ _,fun h=>by rw [Z3 _ _ _ _ (by decide)];exact (h12 (Z0 h (by omega) (by decide))),fun h=>by rw [Z3 _ _ _ _ (by decide)];exact (h13 (Z0 h (by omega) (by decide))),fun h=>by rw [Z3 _ _ _ _ (by decide)];exact (by obtain ⟨b2,c2,ey,ho⟩:=(h14 (Z0 h (by omega) (by decide)));exact ⟨b2,c2,ey,ho.below (Below.refl _ _)⟩),fun h=>trivial⟩
  ·skip
   refine Za rfl rfl (Y2 (.tmp 5) (Or.inl rfl) ?_);rw [Zm _ _ _ 5 rfl,e5];exact ⟨_,Zd _ _ _ 43 _ rfl,hB,X1,(by obtain ⟨C,p1,p2,p3⟩:=X2;exact ⟨C,p1,p2,fun h9=>p3 (Z0 h9 (by omega) (by decide))⟩),X3,fun h=>by rw [Z3 _ _ _ _ (by decide)];exact (h0 (Z0 h (by omega) (by decide))),fun h=>by rw [Z3 _ _ _ _ (by decide)];exact (h1 (Z0 h (by omega) (by decide))),fun h=>by rw [Z3 _ _ _ _ (by decide)];exact (h2 (Z0 h (by omega) (by decide))),fun h=>by rw [Z3 _ _ _ _ (by decide)];exact (h3 (Z0 h (by omega) (by decide))),fun h=>by rw [Z3 _ _ _ _ (by decide)];exact (h4 (Z0 h (by omega) (by decide))),fun h=>by rw [Z3 _ _ _ _ (by decide)];exact (h5 (Z0 h (by omega) (by decide))),fun h=>by rw [Z3 _ _ _ _ (by decide)];exact (h6 (Z0 h (by omega) (by decide))),fun h=>by rw [Z3 _ _ _ _ (by decide)];exact (h7 (Z0 h (by omega) (by decide))),fun h=>by rw [Z3 _ _ _ _ (by decide)];exact (h8 (Z0 h (by omega) (by decide))),fun h=>by rw [Z3 _ _ _ _ (by decide)];exact (h9 (Z0 h (by omega) (by decide))),fun h=>by rw [Z3 _ _ _ _ (by decide)];exact (by obtain ⟨b2,c2,ey,ho⟩:=(h10 (Z0 h (by omega) (by decide)));exact ⟨b2,c2,ey,ho.below (Below.refl _ _)⟩),fun h=>by rw [Z3 _ _ _ _ (by decide)];exact (h11 (Z0 h (by omega) (by decide))),fun h=>Zh _ _ _,fun h=>by rw [Z3 _ _ _ _ (by decide)];exact (h13 (Z0 h (by omega) (by decide))),fun h=>by rw [Z3 _ _ _ _ (by decide)];exact (by obtain ⟨b2,c2,ey,ho⟩:=(h14 (Z0 h (by omega) (by decide)));exact ⟨b2,c2,ey,ho.below (Below.refl _ _)⟩),fun h=>trivial⟩
  ·have d11:=h11 (Z7 hi (by decide))
   have d12:=h12 (Z7 hi (by decide));have ev42:=(Z5 a0 [31,32,33,34,35,36,37,38,39,40,41,42,43,44,45] x 42 rfl (by omega)).trans d11;have ev43:=(Z5 a0 [31,32,33,34,35,36,37,38,39,40,41,42,43,44,45] x 43 rfl (by omega)).trans d12;refine Za rfl rfl (Yi (N:=103) rfl (fun _ _=>by go_simp) #[.int .i64 el,.int .i64 dr] (by simp only [List.map_toArray,List.map_cons,List.map_nil,ev42,ev43]) ?_);refine Calls.mono (Z10 el dr hd1 hd2 _) ?_;rintro e w2 ⟨rfl,hwe⟩;have hb:Below w'.heap.size w' w2:=by rw [hwe];exact Below.refl _ _
   refine ⟨_,rfl,?_⟩;exact ⟨_,Zd _ _ _ 44 _ rfl,hB.trans (hb.mono hw'),X1.below hb X1.lt,(by obtain ⟨C,p1,p2,p3⟩:=X2;exact ⟨C,p1.below hb p1.lt,p2,fun h9=>by obtain ⟨b,c,q1,q2⟩:=p3 (Z0 h9 (by omega) (by decide));exact ⟨b,c,q1,q2.below hb⟩⟩),Nat.le_trans X3 hb.size,fun h=>by rw [Z3 _ _ _ _ (by decide)];exact (h0 (Z0 h (by omega) (by decide))),fun h=>by rw [Z3 _ _ _ _ (by decide)];exact (h1 (Z0 h (by omega) (by decide))),fun h=>by rw [Z3 _ _ _ _ (by decide)];exact (h2 (Z0 h (by omega) (by decide))),fun h=>by rw [Z3 _ _ _ _ (by decide)];exact (h3 (Z0 h (by omega) (by decide))),fun h=>by rw [Z3 _ _ _ _ (by decide)];exact (h4 (Z0 h (by omega) (by decide))),fun h=>by rw [Z3 _ _ _ _ (by decide)];exact (h5 (Z0 h (by omega) (by decide))),fun h=>by rw [Z3 _ _ _ _ (by decide)];exact (h6 (Z0 h (by omega) (by decide))),fun h=>by rw [Z3 _ _ _ _ (by decide)];exact (h7 (Z0 h (by omega) (by decide))),fun h=>by rw [Z3 _ _ _ _ (by decide)];exact (h8 (Z0 h (by omega) (by decide))),fun h=>by rw [Z3 _ _ _ _ (by decide)];exact (h9 (Z0 h (by omega) (by decide))),fun h=>by rw [Z3 _ _ _ _ (by decide)];exact (by obtain ⟨b2,c2,ey,ho⟩:=(h10 (Z0 h (by omega) (by decide)));exact ⟨b2,c2,ey,ho.below hb⟩),fun h=>by rw [Z3 _ _ _ _ (by decide)];exact (h11 (Z0 h (by omega) (by decide))),fun h=>by rw [Z3 _ _ _ _ (by decide)];exact (h12 (Z0 h (by omega) (by decide))),fun h=>Zh _ _ _,fun h=>by rw [Z3 _ _ _ _ (by decide)];exact (by obtain ⟨b2,c2,ey,ho⟩:=(h14 (Z0 h (by omega) (by decide)));exact ⟨b2,c2,ey,ho.below hb⟩),fun h=>trivial⟩
  ·have d0:=h0 (Z7 hi (by decide))
   have d1:=h1 (Z7 hi (by decide));have d2:=h2 (Z7 hi (by decide));have d3:=h3 (Z7 hi (by decide));have d5:=h5 (Z7 hi (by decide));have d7:=h7 (Z7 hi (by decide));have d10:=h10 (Z7 hi (by decide));have d13:=h13 (Z7 hi (by decide));obtain ⟨b2,c2,ey,ho2⟩:=d10;have ev31:(frame a0 [31,32,33,34,35,36,37,38,39,40,41,42,43,44,45] x).tmps[31]?.getD undef=.int .i64 id:=by have h:=(Z5 a0 [31,32,33,34,35,36,37,38,39,40,41,42,43,44,45] x 31 rfl (by omega)).trans d0;simpa [Act.eval] using h
   have ev32:(frame a0 [31,32,33,34,35,36,37,38,39,40,41,42,43,44,45] x).tmps[32]?.getD undef=.int .i64 sz:=by have h:=(Z5 a0 [31,32,33,34,35,36,37,38,39,40,41,42,43,44,45] x 32 rfl (by omega)).trans d1;simpa [Act.eval] using h
   have ev33:(frame a0 [31,32,33,34,35,36,37,38,39,40,41,42,43,44,45] x).tmps[33]?.getD undef=.int .i64 el:=by have h:=(Z5 a0 [31,32,33,34,35,36,37,38,39,40,41,42,43,44,45] x 33 rfl (by omega)).trans d2;simpa [Act.eval] using h
   have ev34:(frame a0 [31,32,33,34,35,36,37,38,39,40,41,42,43,44,45] x).tmps[34]?.getD undef=.int .i64 bt:=by have h:=(Z5 a0 [31,32,33,34,35,36,37,38,39,40,41,42,43,44,45] x 34 rfl (by omega)).trans d3;simpa [Act.eval] using h
   have ev36:(frame a0 [31,32,33,34,35,36,37,38,39,40,41,42,43,44,45] x).tmps[36]?.getD undef=.int .i64 t:=by have h:=(Z5 a0 [31,32,33,34,35,36,37,38,39,40,41,42,43,44,45] x 36 rfl (by omega)).trans d5;simpa [Act.eval] using h
   have ev38:(frame a0 [31,32,33,34,35,36,37,38,39,40,41,42,43,44,45] x).tmps[38]?.getD undef=.int .i64 v:=by have h:=(Z5 a0 [31,32,33,34,35,36,37,38,39,40,41,42,43,44,45] x 38 rfl (by omega)).trans d7;simpa [Act.eval] using h
   have ev41:(frame a0 [31,32,33,34,35,36,37,38,39,40,41,42,43,44,45] x).tmps[41]?.getD undef=.slice b2 l.length c2:=by have h:=(Z5 a0 [31,32,33,34,35,36,37,38,39,40,41,42,43,44,45] x 41 rfl (by omega)).trans ey;simpa [Act.eval] using h
   have ev44:(frame a0 [31,32,33,34,35,36,37,38,39,40,41,42,43,44,45] x).tmps[44]?.getD undef=.int .i64 (Xg el dr):=by have h:=(Z5 a0 [31,32,33,34,35,36,37,38,39,40,41,42,43,44,45] x 44 rfl (by omega)).trans d13;simpa [Act.eval] using h
   refine Za rfl rfl (Zl (v:=.agg #[.int .i64 id,.int .i64 sz,.int .i64 el,.int .i64 bt,.int .i64 t,.int .i64 v,.int .i64 0,.int .i64 0,.int .i64 0,.int .i64 0,.int .i64 (Xg el dr),.int .i64 0,.slice b2 l.length c2,.slice none 0 0,.slice none 0 0,.slice none 0 0,.slice none 0 0,.slice none 0 0]) ?_ ?_)
   ·obtain ⟨aa,haa⟩:∃ aa,aa=frame a0 [31,32,33,34,35,36,37,38,39,40,41,42,43,44,45] x:=⟨_,rfl⟩
    rw [<-haa] at ev31 ev32 ev33 ev34 ev36 ev38 ev41 ev44 ⊢;clear haa HA0;go_simp
   exact ⟨_,Zd _ _ _ 45 _ rfl,hB,X1,(by obtain ⟨C,p1,p2,p3⟩:=X2;exact ⟨C,p1,p2,fun h9=>p3 (Z0 h9 (by omega) (by decide))⟩),X3,fun h=>by rw [Z3 _ _ _ _ (by decide)];exact (h0 (Z0 h (by omega) (by decide))),fun h=>by rw [Z3 _ _ _ _ (by decide)];exact (h1 (Z0 h (by omega) (by decide))),fun h=>by rw [Z3 _ _ _ _ (by decide)];exact (h2 (Z0 h (by omega) (by decide))),fun h=>by rw [Z3 _ _ _ _ (by decide)];exact (h3 (Z0 h (by omega) (by decide))),fun h=>by rw [Z3 _ _ _ _ (by decide)];exact (h4 (Z0 h (by omega) (by decide))),fun h=>by rw [Z3 _ _ _ _ (by decide)];exact (h5 (Z0 h (by omega) (by decide))),fun h=>by rw [Z3 _ _ _ _ (by decide)];exact (h6 (Z0 h (by omega) (by decide))),fun h=>by rw [Z3 _ _ _ _ (by decide)];exact (h7 (Z0 h (by omega) (by decide))),fun h=>by rw [Z3 _ _ _ _ (by decide)];exact (h8 (Z0 h (by omega) (by decide))),fun h=>by rw [Z3 _ _ _ _ (by decide)];exact (h9 (Z0 h (by omega) (by decide))),fun h=>by rw [Z3 _ _ _ _ (by decide)];exact (by obtain ⟨b2,c2,ey,ho⟩:=(h10 (Z0 h (by omega) (by decide)));exact ⟨b2,c2,ey,ho.below (Below.refl _ _)⟩),fun h=>by rw [Z3 _ _ _ _ (by decide)];exact (h11 (Z0 h (by omega) (by decide))),fun h=>by rw [Z3 _ _ _ _ (by decide)];exact (h12 (Z0 h (by omega) (by decide))),fun h=>by rw [Z3 _ _ _ _ (by decide)];exact (h13 (Z0 h (by omega) (by decide))),fun h=>⟨b2,c2,Zh _ _ _,ho2⟩,fun h=>trivial⟩
  ·have d14:=h14 (Z7 hi (by decide))
   obtain ⟨b2,c2,ey,ho2⟩:=d14;obtain ⟨C,p1,p2,p3⟩:=X2;have evp:=(Zm a0 [31,32,33,34,35,36,37,38,39,40,41,42,43,44,45] x 12 rfl).trans e12;have evs:=(Z5 a0 [31,32,33,34,35,36,37,38,39,40,41,42,43,44,45] x 45 rfl (by omega)).trans ey;refine Za rfl rfl (Js 36 (.tmp 12) (.tmp 45) rfl (w.heap.size+1) evp evs p1 Z0i rfl p2 (by simp [Value.oneCell']) ?_);exact ⟨_,rfl,X4 hB (by omega) _,X1.row_other _ (by omega),⟨_,p1.row _,rfl,fun _=>⟨b2,c2,rfl,ho2.block fun k hk=>setRow_other _ _ _ _ (by have h9:=(ho2.2.lt k hk).1;omega)⟩⟩,(by rw [setRow_size];exact X3),fun h=>(h0 (Z0 h (by omega) (by decide))),fun h=>(h1 (Z0 h (by omega) (by decide))),fun h=>(h2 (Z0 h (by omega) (by decide))),fun h=>(h3 (Z0 h (by omega) (by decide))),fun h=>(h4 (Z0 h (by omega) (by decide))),fun h=>(h5 (Z0 h (by omega) (by decide))),fun h=>(h6 (Z0 h (by omega) (by decide))),fun h=>(h7 (Z0 h (by omega) (by decide))),fun h=>(h8 (Z0 h (by omega) (by decide))),fun h=>(h9 (Z0 h (by omega) (by decide))),fun h=>(by obtain ⟨b2,c2,ey,ho⟩:=(h10 (Z0 h (by omega) (by decide)));exact ⟨b2,c2,ey,ho.block fun k hk=>setRow_other _ _ _ _ (by have h9:=(ho.2.lt k hk).1;omega)⟩),fun h=>(h11 (Z0 h (by omega) (by decide))),fun h=>(h12 (Z0 h (by omega) (by decide))),fun h=>(h13 (Z0 h (by omega) (by decide))),fun h=>(by obtain ⟨b2,c2,ey,ho⟩:=(h14 (Z0 h (by omega) (by decide)));exact ⟨b2,c2,ey,ho.block fun k hk=>setRow_other _ _ _ _ (by have h9:=(ho.2.lt k hk).1;omega)⟩),fun h=>trivial⟩
 ·rintro L a w' hsL hr ⟨x,rfl,hB,X1,X2,X3,h0,h1,h2,h3,h4,h5,h6,h7,h8,h9,h10,h11,h12,h13,h14,h15⟩
  have hall:=Xi hsL hr (by decide);replace h0:=h0 (hall 0 (by decide));replace h1:=h1 (hall 1 (by decide));replace h2:=h2 (hall 2 (by decide));replace h3:=h3 (hall 3 (by decide));replace h4:=h4 (hall 4 (by decide));replace h5:=h5 (hall 5 (by decide));replace h6:=h6 (hall 6 (by decide));replace h7:=h7 (hall 7 (by decide));replace h8:=h8 (hall 8 (by decide));replace h9:=h9 (hall 9 (by decide));replace h10:=h10 (hall 10 (by decide));replace h11:=h11 (hall 11 (by decide));replace h12:=h12 (hall 12 (by decide));replace h13:=h13 (hall 13 (by decide));replace h14:=h14 (hall 14 (by decide));replace h15:=h15 (hall 15 (by decide));rw [HA0.out];simp only [frame,List.zipIdx_cons,List.zipIdx_nil,List.map_cons,List.map_nil,List.contains_cons,List.contains_nil,Nat.reduceBEq,Nat.reduceAdd,Bool.or_false,Bool.false_or,Bool.or_true,Bool.true_or,Bool.false_eq_true,if_false,if_true,h0,h1,h2,h3,h4,h5,h6,h7,h8,h9,h11,h12,h13,h15];obtain ⟨C,p1,p2,p3⟩:=X2;obtain ⟨b2,c2,rfl,ho2⟩:=p3 (hall 15 (by decide));go_wp2;exact bodyPost_ret (v:=.agg #[.int .i64 id,.int .i64 sz,.int .i64 el,.int .i64 bt,.int .i64 t,.int .i64 v,.int .i64 0,.int .i64 0,.int .i64 0,.int .i64 0,.int .i64 (Xg el dr),.int .i64 0,.slice b2 l.length c2,.slice none 0 0,.slice none 0 0,.slice none 0 0,.slice none 0 0,.slice none 0 0]) (Y5 Tryz.results63 rfl p1 Tryz.underlying36 rfl Z0i rfl) rfl ⟨b2,c2,rfl,ho2.le (by omega),hB⟩
end Go.Proofs.YtmmpoppgabadmaaGreat
namespace Go.Proofs.YtmmpoppgabadmaaGreat
open Go.ChangeShapes Go.WideShapes Go.ChangeAt Go.RowKit
theorem own:ownKnob Tryz.prog.godebug=none:=by kernel_rfl
theorem laidOut:laidOutB Tryz.prog=true:=by kernel_rfl
end Go.Proofs.YtmmpoppgabadmaaGreat
