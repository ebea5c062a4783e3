import Derived.Test.YtmmpoppgabadmaaGreatG18
import Derived.Test.YtmmpoppgabadmaaGreatG15
import Derived.Deep.RegionHeld3
set_option linter.unusedVariables false
set_option linter.unusedSimpArgs false
set_option maxRecDepth 100000
set_option maxHeartbeats 16000000
namespace Go.Proofs.YtmmpoppgabadmaaGreat
open Go.RowKit
def Zf (sz:Int)(ns:List Nat):Bool:=ns.all fun n=>(n:Int) == sz
def Yi (id ln nw:Int)(l14 l15 l16 l17:List Int)(n k:Nat):Bool:=(List.range' k (n-k)).all fun j=>Y9 ((j:Int)+1) id ln nw (l14.getD j 0) (l15.getD j 0) (l16.getD j 0) (l17.getD j 0)
theorem Z28 (id ln nw:Int)(l14 l15 l16 l17:List Int)(n k:Nat)(h:k<n):Yi id ln nw l14 l15 l16 l17 n k=(Y9 ((k:Int)+1) id ln nw (l14.getD k 0) (l15.getD k 0) (l16.getD k 0) (l17.getD k 0) && Yi id ln nw l14 l15 l16 l17 n (k+1)):=by
 unfold Yi;rw [show n-k=(n-(k+1))+1 by omega,List.range'_succ];rfl
theorem Z1s (id ln nw:Int)(l14 l15 l16 l17:List Int)(n k:Nat)(h:n<=k):Yi id ln nw l14 l15 l16 l17 n k=true:=by
 unfold Yi;rw [show n-k=0 by omega];rfl
def Yv (ro sz id ln nw:Int)(l14 l15 l16 l17:List Int):Bool:=
 Zf (if ro=3 then sz else 0) [l14.length,l15.length,l16.length,l17.length] && Yi id ln nw l14 l15 l16 l17 (if ro=3 then sz else 0).toNat 0
theorem Ji (sz:Int)(a b c d:Nat):Zf sz [a,b,c,d]=true↔(a:Int)=sz/\(b:Int)=sz/\(c:Int)=sz/\(d:Int)=sz:=by simp [Zf]
theorem listsFit_any (i0 i1 i2 i3 i4 i5 i6 i7 i8 i9 i10 i11:Int)(a12 a13 a14 a15 a16 a17:Option Addr)(cap12 cap13 cap14 cap15 cap16 cap17:Nat)(l12:List Ent)(l13 l14 l15 l16 l17:List Int)(w:World)(h14:Ix w (.slice a14 l14.length cap14) l14)(h15:Ix w (.slice a15 l15.length cap15) l15)(h16:Ix w (.slice a16 l16.length cap16) l16)(h17:Ix w (.slice a17 l17.length cap17) l17)(hs:0<=i1)(hs7:i1<=7)(hll:l12.length<=1048576):Calls Tryz.prog 73 #[.agg #[.int .i64 i0,.int .i64 i1,.int .i64 i2,.int .i64 i3,.int .i64 i4,.int .i64 i5,.int .i64 i6,.int .i64 i7,.int .i64 i8,.int .i64 i9,.int .i64 i10,.int .i64 i11,.slice a12 l12.length cap12,.slice a13 l13.length cap13,.slice a14 l14.length cap14,.slice a15 l15.length cap15,.slice a16 l16.length cap16,.slice a17 l17.length cap17]] w fun e w'=>e=.returned (.bool (Yv i6 i1 i0 l12.length i9 l14 l15 l16 l17))/\Below w.heap.size w w':=by
 have HP:Hid (∀(u:World) (k:Nat),Below w.heap.size w u->k<l14.length->k<l15.length->k<l16.length->k<l17.length->k<1000->Calls Tryz.prog 113 #[.agg #[.int .i64 i0,.int .i64 i1,.int .i64 i2,.int .i64 i3,.int .i64 i4,.int .i64 i5,.int .i64 i6,.int .i64 i7,.int .i64 i8,.int .i64 i9,.int .i64 i10,.int .i64 i11,.slice a12 l12.length cap12,.slice a13 l13.length cap13,.slice a14 l14.length cap14,.slice a15 l15.length cap15,.slice a16 l16.length cap16,.slice a17 l17.length cap17],.int .i64 ((k:Int)+1)] u fun e w'=>e=.returned (.bool (Y9 ((k:Int)+1) i0 l12.length i9 (l14.getD k 0) (l15.getD k 0) (l16.getD k 0) (l17.getD k 0)))/\Below u.heap.size u w'):=fun u k hu k14 k15 k16 k17 hk=>by
  have:=Z46 i0 i1 i2 i3 i4 i5 i6 i7 i8 i9 i10 i11 a12 a13 a14 a15 a16 a17 cap12 cap13 cap14 cap15 cap16 cap17 l12 l13 l14 l15 l16 l17 u k (h14.below hu) (h15.below hu) (h16.below hu) (h17.below hu) k14 k15 k16 k17 hk hll;simpa only [List.getD_eq_getElem?_getD,List.getElem?_eq_getElem,k14,k15,k16,k17,Option.getD_some] using this
 have m14:=h14.1;have m15:=h15.1;have m16:=h16.1;have m17:=h17.1;unfold maxLen at m14 m15 m16 m17;clear h14 h15 h16 h17;by_cases hro:i6=3
 ·subst hro
  have HL:Hid (Yv 3 i1 i0 l12.length i9 l14 l15 l16 l17=(Zf i1 [l14.length,l15.length,l16.length,l17.length] && Yi i0 l12.length i9 l14 l15 l16 l17 i1.toNat 0)):=(by simp [Yv]:Yv 3 i1 i0 l12.length i9 l14 l15 l16 l17=(Zf i1 [l14.length,l15.length,l16.length,l17.length] && Yi i0 l12.length i9 l14 l15 l16 l17 i1.toNat 0));go_enter Tryz.func73,Tryz.ntmps73;go_wp2;go_loop [22] (fun i=>∃ k:Nat,k<=4/\i=.int .i64 k/\Zf (i1) [l14.length,l15.length,l16.length,l17.length]=Zf (i1) ([l14.length,l15.length,l16.length,l17.length].drop k)) (fun i=>4-(intOf i).toNat)
  case atStart=>exact ⟨0,by omega,rfl,rfl⟩
  case round=>
   obtain ⟨k,hk,rfl,hr⟩:=hrel;have HR:Hid (Zf (i1) [l14.length,l15.length,l16.length,l17.length]=Zf (i1) ([l14.length,l15.length,l16.length,l17.length].drop k)):=hr;clear hr;rcases (show k=0∨k=1∨k=2∨k=3∨k=4 by omega) with rfl | rfl | rfl | rfl | rfl
   ·by_cases hq:(l14.length:Int)=i1
    ·have nq:((l14.length:Int) == i1)=true:=by simpa using hq
     have HN:Hid (Zf (i1) [l14.length,l15.length,l16.length,l17.length]=Zf (i1) ([l14.length,l15.length,l16.length,l17.length].drop 1)):=(by rw [HR.out];simp only [Zf,List.drop_zero,List.drop_succ_cons,List.all_cons,nq,Bool.true_and]:Zf (i1) [l14.length,l15.length,l16.length,l17.length]=Zf (i1) ([l14.length,l15.length,l16.length,l17.length].drop 1));clear hq;go_wp2;go_round
     case rel=>exact ⟨1,by omega,by go_num,HN.out⟩
     case measure=>simp [intOf]
    ·have nq:((l14.length:Int) == i1)=false:=by simpa using hq
     have HN:Hid (Zf (i1) [l14.length,l15.length,l16.length,l17.length]=false):=(by rw [HR.out];simp only [Zf,List.drop_zero,List.drop_succ_cons,List.all_cons,nq,Bool.false_and]:Zf (i1) [l14.length,l15.length,l16.length,l17.length]=false);clear hq;go_wp2;go_ret;exact ⟨by rw [HL.out,HN.out];rfl,((Below.refl _ _).alloc (Nat.le_refl _) _).alloc (by simp) _⟩
   ·by_cases hq:(l15.length:Int)=i1
    ·have nq:((l15.length:Int) == i1)=true:=by simpa using hq
     have HN:Hid (Zf (i1) [l14.length,l15.length,l16.length,l17.length]=Zf (i1) ([l14.length,l15.length,l16.length,l17.length].drop 2)):=(by rw [HR.out];simp only [Zf,List.drop_zero,List.drop_succ_cons,List.all_cons,nq,Bool.true_and]:Zf (i1) [l14.length,l15.length,l16.length,l17.length]=Zf (i1) ([l14.length,l15.length,l16.length,l17.length].drop 2));clear hq;go_wp2;go_round
     case rel=>exact ⟨2,by omega,by go_num,HN.out⟩
     case measure=>simp [intOf]
    ·have nq:((l15.length:Int) == i1)=false:=by simpa using hq
     have HN:Hid (Zf (i1) [l14.length,l15.length,l16.length,l17.length]=false):=(by rw [HR.out];simp only [Zf,List.drop_zero,List.drop_succ_cons,List.all_cons,nq,Bool.false_and]:Zf (i1) [l14.length,l15.length,l16.length,l17.length]=false);clear hq;go_wp2;go_ret;exact ⟨by rw [HL.out,HN.out];rfl,((Below.refl _ _).alloc (Nat.le_refl _) _).alloc (by simp) _⟩
   ·by_cases hq:(l16.length:Int)=i1
    ·have nq:((l16.length:Int) == i1)=true:=by simpa using hq
     have HN:Hid (Zf (i1) [l14.length,l15.length,l16.length,l17.length]=Zf (i1) ([l14.length,l15.length,l16.length,l17.length].drop 3)):=(by rw [HR.out];simp only [Zf,List.drop_zero,List.drop_succ_cons,List.all_cons,nq,Bool.true_and]:Zf (i1) [l14.length,l15.length,l16.length,l17.length]=Zf (i1) ([l14.length,l15.length,l16.length,l17.length].drop 3));clear hq;go_wp2;go_round
     case rel=>exact ⟨3,by omega,by go_num,HN.out⟩
     case measure=>simp [intOf]
    ·have nq:((l16.length:Int) == i1)=false:=by simpa using hq
     have HN:Hid (Zf (i1) [l14.length,l15.length,l16.length,l17.length]=false):=(by rw [HR.out];simp only [Zf,List.drop_zero,List.drop_succ_cons,List.all_cons,nq,Bool.false_and]:Zf (i1) [l14.length,l15.length,l16.length,l17.length]=false);clear hq;go_wp2;go_ret;exact ⟨by rw [HL.out,HN.out];rfl,((Below.refl _ _).alloc (Nat.le_refl _) _).alloc (by simp) _⟩
   ·by_cases hq:(l17.length:Int)=i1
    ·have nq:((l17.length:Int) == i1)=true:=by simpa using hq
     have HN:Hid (Zf (i1) [l14.length,l15.length,l16.length,l17.length]=Zf (i1) ([l14.length,l15.length,l16.length,l17.length].drop 4)):=(by rw [HR.out];simp only [Zf,List.drop_zero,List.drop_succ_cons,List.all_cons,nq,Bool.true_and]:Zf (i1) [l14.length,l15.length,l16.length,l17.length]=Zf (i1) ([l14.length,l15.length,l16.length,l17.length].drop 4));clear hq;go_wp2;go_round
     case rel=>exact ⟨4,by omega,by go_num,HN.out⟩
     case measure=>simp [intOf]
    ·have nq:((l17.length:Int) == i1)=false:=by simpa using hq
     have HN:Hid (Zf (i1) [l14.length,l15.length,l16.length,l17.length]=false):=(by rw [HR.out];simp only [Zf,List.drop_zero,List.drop_succ_cons,List.all_cons,nq,Bool.false_and]:Zf (i1) [l14.length,l15.length,l16.length,l17.length]=false);clear hq;go_wp2;go_ret;exact ⟨by rw [HL.out,HN.out];rfl,((Below.refl _ _).alloc (Nat.le_refl _) _).alloc (by simp) _⟩
   ·have HT:Zf (i1) [l14.length,l15.length,l16.length,l17.length]=true:=by rw [HR.out];rfl
    obtain ⟨q14,q15,q16,q17⟩:=(Ji _ _ _ _ _).1 HT;rw [HT] at HL;clear HR HT;go_wp2
    go_loopw [32] (fun i wr=>∃ k:Nat,(k:Int)<=i1/\i=.int .i64 k/\Yi i0 l12.length i9 l14 l15 l16 l17 (i1).toNat 0=Yi i0 l12.length i9 l14 l15 l16 l17 (i1).toNat k/\Blk wr w.heap.size #[.int .i64 i0,.int .i64 i1,.int .i64 i2,.int .i64 i3,.int .i64 i4,.int .i64 i5,.int .i64 3,.int .i64 i7,.int .i64 i8,.int .i64 i9,.int .i64 i10,.int .i64 i11,.slice a12 l12.length cap12,.slice a13 l13.length cap13,.slice a14 l14.length cap14,.slice a15 l15.length cap15,.slice a16 l16.length cap16,.slice a17 l17.length cap17] 36/\Below w.heap.size w wr) (fun i _=>8-(intOf i).toNat)
    case atStart=>exact ⟨0,by omega,rfl,rfl,(Blk.new _ _ _).alloc _,((Below.refl _ _).alloc (Nat.le_refl _) _).alloc (by simp) _⟩
    case round=>
     obtain ⟨k,hk,rfl,hr,BA,hB⟩:=hrel;have HR:Hid (Yi i0 l12.length i9 l14 l15 l16 l17 (i1).toNat 0=Yi i0 l12.length i9 l14 l15 l16 l17 (i1).toNat k):=hr;have HBB:Hid _:=hB;have HA:Hid (Blk wr w.heap.size _ 36):=BA;have hz:=hB.size;have hlt0:=BA.lt;clear hr BA hB;by_cases hlt:(k:Int)<i1
     ·have HD:Hid (Yi i0 l12.length i9 l14 l15 l16 l17 (i1).toNat k=_):=Z28 i0 l12.length i9 l14 l15 l16 l17 (i1).toNat k (by omega)
      generalize hq:Y9 ((k:Int)+1) i0 l12.length i9 (l14.getD k 0) (l15.getD k 0) (l16.getD k 0) (l17.getD k 0)=q at HD;have HC:Hid (∀ u:World,Below w.heap.size w u->Calls Tryz.prog 113 #[.agg #[.int .i64 i0,.int .i64 i1,.int .i64 i2,.int .i64 i3,.int .i64 i4,.int .i64 i5,.int .i64 3,.int .i64 i7,.int .i64 i8,.int .i64 i9,.int .i64 i10,.int .i64 i11,.slice a12 l12.length cap12,.slice a13 l13.length cap13,.slice a14 l14.length cap14,.slice a15 l15.length cap15,.slice a16 l16.length cap16,.slice a17 l17.length cap17],.int .i64 ((k:Int)+1)] u fun e w'=>e=.returned (.bool q)/\Below u.heap.size u w'):=fun u hu=>by rw [<-hq];exact HP.out u k hu (by omega) (by omega) (by omega) (by omega) (by omega)
      clear hq;cases q
      ·go_wp2_with (first
        |(refine Z7 36 (.tmp 1) rfl ?_;refine Z3 rfl 36 (.tmp 1) rfl (w.heap.size) rfl HA.out Tryz.underlying36 rfl X9 rfl ?_)
        |(go_at_call 113;refine (HC.out _ HBB.out).mono ?_;rintro e w1 ⟨rfl,hb1⟩))
       go_ret;exact ⟨by rw [HL.out,HR.out,HD.out];rfl,HBB.out.trans (hb1.mono hz)⟩
      ·go_wp2_with (first
        |(refine Z7 36 (.tmp 1) rfl ?_;refine Z3 rfl 36 (.tmp 1) rfl (w.heap.size) rfl HA.out Tryz.underlying36 rfl X9 rfl ?_)
        |(go_at_call 113;refine (HC.out _ HBB.out).mono ?_;rintro e w1 ⟨rfl,hb1⟩))
       go_roundw
       case rel=>exact ⟨k+1,by omega,by go_num,by rw [HR.out,HD.out];rfl,HA.out.below hb1 hlt0,HBB.out.trans (hb1.mono hz)⟩
       case measure=>simp [intOf];omega
     ·go_wp2
      go_ret;exact ⟨by rw [HL.out,HR.out,Z1s _ _ _ _ _ _ _ _ _ (by omega)];rfl,HBB.out⟩
 ·have nro:(i6 == 3)=false:=by simpa using hro
  have HL:Hid (Yv i6 i1 i0 l12.length i9 l14 l15 l16 l17=(Zf 0 [l14.length,l15.length,l16.length,l17.length] && Yi i0 l12.length i9 l14 l15 l16 l17 (0:Int).toNat 0)):=(by simp [Yv,hro]:Yv i6 i1 i0 l12.length i9 l14 l15 l16 l17=(Zf 0 [l14.length,l15.length,l16.length,l17.length] && Yi i0 l12.length i9 l14 l15 l16 l17 (0:Int).toNat 0));clear hro;go_enter Tryz.func73,Tryz.ntmps73;go_wp2;go_loop [22] (fun i=>∃ k:Nat,k<=4/\i=.int .i64 k/\Zf 0 [l14.length,l15.length,l16.length,l17.length]=Zf (0) ([l14.length,l15.length,l16.length,l17.length].drop k)) (fun i=>4-(intOf i).toNat)
  case atStart=>exact ⟨0,by omega,rfl,rfl⟩
  case round=>
   obtain ⟨k,hk,rfl,hr⟩:=hrel;have HR:Hid (Zf 0 [l14.length,l15.length,l16.length,l17.length]=Zf (0) ([l14.length,l15.length,l16.length,l17.length].drop k)):=hr;clear hr;rcases (show k=0∨k=1∨k=2∨k=3∨k=4 by omega) with rfl | rfl | rfl | rfl | rfl
   ·by_cases hq:(l14.length:Int)=0
    ·have nq:((l14.length:Int) == 0)=true:=by simpa using hq
     have HN:Hid (Zf 0 [l14.length,l15.length,l16.length,l17.length]=Zf (0) ([l14.length,l15.length,l16.length,l17.length].drop 1)):=(by rw [HR.out];simp only [Zf,List.drop_zero,List.drop_succ_cons,List.all_cons,nq,Bool.true_and]:Zf 0 [l14.length,l15.length,l16.length,l17.length]=Zf (0) ([l14.length,l15.length,l16.length,l17.length].drop 1));clear hq;go_wp2;go_round
     case rel=>exact ⟨1,by omega,by go_num,HN.out⟩
     case measure=>simp [intOf]
    ·have nq:((l14.length:Int) == 0)=false:=by simpa using hq
     have HN:Hid (Zf 0 [l14.length,l15.length,l16.length,l17.length]=false):=(by rw [HR.out];simp only [Zf,List.drop_zero,List.drop_succ_cons,List.all_cons,nq,Bool.false_and]:Zf 0 [l14.length,l15.length,l16.length,l17.length]=false);clear hq;go_wp2;go_ret;exact ⟨by rw [HL.out,HN.out];rfl,((Below.refl _ _).alloc (Nat.le_refl _) _).alloc (by simp) _⟩
   ·by_cases hq:(l15.length:Int)=0
    ·have nq:((l15.length:Int) == 0)=true:=by simpa using hq
     have HN:Hid (Zf 0 [l14.length,l15.length,l16.length,l17.length]=Zf (0) ([l14.length,l15.length,l16.length,l17.length].drop 2)):=(by rw [HR.out];simp only [Zf,List.drop_zero,List.drop_succ_cons,List.all_cons,nq,Bool.true_and]:Zf 0 [l14.length,l15.length,l16.length,l17.length]=Zf (0) ([l14.length,l15.length,l16.length,l17.length].drop 2));clear hq;go_wp2;go_round
     case rel=>exact ⟨2,by omega,by go_num,HN.out⟩
     case measure=>simp [intOf]
    ·have nq:((l15.length:Int) == 0)=false:=by simpa using hq
     have HN:Hid (Zf 0 [l14.length,l15.length,l16.length,l17.length]=false):=(by rw [HR.out];simp only [Zf,List.drop_zero,List.drop_succ_cons,List.all_cons,nq,Bool.false_and]:Zf 0 [l14.length,l15.length,l16.length,l17.length]=false);clear hq;go_wp2;go_ret;exact ⟨by rw [HL.out,HN.out];rfl,((Below.refl _ _).alloc (Nat.le_refl _) _).alloc (by simp) _⟩
   ·by_cases hq:(l16.length:Int)=0
    ·have nq:((l16.length:Int) == 0)=true:=by simpa using hq
     have HN:Hid (Zf 0 [l14.length,l15.length,l16.length,l17.length]=Zf (0) ([l14.length,l15.length,l16.length,l17.length].drop 3)):=(by rw [HR.out];simp only [Zf,List.drop_zero,List.drop_succ_cons,List.all_cons,nq,Bool.true_and]:Zf 0 [l14.length,l15.length,l16.length,l17.length]=Zf (0) ([l14.length,l15.length,l16.length,l17.length].drop 3));clear hq;go_wp2;go_round
     case rel=>exact ⟨3,by omega,by go_num,HN.out⟩
     case measure=>simp [intOf]
    ·have nq:((l16.length:Int) == 0)=false:=by simpa using hq
     have HN:Hid (Zf 0 [l14.length,l15.length,l16.length,l17.length]=false):=(by rw [HR.out];simp only [Zf,List.drop_zero,List.drop_succ_cons,List.all_cons,nq,Bool.false_and]:Zf 0 [l14.length,l15.length,l16.length,l17.length]=false);clear hq;go_wp2;go_ret;exact ⟨by rw [HL.out,HN.out];rfl,((Below.refl _ _).alloc (Nat.le_refl _) _).alloc (by simp) _⟩
   ·by_cases hq:(l17.length:Int)=0
    ·have nq:((l17.length:Int) == 0)=true:=by simpa using hq
     have HN:Hid (Zf 0 [l14.length,l15.length,l16.length,l17.length]=Zf (0) ([l14.length,l15.length,l16.length,l17.length].drop 4)):=(by rw [HR.out];simp only [Zf,List.drop_zero,List.drop_succ_cons,List.all_cons,nq,Bool.true_and]:Zf 0 [l14.length,l15.length,l16.length,l17.length]=Zf (0) ([l14.length,l15.length,l16.length,l17.length].drop 4));clear hq;go_wp2;go_round
     case rel=>exact ⟨4,by omega,by go_num,HN.out⟩
     case measure=>simp [intOf]
    ·have nq:((l17.length:Int) == 0)=false:=by simpa using hq
     have HN:Hid (Zf 0 [l14.length,l15.length,l16.length,l17.length]=false):=(by rw [HR.out];simp only [Zf,List.drop_zero,List.drop_succ_cons,List.all_cons,nq,Bool.false_and]:Zf 0 [l14.length,l15.length,l16.length,l17.length]=false);clear hq;go_wp2;go_ret;exact ⟨by rw [HL.out,HN.out];rfl,((Below.refl _ _).alloc (Nat.le_refl _) _).alloc (by simp) _⟩
   ·have HT:Zf 0 [l14.length,l15.length,l16.length,l17.length]=true:=by rw [HR.out];rfl
    obtain ⟨q14,q15,q16,q17⟩:=(Ji _ _ _ _ _).1 HT;rw [HT] at HL;clear HR HT;go_wp2
    go_loopw [32] (fun i wr=>∃ k:Nat,(k:Int)<=0/\i=.int .i64 k/\Yi i0 l12.length i9 l14 l15 l16 l17 (0:Int).toNat 0=Yi i0 l12.length i9 l14 l15 l16 l17 (0:Int).toNat k/\Blk wr w.heap.size #[.int .i64 i0,.int .i64 i1,.int .i64 i2,.int .i64 i3,.int .i64 i4,.int .i64 i5,.int .i64 i6,.int .i64 i7,.int .i64 i8,.int .i64 i9,.int .i64 i10,.int .i64 i11,.slice a12 l12.length cap12,.slice a13 l13.length cap13,.slice a14 l14.length cap14,.slice a15 l15.length cap15,.slice a16 l16.length cap16,.slice a17 l17.length cap17] 36/\Below w.heap.size w wr) (fun i _=>8-(intOf i).toNat)
    case atStart=>exact ⟨0,by omega,rfl,rfl,(Blk.new _ _ _).alloc _,((Below.refl _ _).alloc (Nat.le_refl _) _).alloc (by simp) _⟩
    case round=>
     obtain ⟨k,hk,rfl,hr,BA,hB⟩:=hrel;have HR:Hid (Yi i0 l12.length i9 l14 l15 l16 l17 (0:Int).toNat 0=Yi i0 l12.length i9 l14 l15 l16 l17 (0:Int).toNat k):=hr;have HBB:Hid _:=hB;have HA:Hid (Blk wr w.heap.size _ 36):=BA;have hz:=hB.size;have hlt0:=BA.lt;clear hr BA hB;by_cases hlt:(k:Int)<0
     ·have HD:Hid (Yi i0 l12.length i9 l14 l15 l16 l17 (0:Int).toNat k=_):=Z28 i0 l12.length i9 l14 l15 l16 l17 (0:Int).toNat k (by omega)
      generalize hq:Y9 ((k:Int)+1) i0 l12.length i9 (l14.getD k 0) (l15.getD k 0) (l16.getD k 0) (l17.getD k 0)=q at HD;have HC:Hid (∀ u:World,Below w.heap.size w u->Calls Tryz.prog 113 #[.agg #[.int .i64 i0,.int .i64 i1,.int .i64 i2,.int .i64 i3,.int .i64 i4,.int .i64 i5,.int .i64 i6,.int .i64 i7,.int .i64 i8,.int .i64 i9,.int .i64 i10,.int .i64 i11,.slice a12 l12.length cap12,.slice a13 l13.length cap13,.slice a14 l14.length cap14,.slice a15 l15.length cap15,.slice a16 l16.length cap16,.slice a17 l17.length cap17],.int .i64 ((k:Int)+1)] u fun e w'=>e=.returned (.bool q)/\Below u.heap.size u w'):=fun u hu=>by rw [<-hq];exact HP.out u k hu (by omega) (by omega) (by omega) (by omega) (by omega)
      clear hq;cases q
      ·go_wp2_with (first
        |(refine Z7 36 (.tmp 1) rfl ?_;refine Z3 rfl 36 (.tmp 1) rfl (w.heap.size) rfl HA.out Tryz.underlying36 rfl X9 rfl ?_)
        |(go_at_call 113;refine (HC.out _ HBB.out).mono ?_;rintro e w1 ⟨rfl,hb1⟩))
       go_ret;exact ⟨by rw [HL.out,HR.out,HD.out];rfl,HBB.out.trans (hb1.mono hz)⟩
      ·go_wp2_with (first
        |(refine Z7 36 (.tmp 1) rfl ?_;refine Z3 rfl 36 (.tmp 1) rfl (w.heap.size) rfl HA.out Tryz.underlying36 rfl X9 rfl ?_)
        |(go_at_call 113;refine (HC.out _ HBB.out).mono ?_;rintro e w1 ⟨rfl,hb1⟩))
       go_roundw
       case rel=>exact ⟨k+1,by omega,by go_num,by rw [HR.out,HD.out];rfl,HA.out.below hb1 hlt0,HBB.out.trans (hb1.mono hz)⟩
       case measure=>simp [intOf];omega
     ·go_wp2
      go_ret;exact ⟨by rw [HL.out,HR.out,Z1s _ _ _ _ _ _ _ _ _ (by omega)];rfl,HBB.out⟩
theorem heldEntryS_v (k0:Nat)(hk0:k0<=20000000)(a:Option Addr)(n cap:Nat)(w:World)(hn:n<=1048576)(h:0<n->∃ q,a=some ⟨q,0,none⟩/\q<w.heap.size/\∀ i,i<n->∀ s v,(Z1l (k0+7*i))[s]? = some v->w.cell? ⟨q,i*7+s,none⟩=some v) :
  Calls Tryz.prog 90 #[.slice a n cap,.int .i64 k0] w fun r w'=>r=.returned (.int .i64 ((k0+7*n:Nat):Int))/\Below w.heap.size w w':=by
 go_enter Tryz.func90,Tryz.ntmps90;go_wp2
 go_loopw [1,5] (fun c i wr=>∃ j:Nat,j<=n/\i=.int .i64 j/\c=.int .i64 ((k0+7*j:Nat):Int)/\Below w.heap.size w wr) (fun _ i _=>n-(intOf i).toNat)
 case atStart=>exact ⟨0,Nat.zero_le _,rfl,by simp,Below.refl _ _⟩
 case round=>
  obtain ⟨j,hj,rfl,rfl,hB⟩:=hrel;by_cases hlt:j<n
  ·obtain ⟨q,rfl,hq,hE⟩:=h (by omega)
   have hz:=hB.size
   have e0:wr.cell? ⟨q,j*7,none⟩=some (.int .i64 ((k0:Int)+7*(j:Int))):=by
    have h:=(hB.cell (p:=⟨q,j*7+0,none⟩) hq).trans (hE j hlt 0 _ rfl);rw [show ((k0:Int)+7*(j:Int))=((k0+7*j+0:Nat):Int) by omega];exact h
   have e1:wr.cell? ⟨q,j*7+1,none⟩=some (.int .i64 ((k0:Int)+7*(j:Int)+1)):=by
    have h:=(hB.cell (p:=⟨q,j*7+1,none⟩) hq).trans (hE j hlt 1 _ rfl);rw [show ((k0:Int)+7*(j:Int)+1)=((k0+7*j+1:Nat):Int) by omega];exact h
   have e2:wr.cell? ⟨q,j*7+2,none⟩=some (.int .i64 ((k0:Int)+7*(j:Int)+1+1)):=by
    have h:=(hB.cell (p:=⟨q,j*7+2,none⟩) hq).trans (hE j hlt 2 _ rfl);rw [show ((k0:Int)+7*(j:Int)+1+1)=((k0+7*j+2:Nat):Int) by omega];exact h
   have e3:wr.cell? ⟨q,j*7+3,none⟩=some (.int .i64 ((k0:Int)+7*(j:Int)+1+1+1)):=by
    have h:=(hB.cell (p:=⟨q,j*7+3,none⟩) hq).trans (hE j hlt 3 _ rfl);rw [show ((k0:Int)+7*(j:Int)+1+1+1)=((k0+7*j+3:Nat):Int) by omega];exact h
   have e4:wr.cell? ⟨q,j*7+1+3,none⟩=some (.string (mtx (k0+7*j+1+1+1+1))):=(hB.cell (p:=⟨q,j*7+4,none⟩) hq).trans (hE j hlt 4 _ rfl);have e5:wr.cell? ⟨q,j*7+1+4,none⟩=some (.string (mtx (k0+7*j+1+1+1+1+1))):=(hB.cell (p:=⟨q,j*7+5,none⟩) hq).trans (hE j hlt 5 _ rfl);have e6:wr.cell? ⟨q,j*7+1+5,none⟩=some (.string (mtx (k0+7*j+1+1+1+1+1+1))):=(hB.cell (p:=⟨q,j*7+6,none⟩) hq).trans (hE j hlt 6 _ rfl);clear h hE;go_wp2
   go_region_held3 (fun w'=>w'.cell? ⟨q,j*7+1+3,none⟩=some (.string (mtx (k0+7*j+1+1+1+1)))/\w'.cell? ⟨q,j*7+1+4,none⟩=some (.string (mtx (k0+7*j+1+1+1+1+1)))/\w'.cell? ⟨q,j*7+1+5,none⟩=some (.string (mtx (k0+7*j+1+1+1+1+1+1)))) (simp [*,go_sem])
    (first
     |(go_at_call 89;refine (Ju _ _ (by omega) (by omega)).mono ?_;rw [show ((k0:Int)+7*(j:Int)+1+1+1+1).toNat=k0+7*j+1+1+1+1 by omega];rintro r w1 ⟨rfl,hb1⟩;have q1:=fun (o:Nat)=>hb1.cell (p:=⟨q,o,none⟩) (show q<wr.heap.size by omega);have hB1:Below w.heap.size w w1:=hB.trans (((Below.refl _ _).drew).trans (hb1.mono hz));have hz1:=hB1.size;have zz1:wr.heap.size<=w1.heap.size:=hb1.size))
   all_goals go_wp2
   all_goals go_region_held3 (fun w'=>w'.cell? ⟨q,j*7+1+3,none⟩=some (.string (mtx (k0+7*j+1+1+1+1)))/\w'.cell? ⟨q,j*7+1+4,none⟩=some (.string (mtx (k0+7*j+1+1+1+1+1)))/\w'.cell? ⟨q,j*7+1+5,none⟩=some (.string (mtx (k0+7*j+1+1+1+1+1+1)))) (simp [*,go_sem])
    (first
     |(go_at_call 89;refine (Ju _ _ (by omega) (by omega)).mono ?_;rw [show ((k0:Int)+7*(j:Int)+1+1+1+1+1).toNat=k0+7*j+1+1+1+1+1 by omega];rintro r w2 ⟨rfl,hb2⟩;have q2:=fun (o:Nat)=>hb2.cell (p:=⟨q,o,none⟩) (show q<w1.heap.size by omega);have hB2:Below w.heap.size w w2:=hB1.trans (((Below.refl _ _).drew).trans (hb2.mono hz1));have hz2:=hB2.size;have zz2:w1.heap.size<=w2.heap.size:=hb2.size))
   all_goals go_wp2
   all_goals go_region_held3 (fun w'=>w'.cell? ⟨q,j*7+1+3,none⟩=some (.string (mtx (k0+7*j+1+1+1+1)))/\w'.cell? ⟨q,j*7+1+4,none⟩=some (.string (mtx (k0+7*j+1+1+1+1+1)))/\w'.cell? ⟨q,j*7+1+5,none⟩=some (.string (mtx (k0+7*j+1+1+1+1+1+1)))) (simp [*,go_sem])
    (first
     |(go_at_call 89;refine (Ju _ _ (by omega) (by omega)).mono ?_;rw [show ((k0:Int)+7*(j:Int)+1+1+1+1+1+1).toNat=k0+7*j+1+1+1+1+1+1 by omega];rintro r w3 ⟨rfl,hb3⟩;have q3:=fun (o:Nat)=>hb3.cell (p:=⟨q,o,none⟩) (show q<w2.heap.size by omega);have hB3:Below w.heap.size w w3:=hB2.trans (((Below.refl _ _).drew).trans (hb3.mono hz2));have hz3:=hB3.size;have zz3:w2.heap.size<=w3.heap.size:=hb3.size))
   all_goals go_wp2
   all_goals (
    go_roundw
    case rel=>exact ⟨j+1,by omega,by go_num,by go_num,hB3⟩
    case measure=>simp [intOf];omega)
  ·obtain rfl:j=n:=by omega
   go_wp2;go_ret;exact ⟨rfl,hB⟩
def MkE (w:World)(a:Option Addr)(n k0:Nat):Prop:=0<n->∃ q,a=some ⟨q,0,none⟩/\q<w.heap.size/\∀ i,i<n->∀ s v,(Z1l (k0+7*i))[s]? = some v->w.cell? ⟨q,i*7+s,none⟩=some v
def MkN (w:World)(a:Option Addr)(n k0:Nat):Prop:=0<n->∃ q,a=some ⟨q,0,none⟩/\q<w.heap.size/\∀ i,i<n->w.cell? ⟨q,i,none⟩=some (.int .i64 ((k0+i:Nat):Int))
theorem Z3m {w w':World}{q:Nat}(hb:w'.heap[q]? = w.heap[q]?)(h:q<w.heap.size):q<w'.heap.size:=by
 rcases Nat.lt_or_ge q w'.heap.size with h' | h'
 ·exact h'
 ·rw [Array.getElem?_eq_none h',Array.getElem?_eq_getElem h] at hb
  cases hb
theorem MkE.keep {w w':World}{a:Option Addr}{n c k0:Nat}(h:MkE w a n k0)(hk:∀ k,(Value.slice a n c).ownBlock=some k->k<w.heap.size->w'.heap[k]? = w.heap[k]?):MkE w' a n k0:=fun h0=>by
 obtain ⟨q,rfl,hq,hc⟩:=h h0;have hb:=hk q rfl hq;exact ⟨q,rfl,Z3m hb hq,fun i hi s v hs=>(World.cell?_of_block (w:=w) hb).trans (hc i hi s v hs)⟩
theorem MkN.keep {w w':World}{a:Option Addr}{n c k0:Nat}(h:MkN w a n k0)(hk:∀ k,(Value.slice a n c).ownBlock=some k->k<w.heap.size->w'.heap[k]? = w.heap[k]?):MkN w' a n k0:=fun h0=>by
 obtain ⟨q,rfl,hq,hc⟩:=h h0;have hb:=hk q rfl hq;exact ⟨q,rfl,Z3m hb hq,fun i hi=>(World.cell?_of_block (w:=w) hb).trans (hc i hi)⟩
theorem MkE.below {w w':World}{a:Option Addr}{n k0:Nat}(h:MkE w a n k0)(hb:Below w.heap.size w w'):MkE w' a n k0:=h.keep (c:=0) fun k _ hk=>hb.block k hk
theorem MkN.below {w w':World}{a:Option Addr}{n k0:Nat}(h:MkN w a n k0)(hb:Below w.heap.size w w'):MkN w' a n k0:=h.keep (c:=0) fun k _ hk=>hb.block k hk
theorem markIntS_nilV (k0:Nat)(hk:k0<=20000000)(c:Nat)(w:World):Calls Tryz.prog 46 #[.slice none 0 c,.int .i64 k0] w fun r w'=>r=.returned (.int .i64 (k0:Int))/\w'=w:=by
 go_enter Tryz.func46,Tryz.ntmps46;go_wp2
 go_loopw [1,5] (fun c i wr=>i=.int .i64 0/\c=.int .i64 (k0:Int)/\wr=w) (fun _ _ _=>0)
 case atStart=>exact ⟨rfl,rfl,rfl⟩
 case round=>
  obtain ⟨rfl,rfl,rfl⟩:=hrel;go_wp2;go_ret;exact ⟨rfl,rfl⟩
theorem Z4r (k0:Nat)(hk:k0<=20000000)(c:Nat)(w:World):Calls Tryz.prog 45 #[.slice none 0 c,.int .i64 k0] w fun r w'=>r=.returned (.int .i64 (k0:Int))/\w'=w:=by
 go_enter Tryz.func45,Tryz.ntmps45;go_wp2
 go_loopw [1,5] (fun c i wr=>i=.int .i64 0/\c=.int .i64 (k0:Int)/\wr=w) (fun _ _ _=>0)
 case atStart=>exact ⟨rfl,rfl,rfl⟩
 case round=>
  obtain ⟨rfl,rfl,rfl⟩:=hrel;go_wp2;go_ret;exact ⟨rfl,rfl⟩
theorem own_caseV {α:Type}{cs:α->List Value}{m:Nat}{T S:TypeId}(L:GLaw cs m T S){w:World}{B:Nat}{a:Option Addr}{n c:Nat}{l:List α}(h:Z6 cs m T w B (.slice a n c) l):n=l.length/\((a=none/\n=0)∨∃ q,a=some ⟨q,0,none⟩/\B<=q/\q<w.heap.size/\w.there q 0 (n*m)):=by
 obtain ⟨a',c',e⟩:=h.shape;simp only [Value.slice.injEq] at e;obtain ⟨rfl,rfl,rfl⟩:=e;refine ⟨rfl,?_⟩;rcases h.2 with ⟨e,h0⟩ | ⟨g,cap,cur,e,_⟩
 ·simp only [Value.slice.injEq] at e
  exact .inl ⟨e.1,e.2.1⟩
 ·simp only [Value.slice.injEq] at e
  obtain ⟨rfl,-,rfl⟩:=e;obtain ⟨h1,h2⟩:=h.lts g rfl;exact .inr ⟨g,rfl,h1,h2,h.there L⟩
theorem own_caseE {w:World}{B:Nat}{a:Option Addr}{n c:Nat}{l:List Ent}(h:Zd w B (.slice a n c) l):n=l.length/\((a=none/\n=0)∨∃ q,a=some ⟨q,0,none⟩/\B<=q/\q<w.heap.size/\w.there q 0 (n*7)):=by
 obtain ⟨a',c',e⟩:=h.shape;simp only [Value.slice.injEq] at e;obtain ⟨rfl,rfl,rfl⟩:=e;refine ⟨rfl,?_⟩;rcases h.2.2 with ⟨e,h0⟩ | ⟨g,cap,cur,e,_⟩
 ·simp only [Value.slice.injEq] at e
  exact .inl ⟨e.1,e.2.1⟩
 ·simp only [Value.slice.injEq] at e
  obtain ⟨rfl,-,rfl⟩:=e;obtain ⟨h1,h2⟩:=World.ownsRow.lt h.2 g rfl;refine .inr ⟨g,rfl,h1,h2,fun j hj=>?_⟩;rw [Nat.zero_add];refine ⟨?_,World.ownsRow.frozenAt h.2 j⟩;rw [World.ownsRow.cellAt h.2 j (by omega),List.getElem?_eq_getElem (by rw [Jz];exact hj)];rfl
theorem grownV (row:Option Nat)(w:World):w.grownBy w row:=⟨rfl,rfl,rfl,Nat.le_refl _,fun _ _ _=>rfl⟩
theorem Z14 (z:Int)(k0:Nat)(hz:z=(k0:Int))(hk:k0<=20000000){a:Option Addr}{n c:Nat}{l:List Int}{w:World}{B:Nat}(h:Z6 inC 1 3 w B (.slice a n c) l)(hl:n<=1048576) :
  Calls Tryz.prog 46 #[.slice a n c,.int .i64 z] w fun r w'=>r=.returned (.int .i64 ((k0+n:Nat):Int))/\MkN w' a n k0/\w.grownBy w' (Value.slice a n c).ownBlock:=by
 subst hz;obtain ⟨e,⟨rfl,rfl⟩ | ⟨q,rfl,h1,h2,h3⟩⟩:=own_caseV Z1d h
 ·refine (markIntS_nilV k0 hk c w).mono ?_
  rintro r w' ⟨rfl,rfl⟩;exact ⟨rfl,fun h=>absurd h (by omega),grownV _ _⟩
 ·refine (Z4m k0 (by omega) q n c w (by rw [Nat.mul_one] at h3;exact h3) h2 (by omega)).mono ?_
  rintro r w' ⟨rfl,hk,hg⟩;exact ⟨rfl,fun _=>⟨q,rfl,Nat.lt_of_lt_of_le h2 hg.size,fun i hi=>hk.old i hi⟩,hg⟩
theorem Z3s (z:Int)(k0:Nat)(hz:z=(k0:Int))(hk:k0<=20000000){a:Option Addr}{n c:Nat}{l:List Ent}{w:World}{B:Nat}(h:Zd w B (.slice a n c) l)(hl:n<=1048576) :
  Calls Tryz.prog 45 #[.slice a n c,.int .i64 z] w fun r w'=>r=.returned (.int .i64 ((k0+7*n:Nat):Int))/\MkE w' a n k0/\w.grownBy w' (Value.slice a n c).ownBlock:=by
 subst hz;obtain ⟨e,⟨rfl,rfl⟩ | ⟨q,rfl,h1,h2,h3⟩⟩:=own_caseE h
 ·refine (Z4r k0 hk c w).mono ?_
  rintro r w' ⟨rfl,rfl⟩;exact ⟨rfl,fun h=>absurd h (by omega),grownV _ _⟩
 ·refine (Z11 k0 (by omega) q n c w h3 h2 (by omega)).mono ?_
  rintro r w' ⟨rfl,hk,hg⟩;exact ⟨rfl,fun _=>⟨q,rfl,Nat.lt_of_lt_of_le h2 hg.size,fun i hi s v hs=>hk.old i hi s v hs⟩,hg⟩
theorem Z13 (z:Int)(k0:Nat)(hz:z=(k0:Int))(hk:k0<=20000000){a:Option Addr}{n c:Nat}{w:World}(h:MkN w a n k0)(hl:n<=1048576) :
  Calls Tryz.prog 91 #[.slice a n c,.int .i64 z] w fun r w'=>r=.returned (.int .i64 ((k0+n:Nat):Int))/\Below w.heap.size w w':=by
 subst hz;exact heldIntS_is k0 (by omega) a n c w hl (fun h0=>by obtain ⟨q,e,-,hc⟩:=h h0;exact ⟨q,e,hc⟩)
theorem Z33 (z:Int)(k0:Nat)(hz:z=(k0:Int))(hk:k0<=20000000){a:Option Addr}{n c:Nat}{w:World}(h:MkE w a n k0)(hl:n<=1048576) :
  Calls Tryz.prog 90 #[.slice a n c,.int .i64 z] w fun r w'=>r=.returned (.int .i64 ((k0+7*n:Nat):Int))/\Below w.heap.size w w':=by
 subst hz;exact heldEntryS_v k0 hk a n c w hl h
theorem Z53 (ki fr tq tm li lt cm ok hi:Int)(ev eu:Value)(l:List Ent)(w:World)(hv:Es w ev l)(hu:Es w eu l) :
  Calls Tryz.prog 43 #[.agg #[.int .i64 ki,.int .i64 fr,.int .i64 tq,.int .i64 tm,.int .i64 li,.int .i64 lt,.int .i64 cm,.int .i64 ok,.int .i64 hi,ev],.agg #[.int .i64 ki,.int .i64 fr,.int .i64 tq,.int .i64 tm,.int .i64 li,.int .i64 lt,.int .i64 cm,.int .i64 ok,.int .i64 hi,eu]] w fun r w'=>r=.returned (.bool true)/\Below w.heap.size w w':=by
 have hV:Hid (Es w ev l):=hv;have hU:Hid (Es w eu l):=hu;obtain ⟨_,_,a,cap,rfl,_⟩:=hv;obtain ⟨_,_,a',cap',rfl,_⟩:=hu;have hB:∀ o1 o2:Obj,Below w.heap.size w ((w.alloc o1).alloc o2):=fun o1 o2=>((Below.refl _ _).alloc (Nat.le_refl _) _).alloc (by simp) _
 go_enter Tryz.func43,Tryz.ntmps43
 go_wp2_with (go_at_call 41;refine (Z2o _ _ l _ (hV.out.below (hB _ _)) (hU.out.below (hB _ _))).mono ?_;rintro r w1 ⟨rfl,hb⟩)
 go_ret;exact ⟨rfl,(hB _ _).trans (hb.mono (by simp;omega))⟩
theorem toCmd_any (cl sq op:Int)(k v o:ByteArray)(w:World) :
  Calls Tryz.prog 36 #[.agg #[.int .i64 cl,.int .i64 sq,.int .i64 op,.string k,.string v,.string o]] w fun e w'=>
   e=.returned (.agg #[.int .i64 cl,.int .i64 sq,.int .i64 op,.string k,.string v,.string o])/\Below w.heap.size w w':=by
 go_enter Tryz.func36,Tryz.ntmps36;go_wp2
 exact bodyPost_ret (v:=.agg #[.int .i64 cl,.int .i64 sq,.int .i64 op,.string k,.string v,.string o]) (by simp [results,Tryz.results36,go_sem]) rfl
  ⟨rfl,(((Below.refl _ _).alloc (Nat.le_refl _) _).alloc (by simp) _).alloc (by simp;omega) _⟩
def szC (k v o left:Int):Int:=if left-k<0 then -1 else if left-k-v<0 then -1 else if left-k-v-o<0 then -1 else left-k-v-o
theorem szCmd_any (cl sq op:Int)(k v o:ByteArray)(left:Int)(hl:0<=left)(hl':left<=1048576)(hk:k.size<=maxLen)(hv:v.size<=maxLen)(ho:o.size<=maxLen)(w:World) :
  Calls Tryz.prog 31 #[.agg #[.int .i64 cl,.int .i64 sq,.int .i64 op,.string k,.string v,.string o],.int .i64 left] w fun e w'=>
   e=.returned (.int .i64 (szC k.size v.size o.size left))/\Below w.heap.size w w':=by
 unfold maxLen at hk hv ho;unfold szC;go_enter Tryz.func31,Tryz.ntmps31;go_wp2
 all_goals go_ret
 all_goals refine ⟨?_,(Below.refl _ _).alloc (Nat.le_refl _) _⟩
 all_goals simp [*]
theorem szC_le (k v o left:Int)(hk:0<=k)(hv:0<=v)(ho:0<=o)(hl:0<=left):szC k v o left<=left:=by
 unfold szC
 repeat' split
 all_goals omega
theorem szEntry_any (e:Ent)(left:Int)(hl:0<=left)(hl':left<=1048576)(hf:e.fits)(w:World) :
  Calls Tryz.prog 75 #[.agg #[.int .i64 e.t,.int .i64 e.cl,.int .i64 e.sq,.int .i64 e.op,.string e.k,.string e.v,.string e.o],.int .i64 left] w fun r w'=>
   (∃ s:Int,r=.returned (.int .i64 s)/\s<=left)/\Below w.heap.size w w':=by
 obtain ⟨h1,h2,h3⟩:=hf;have hS:=szC_le e.k.size e.v.size e.o.size left (by omega) (by omega) (by omega) hl;go_enter Tryz.func75,Tryz.ntmps75
 go_wp2_with (go_at_call 31;refine (szCmd_any e.cl e.sq e.op e.k e.v e.o _ hl hl' h1 h2 h3 _).mono ?_;rintro r w1 ⟨rfl,hb⟩)
 all_goals go_ret
 all_goals refine ⟨⟨_,rfl,?_⟩,((Below.refl _ _).alloc (Nat.le_refl _) _).trans (hb.mono (by simp))⟩
 all_goals omega
theorem toEntry_any (e:Ent)(w:World) :
  Calls Tryz.prog 79 #[.agg #[.int .i64 e.t,.int .i64 e.cl,.int .i64 e.sq,.int .i64 e.op,.string e.k,.string e.v,.string e.o]] w fun r w'=>
   r=.returned (.agg #[.int .i64 e.t,.int .i64 e.cl,.int .i64 e.sq,.int .i64 e.op,.string e.k,.string e.v,.string e.o])/\Below w.heap.size w w':=by
 go_enter Tryz.func79,Tryz.ntmps79
 go_wp2_with (go_at_call 36;refine (toCmd_any e.cl e.sq e.op e.k e.v e.o _).mono ?_;rintro r w1 ⟨rfl,hb⟩;obtain ⟨hc,hf⟩:=Jw hb;have hz:w.heap.size+1+1<w1.heap.size:=(by have:=hb.size;simp at this;omega))
 refine bodyPost_ret (v:=.agg #[.int .i64 e.t,.int .i64 e.cl,.int .i64 e.sq,.int .i64 e.op,.string e.k,.string e.v,.string e.o]) (by simp [results,Tryz.results79,go_sem,hc]) rfl ⟨rfl,?_⟩;have hB0:Below w.heap.size w w1:=((((Below.refl _ _).alloc (Nat.le_refl _) _).alloc (by simp) _).alloc (by simp;omega) _).trans (hb.mono (by simp;omega));clear hb hc hf;have h1:w.heap.size<=w.heap.size+1:=by omega
 have h2:w.heap.size<=w.heap.size+1+1:=by omega
 exact ((((((((((((hB0.setCell (p:=⟨w.heap.size+1+1,1,none⟩) h2 _).setCell (p:=⟨w.heap.size+1+1,2,none⟩) h2 _).setCell (p:=⟨w.heap.size+1+1,3,none⟩) h2 _).setCell (p:=⟨w.heap.size+1+1,4,none⟩) h2 _).setCell (p:=⟨w.heap.size+1+1,5,none⟩) h2 _).setCell (p:=⟨w.heap.size+1+1,6,none⟩) h2 _).setCell (p:=⟨w.heap.size+1,0,none⟩) h1 _).setCell (p:=⟨w.heap.size+1,1,none⟩) h1 _).setCell (p:=⟨w.heap.size+1,2,none⟩) h1 _).setCell (p:=⟨w.heap.size+1,3,none⟩) h1 _).setCell (p:=⟨w.heap.size+1,4,none⟩) h1 _).setCell (p:=⟨w.heap.size+1,5,none⟩) h1 _).setCell (p:=⟨w.heap.size+1,6,none⟩) h1 _
theorem infoEntry:(Tryz.prog.info? 118).map (fun i=>(i.zero,i.size,i.bytes))=some (some (.agg #[.int .i64 0,.int .i64 0,.int .i64 0,.int .i64 0,.string .empty,.string .empty,.string .empty]),7,80):=by kernel_rfl
theorem made_some (w:World)(z:Array Value)(n i:Nat)(t:TypeId)(hi:i<n):∃ y,(w.alloc (.cells (madeCells z n) t)).cell? ⟨w.heap.size,i,none⟩=some y:=by
 rw [World.cell?_alloc_new];exact ⟨_,Array.getElem?_eq_getElem (by rw [size_madeCells];exact hi)⟩
structure Jp (w wr:World) (l:List Ent) (k:Nat):Prop where
 below:Below w.heap.size w wr
 size:w.heap.size<wr.heap.size
 free:∀ i,wr.frozen? ⟨w.heap.size,i,none⟩=false
 there:∀ i,i<l.length*7->∃ y,wr.cell? ⟨w.heap.size,i,none⟩=some y
 ents:∀ j (h:j<l.length),j<k->Z25 wr w.heap.size (j*7) l[j]
theorem Jp.start (w:World)(l:List Ent)(z:Array Value):Jp w (w.alloc (.cells (madeCells z (l.length*7)) 118)) l 0:=
 ⟨(Below.refl _ _).alloc (Nat.le_refl _) _,by simp,fun i=>by simp,fun i hi=>made_some w z _ i _ hi,fun j _ h=>absurd h (by omega)⟩
theorem Jp.later {w wr w1:World}{l:List Ent}{k:Nat}(h:Jp w wr l k)(hb:Below wr.heap.size wr w1):Jp w w1 l k:=by
 refine ⟨h.below.trans (hb.mono (Nat.le_of_lt h.size)),Nat.lt_of_lt_of_le h.size hb.size,fun i=>(hb.frozen h.size).trans (h.free i),fun i hi=>?_,fun j hj hjk=>(h.ents j hj hjk).below hb⟩;obtain ⟨y,hy⟩:=h.there i hi;exact ⟨y,(hb.cell h.size).trans hy⟩
theorem Zp {w:World}{b i j:Nat}{x:Value}(h:∃ y,w.cell? ⟨b,i,none⟩=some y):∃ y,(w.setCell ⟨b,j,none⟩ x).cell? ⟨b,i,none⟩=some y:=by
 obtain ⟨y,hy⟩:=h;by_cases e:j=i
 ·subst e
  exact ⟨x,World.cell?_setCell_same w _ _ hy⟩
 ·exact ⟨y,(World.cell?_setCell_other w _ _ _ (by intro h;injection h with _ h2 _;exact e h2)).trans hy⟩
theorem Z5x {w:World}{b i j:Nat}{x:Value}(h:j≠i):(w.setCell ⟨b,j,none⟩ x).cell? ⟨b,i,none⟩=w.cell? ⟨b,i,none⟩:=
 World.cell?_setCell_other w _ _ _ (by intro e;injection e with _ h2 _;exact h h2)
theorem Z5y {w:World}{b i:Nat}{x:Value}(h:∃ y,w.cell? ⟨b,i,none⟩=some y):(w.setCell ⟨b,i,none⟩ x).cell? ⟨b,i,none⟩=some x:=by
 obtain ⟨y,hy⟩:=h;exact World.cell?_setCell_same w _ _ hy
def Z0x (w:World)(b off:Nat)(e:Ent):World:=
 ((((((w.setCell ⟨b,off,none⟩ (.int .i64 e.t)).setCell ⟨b,off+1,none⟩ (.int .i64 e.cl)).setCell ⟨b,off+2,none⟩ (.int .i64 e.sq)).setCell ⟨b,off+3,none⟩ (.int .i64 e.op)).setCell ⟨b,off+4,none⟩ (.string e.k)).setCell ⟨b,off+5,none⟩ (.string e.v)).setCell ⟨b,off+6,none⟩ (.string e.o)
theorem Xt (w:World)(b off:Nat)(e:Ent)(i:Nat)(h:i<off∨off+6<i):(Z0x w b off e).cell? ⟨b,i,none⟩=w.cell? ⟨b,i,none⟩:=by
 unfold Z0x;rw [Z5x (by omega),Z5x (by omega),Z5x (by omega),Z5x (by omega),Z5x (by omega),Z5x (by omega),Z5x (by omega)]
theorem putEnt_at (w:World)(b off:Nat)(e:Ent)(h:∀ i,i<7->∃ y,w.cell? ⟨b,off+i,none⟩=some y):Z25 (Z0x w b off e) b off e:=by
 unfold Z0x Z25;have h0:=h 0 (by omega);have h1:=h 1 (by omega);have h2:=h 2 (by omega);have h3:=h 3 (by omega);have h4:=h 4 (by omega);have h5:=h 5 (by omega);have h6:=h 6 (by omega);rw [Nat.add_zero] at h0;refine ⟨?_,?_,?_,?_,?_,?_,?_⟩
 ·rw [Z5x (by omega),Z5x (by omega),Z5x (by omega),Z5x (by omega),Z5x (by omega),Z5x (by omega),Z5y h0]
 ·rw [Z5x (by omega),Z5x (by omega),Z5x (by omega),Z5x (by omega),Z5x (by omega),Z5y (Zp h1)]
 ·rw [Z5x (by omega),Z5x (by omega),Z5x (by omega),Z5x (by omega),Z5y (Zp (Zp h2))]
 ·rw [Z5x (by omega),Z5x (by omega),Z5x (by omega),Z5y (Zp (Zp (Zp h3)))]
 ·rw [Z5x (by omega),Z5x (by omega),Z5y (Zp (Zp (Zp (Zp h4))))]
 ·rw [Z5x (by omega),Z5y (Zp (Zp (Zp (Zp (Zp h5)))))]
 ·rw [Z5y (Zp (Zp (Zp (Zp (Zp (Zp h6))))))]
theorem putEnt_frozen (w:World)(b off:Nat)(e:Ent)(a:Addr):(Z0x w b off e).frozen? a=w.frozen? a:=by
 unfold Z0x;simp only [World.frozen?_setCell]
theorem putEnt_size (w:World)(b off:Nat)(e:Ent):(Z0x w b off e).heap.size=w.heap.size:=by
 unfold Z0x;simp [World.setCell]
theorem putEnt_below {B:Nat}{w wr:World}(h:Below B w wr)(b off:Nat)(hb:B<=b)(e:Ent):Below B w (Z0x wr b off e):=
 ((((((h.setCell hb _).setCell hb _).setCell hb _).setCell hb _).setCell hb _).setCell hb _).setCell hb _
theorem Jp.step {w wr:World}{l:List Ent}{k:Nat}(h:Jp w wr l k)(hk:k<l.length):Jp w (Z0x wr w.heap.size (k*7) l[k]) l (k+1):=by
 refine ⟨putEnt_below h.below _ _ (Nat.le_refl _) _,by rw [putEnt_size];exact h.size,fun i=>by rw [putEnt_frozen];exact h.free i,fun i hi=>?_,fun j hj hjk=>?_⟩
 ·unfold Z0x
  exact Zp (Zp (Zp (Zp (Zp (Zp (Zp (h.there i hi)))))))
 ·by_cases e:j=k
  ·subst e
   exact putEnt_at _ _ _ _ (fun i hi=>h.there _ (by omega))
  ·obtain ⟨h0,h1,h2,h3,h4,h5,h6⟩:=h.ents j hj (by omega)
   have hlt:j<k:=by omega
   exact ⟨(Xt _ _ _ _ _ (by omega)).trans h0,(Xt _ _ _ _ _ (by omega)).trans h1,(Xt _ _ _ _ _ (by omega)).trans h2,(Xt _ _ _ _ _ (by omega)).trans h3,(Xt _ _ _ _ _ (by omega)).trans h4,(Xt _ _ _ _ _ (by omega)).trans h5,(Xt _ _ _ _ _ (by omega)).trans h6⟩
theorem Jp.es {w wr:World}{l:List Ent}(h:Jp w wr l l.length)(hl:l.length<=maxLen)(hf:∀ e∈l,e.fits):Es wr (.slice (some ⟨w.heap.size,0,none⟩) l.length l.length) l:=
 ⟨hl,hf,_,_,rfl,fun i hi=>⟨_,_,rfl,fun j hj=>by rw [Nat.zero_add];exact h.ents j hj hj⟩⟩
theorem Z3n (v:Value)(l:List Ent)(w:World)(hv:Es w v l)(hl':l.length<=1048576) :
  Calls Tryz.prog 33 #[v] w fun r w'=>∃ g,w.heap.size<=g/\r=.returned (.slice (some ⟨g,0,none⟩) l.length l.length)/\Es w' (.slice (some ⟨g,0,none⟩) l.length l.length) l/\Below w.heap.size w w'/\g<w'.heap.size/\∀ i,w'.frozen? ⟨g,i,none⟩=false:=by
 obtain ⟨hl,hf,a,cap,rfl,hc⟩:=hv;obtain ⟨i0,hi,hz0,hz1,hz2⟩:=info_parts infoEntry
 have hmk:∀ u:World,(Instr.makeSlice 34 (.int .i64 (l.length:Int)) (.int .i64 (l.length:Int))).run Tryz.prog u =
   .ok (.slice (some ⟨u.heap.size,0,none⟩) l.length l.length) (u.alloc (.cells (madeCells #[.int .i64 0,.int .i64 0,.int .i64 0,.int .i64 0,.string .empty,.string .empty,.string .empty] (l.length*7)) 118)):=fun u=>by
  have h:=run_make (P:=Tryz.prog) u 34 118 i0 _ Tryz.underlying34 hi hz0 .i64 .i64 (l.length:Int) (l.length:Int) (by omega) (Int.le_refl _) (by rw [hz2];omega) (by omega);simpa [hz1,Value.cells] using h
 go_enter Tryz.func33,Tryz.ntmps33;go_wp2
 go_loopw [4] (fun i wr=>∃ k:Nat,k<=l.length/\i=.int .i64 k/\Jp w wr l k) (fun i _=>l.length-(intOf i).toNat)
 case atStart=>exact ⟨0,Nat.zero_le _,rfl,Jp.start w l _⟩
 case round=>
  obtain ⟨k,hk,rfl,hC⟩:=hrel;by_cases hlt:k<l.length
  ·obtain ⟨b,off,rfl,Yn⟩:=hc k hlt
   obtain ⟨c0,c1,c2,c3,c4,c5,c6⟩:=(Yn k hlt).below hC.below;clear Yn hc
   go_wp2_with (go_at_call 79;refine (toEntry_any l[k] _).mono ?_;rintro r w1 ⟨rfl,hb⟩;have hC1:=hC.later hb;obtain ⟨y0,d0⟩:=hC1.there (k*7) (by omega);obtain ⟨y1,d1⟩:=hC1.there (k*7+1) (by omega);obtain ⟨y2,d2⟩:=hC1.there (k*7+2) (by omega);obtain ⟨y3,d3⟩:=hC1.there (k*7+3) (by omega);obtain ⟨y4,d4⟩:=hC1.there (k*7+4) (by omega);obtain ⟨y5,d5⟩:=hC1.there (k*7+5) (by omega);obtain ⟨y6,d6⟩:=hC1.there (k*7+6) (by omega);have hfr:=hC1.free;clear c0 c1 c2 c3 c4 c5 c6 hb)
   go_roundw
   case rel=>exact ⟨k+1,by omega,by go_num,hC1.step hlt⟩
   case measure=>simp [intOf];omega
  ·have e:k=l.length:=by omega
   subst e;go_wp2;go_ret;exact ⟨_,Nat.le_refl _,rfl,hC.es hl hf,hC.below,hC.size,hC.free⟩
end Go.Proofs.YtmmpoppgabadmaaGreat
