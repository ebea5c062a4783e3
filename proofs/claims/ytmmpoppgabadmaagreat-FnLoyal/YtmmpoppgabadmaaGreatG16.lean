import Derived.Test.YtmmpoppgabadmaaGreatG15
import Derived.Deep.QuietTactic
import Derived.BigQuiet
import Derived.Test.YtmmpoppgabadmaaGreatRows
import Derived.ProofKit
import Derived.OpenShut
import Derived.ShutString
import Derived.ChangeOld
import Derived.Carry
set_option linter.unusedVariables false
set_option linter.unusedSimpArgs false
set_option maxRecDepth 100000
set_option maxHeartbeats 16000000
namespace Go.Proofs.YtmmpoppgabadmaaGreat
open Go.RowKit
def Zy (sz:Int)(ns:List Nat):Bool:=ns.all fun n=>(n:Int) == sz
def Yt (id ln nw:Int)(l14 l15 l16 l17:List Int)(n k:Nat):Bool:=(List.range' k (n-k)).all fun j=>Yg ((j:Int)+1) id ln nw (l14.getD j 0) (l15.getD j 0) (l16.getD j 0) (l17.getD j 0)
theorem Z1b (id ln nw:Int)(l14 l15 l16 l17:List Int)(n k:Nat)(h:k<n):Yt id ln nw l14 l15 l16 l17 n k=(Yg ((k:Int)+1) id ln nw (l14.getD k 0) (l15.getD k 0) (l16.getD k 0) (l17.getD k 0) && Yt id ln nw l14 l15 l16 l17 n (k+1)):=by
 unfold Yt;rw [show n-k=(n-(k+1))+1 by omega,List.range'_succ];rfl
theorem Z10 (id ln nw:Int)(l14 l15 l16 l17:List Int)(n k:Nat)(h:n<=k):Yt id ln nw l14 l15 l16 l17 n k=true:=by
 unfold Yt;rw [show n-k=0 by omega];rfl
def Yw (ro sz id ln nw:Int)(l14 l15 l16 l17:List Int):Bool:=
 Zy (if ro=3 then sz else 0) [l14.length,l15.length,l16.length,l17.length] && Yt id ln nw l14 l15 l16 l17 (if ro=3 then sz else 0).toNat 0
theorem Xz (sz:Int)(a b c d:Nat):Zy sz [a,b,c,d]=true↔(a:Int)=sz/\(b:Int)=sz/\(c:Int)=sz/\(d:Int)=sz:=by simp [Zy]
theorem listsFit_any (i0 i1 i2 i3 i4 i5 i6 i7 i8 i9 i10 i11:Int)(a12 a13 a14 a15 a16 a17:Option Addr)(cap12 cap13 cap14 cap15 cap16 cap17:Nat)(l12:List Ent)(l13 l14 l15 l16 l17:List Int)(w:World)(h14:Ix w (.slice a14 l14.length cap14) l14)(h15:Ix w (.slice a15 l15.length cap15) l15)(h16:Ix w (.slice a16 l16.length cap16) l16)(h17:Ix w (.slice a17 l17.length cap17) l17)(hs:0<=i1)(hs7:i1<=7)(hll:l12.length<=1048576):Calls Tryz.prog 73 #[.agg #[.int .i64 i0,.int .i64 i1,.int .i64 i2,.int .i64 i3,.int .i64 i4,.int .i64 i5,.int .i64 i6,.int .i64 i7,.int .i64 i8,.int .i64 i9,.int .i64 i10,.int .i64 i11,.slice a12 l12.length cap12,.slice a13 l13.length cap13,.slice a14 l14.length cap14,.slice a15 l15.length cap15,.slice a16 l16.length cap16,.slice a17 l17.length cap17]] w fun e w'=>e=.returned (.bool (Yw i6 i1 i0 l12.length i9 l14 l15 l16 l17))/\Below w.heap.size w w':=by
 have HP:Hid (∀(u:World) (k:Nat),Below w.heap.size w u->k<l14.length->k<l15.length->k<l16.length->k<l17.length->k<1000->Calls Tryz.prog 113 #[.agg #[.int .i64 i0,.int .i64 i1,.int .i64 i2,.int .i64 i3,.int .i64 i4,.int .i64 i5,.int .i64 i6,.int .i64 i7,.int .i64 i8,.int .i64 i9,.int .i64 i10,.int .i64 i11,.slice a12 l12.length cap12,.slice a13 l13.length cap13,.slice a14 l14.length cap14,.slice a15 l15.length cap15,.slice a16 l16.length cap16,.slice a17 l17.length cap17],.int .i64 ((k:Int)+1)] u fun e w'=>e=.returned (.bool (Yg ((k:Int)+1) i0 l12.length i9 (l14.getD k 0) (l15.getD k 0) (l16.getD k 0) (l17.getD k 0)))/\Below u.heap.size u w'):=fun u k hu k14 k15 k16 k17 hk=>by
  have:=Z34 i0 i1 i2 i3 i4 i5 i6 i7 i8 i9 i10 i11 a12 a13 a14 a15 a16 a17 cap12 cap13 cap14 cap15 cap16 cap17 l12 l13 l14 l15 l16 l17 u k (h14.below hu) (h15.below hu) (h16.below hu) (h17.below hu) k14 k15 k16 k17 hk hll;simpa only [List.getD_eq_getElem?_getD,List.getElem?_eq_getElem,k14,k15,k16,k17,Option.getD_some] using this
 have m14:=h14.1;have m15:=h15.1;have m16:=h16.1;have m17:=h17.1;unfold maxLen at m14 m15 m16 m17;clear h14 h15 h16 h17;by_cases hro:i6=3
 ·subst hro
  have HL:Hid (Yw 3 i1 i0 l12.length i9 l14 l15 l16 l17=(Zy i1 [l14.length,l15.length,l16.length,l17.length] && Yt i0 l12.length i9 l14 l15 l16 l17 i1.toNat 0)):=(by simp [Yw]:Yw 3 i1 i0 l12.length i9 l14 l15 l16 l17=(Zy i1 [l14.length,l15.length,l16.length,l17.length] && Yt i0 l12.length i9 l14 l15 l16 l17 i1.toNat 0));go_enter Tryz.func73,Tryz.ntmps73;go_wp2;go_loop [22] (fun i=>∃ k:Nat,k<=4/\i=.int .i64 k/\Zy (i1) [l14.length,l15.length,l16.length,l17.length]=Zy (i1) ([l14.length,l15.length,l16.length,l17.length].drop k)) (fun i=>4-(intOf i).toNat)
  case atStart=>exact ⟨0,by omega,rfl,rfl⟩
  case round=>
   obtain ⟨k,hk,rfl,hr⟩:=hrel;have HR:Hid (Zy (i1) [l14.length,l15.length,l16.length,l17.length]=Zy (i1) ([l14.length,l15.length,l16.length,l17.length].drop k)):=hr;clear hr;rcases (show k=0∨k=1∨k=2∨k=3∨k=4 by omega) with rfl | rfl | rfl | rfl | rfl
   ·by_cases hq:(l14.length:Int)=i1
    ·have nq:((l14.length:Int) == i1)=true:=by simpa using hq
     have HN:Hid (Zy (i1) [l14.length,l15.length,l16.length,l17.length]=Zy (i1) ([l14.length,l15.length,l16.length,l17.length].drop 1)):=(by rw [HR.out];simp only [Zy,List.drop_zero,List.drop_succ_cons,List.all_cons,nq,Bool.true_and]:Zy (i1) [l14.length,l15.length,l16.length,l17.length]=Zy (i1) ([l14.length,l15.length,l16.length,l17.length].drop 1));clear hq;go_wp2;go_round
     case rel=>exact ⟨1,by omega,by go_num,HN.out⟩
     case measure=>simp [intOf]
    ·have nq:((l14.length:Int) == i1)=false:=by simpa using hq
     have HN:Hid (Zy (i1) [l14.length,l15.length,l16.length,l17.length]=false):=(by rw [HR.out];simp only [Zy,List.drop_zero,List.drop_succ_cons,List.all_cons,nq,Bool.false_and]:Zy (i1) [l14.length,l15.length,l16.length,l17.length]=false);clear hq;go_wp2;go_ret;exact ⟨by rw [HL.out,HN.out];rfl,((Below.refl _ _).alloc (Nat.le_refl _) _).alloc (by simp) _⟩
   ·by_cases hq:(l15.length:Int)=i1
    ·have nq:((l15.length:Int) == i1)=true:=by simpa using hq
     have HN:Hid (Zy (i1) [l14.length,l15.length,l16.length,l17.length]=Zy (i1) ([l14.length,l15.length,l16.length,l17.length].drop 2)):=(by rw [HR.out];simp only [Zy,List.drop_zero,List.drop_succ_cons,List.all_cons,nq,Bool.true_and]:Zy (i1) [l14.length,l15.length,l16.length,l17.length]=Zy (i1) ([l14.length,l15.length,l16.length,l17.length].drop 2));clear hq;go_wp2;go_round
     case rel=>exact ⟨2,by omega,by go_num,HN.out⟩
     case measure=>simp [intOf]
    ·have nq:((l15.length:Int) == i1)=false:=by simpa using hq
     have HN:Hid (Zy (i1) [l14.length,l15.length,l16.length,l17.length]=false):=(by rw [HR.out];simp only [Zy,List.drop_zero,List.drop_succ_cons,List.all_cons,nq,Bool.false_and]:Zy (i1) [l14.length,l15.length,l16.length,l17.length]=false);clear hq;go_wp2;go_ret;exact ⟨by rw [HL.out,HN.out];rfl,((Below.refl _ _).alloc (Nat.le_refl _) _).alloc (by simp) _⟩
   ·by_cases hq:(l16.length:Int)=i1
    ·have nq:((l16.length:Int) == i1)=true:=by simpa using hq
     have HN:Hid (Zy (i1) [l14.length,l15.length,l16.length,l17.length]=Zy (i1) ([l14.length,l15.length,l16.length,l17.length].drop 3)):=(by rw [HR.out];simp only [Zy,List.drop_zero,List.drop_succ_cons,List.all_cons,nq,Bool.true_and]:Zy (i1) [l14.length,l15.length,l16.length,l17.length]=Zy (i1) ([l14.length,l15.length,l16.length,l17.length].drop 3));clear hq;go_wp2;go_round
     case rel=>exact ⟨3,by omega,by go_num,HN.out⟩
     case measure=>simp [intOf]
    ·have nq:((l16.length:Int) == i1)=false:=by simpa using hq
     have HN:Hid (Zy (i1) [l14.length,l15.length,l16.length,l17.length]=false):=(by rw [HR.out];simp only [Zy,List.drop_zero,List.drop_succ_cons,List.all_cons,nq,Bool.false_and]:Zy (i1) [l14.length,l15.length,l16.length,l17.length]=false);clear hq;go_wp2;go_ret;exact ⟨by rw [HL.out,HN.out];rfl,((Below.refl _ _).alloc (Nat.le_refl _) _).alloc (by simp) _⟩
   ·by_cases hq:(l17.length:Int)=i1
    ·have nq:((l17.length:Int) == i1)=true:=by simpa using hq
     have HN:Hid (Zy (i1) [l14.length,l15.length,l16.length,l17.length]=Zy (i1) ([l14.length,l15.length,l16.length,l17.length].drop 4)):=(by rw [HR.out];simp only [Zy,List.drop_zero,List.drop_succ_cons,List.all_cons,nq,Bool.true_and]:Zy (i1) [l14.length,l15.length,l16.length,l17.length]=Zy (i1) ([l14.length,l15.length,l16.length,l17.length].drop 4));clear hq;go_wp2;go_round
     case rel=>exact ⟨4,by omega,by go_num,HN.out⟩
     case measure=>simp [intOf]
    ·have nq:((l17.length:Int) == i1)=false:=by simpa using hq
     have HN:Hid (Zy (i1) [l14.length,l15.length,l16.length,l17.length]=false):=(by rw [HR.out];simp only [Zy,List.drop_zero,List.drop_succ_cons,List.all_cons,nq,Bool.false_and]:Zy (i1) [l14.length,l15.length,l16.length,l17.length]=false);clear hq;go_wp2;go_ret;exact ⟨by rw [HL.out,HN.out];rfl,((Below.refl _ _).alloc (Nat.le_refl _) _).alloc (by simp) _⟩
   ·have HT:Zy (i1) [l14.length,l15.length,l16.length,l17.length]=true:=by rw [HR.out];rfl
    obtain ⟨q14,q15,q16,q17⟩:=(Xz _ _ _ _ _).1 HT;rw [HT] at HL;clear HR HT;go_wp2
    go_loopw [32] (fun i wr=>∃ k:Nat,(k:Int)<=i1/\i=.int .i64 k/\Yt i0 l12.length i9 l14 l15 l16 l17 (i1).toNat 0=Yt i0 l12.length i9 l14 l15 l16 l17 (i1).toNat k/\Blk wr w.heap.size #[.int .i64 i0,.int .i64 i1,.int .i64 i2,.int .i64 i3,.int .i64 i4,.int .i64 i5,.int .i64 3,.int .i64 i7,.int .i64 i8,.int .i64 i9,.int .i64 i10,.int .i64 i11,.slice a12 l12.length cap12,.slice a13 l13.length cap13,.slice a14 l14.length cap14,.slice a15 l15.length cap15,.slice a16 l16.length cap16,.slice a17 l17.length cap17] 36/\Below w.heap.size w wr) (fun i _=>8-(intOf i).toNat)
    case atStart=>exact ⟨0,by omega,rfl,rfl,(Blk.new _ _ _).alloc _,((Below.refl _ _).alloc (Nat.le_refl _) _).alloc (by simp) _⟩
    case round=>
     obtain ⟨k,hk,rfl,hr,BA,hB⟩:=hrel;have HR:Hid (Yt i0 l12.length i9 l14 l15 l16 l17 (i1).toNat 0=Yt i0 l12.length i9 l14 l15 l16 l17 (i1).toNat k):=hr;have HBB:Hid _:=hB;have HA:Hid (Blk wr w.heap.size _ 36):=BA;have hz:=hB.size;have hlt0:=BA.lt;clear hr BA hB;by_cases hlt:(k:Int)<i1
     ·have HD:Hid (Yt i0 l12.length i9 l14 l15 l16 l17 (i1).toNat k=_):=Z1b i0 l12.length i9 l14 l15 l16 l17 (i1).toNat k (by omega)
      generalize hq:Yg ((k:Int)+1) i0 l12.length i9 (l14.getD k 0) (l15.getD k 0) (l16.getD k 0) (l17.getD k 0)=q at HD;have HC:Hid (∀ u:World,Below w.heap.size w u->Calls Tryz.prog 113 #[.agg #[.int .i64 i0,.int .i64 i1,.int .i64 i2,.int .i64 i3,.int .i64 i4,.int .i64 i5,.int .i64 3,.int .i64 i7,.int .i64 i8,.int .i64 i9,.int .i64 i10,.int .i64 i11,.slice a12 l12.length cap12,.slice a13 l13.length cap13,.slice a14 l14.length cap14,.slice a15 l15.length cap15,.slice a16 l16.length cap16,.slice a17 l17.length cap17],.int .i64 ((k:Int)+1)] u fun e w'=>e=.returned (.bool q)/\Below u.heap.size u w'):=fun u hu=>by rw [<-hq];exact HP.out u k hu (by omega) (by omega) (by omega) (by omega) (by omega)
      clear hq;cases q
      ·go_wp2_with (first
        |(refine Zw 36 (.tmp 1) rfl ?_;refine Zk rfl 36 (.tmp 1) rfl (w.heap.size) rfl HA.out Tryz.underlying36 rfl Xh rfl ?_)
        |(go_at_call 113;refine (HC.out _ HBB.out).mono ?_;rintro e w1 ⟨rfl,hb1⟩))
       go_ret;exact ⟨by rw [HL.out,HR.out,HD.out];rfl,HBB.out.trans (hb1.mono hz)⟩
      ·go_wp2_with (first
        |(refine Zw 36 (.tmp 1) rfl ?_;refine Zk rfl 36 (.tmp 1) rfl (w.heap.size) rfl HA.out Tryz.underlying36 rfl Xh rfl ?_)
        |(go_at_call 113;refine (HC.out _ HBB.out).mono ?_;rintro e w1 ⟨rfl,hb1⟩))
       go_roundw
       case rel=>exact ⟨k+1,by omega,by go_num,by rw [HR.out,HD.out];rfl,HA.out.below hb1 hlt0,HBB.out.trans (hb1.mono hz)⟩
       case measure=>simp [intOf];omega
     ·go_wp2
      go_ret;exact ⟨by rw [HL.out,HR.out,Z10 _ _ _ _ _ _ _ _ _ (by omega)];rfl,HBB.out⟩
 ·have nro:(i6 == 3)=false:=by simpa using hro
  have HL:Hid (Yw i6 i1 i0 l12.length i9 l14 l15 l16 l17=(Zy 0 [l14.length,l15.length,l16.length,l17.length] && Yt i0 l12.length i9 l14 l15 l16 l17 (0:Int).toNat 0)):=(by simp [Yw,hro]:Yw i6 i1 i0 l12.length i9 l14 l15 l16 l17=(Zy 0 [l14.length,l15.length,l16.length,l17.length] && Yt i0 l12.length i9 l14 l15 l16 l17 (0:Int).toNat 0));clear hro;go_enter Tryz.func73,Tryz.ntmps73;go_wp2;go_loop [22] (fun i=>∃ k:Nat,k<=4/\i=.int .i64 k/\Zy 0 [l14.length,l15.length,l16.length,l17.length]=Zy (0) ([l14.length,l15.length,l16.length,l17.length].drop k)) (fun i=>4-(intOf i).toNat)
  case atStart=>exact ⟨0,by omega,rfl,rfl⟩
  case round=>
   obtain ⟨k,hk,rfl,hr⟩:=hrel;have HR:Hid (Zy 0 [l14.length,l15.length,l16.length,l17.length]=Zy (0) ([l14.length,l15.length,l16.length,l17.length].drop k)):=hr;clear hr;rcases (show k=0∨k=1∨k=2∨k=3∨k=4 by omega) with rfl | rfl | rfl | rfl | rfl
   ·by_cases hq:(l14.length:Int)=0
    ·have nq:((l14.length:Int) == 0)=true:=by simpa using hq
     have HN:Hid (Zy 0 [l14.length,l15.length,l16.length,l17.length]=Zy (0) ([l14.length,l15.length,l16.length,l17.length].drop 1)):=(by rw [HR.out];simp only [Zy,List.drop_zero,List.drop_succ_cons,List.all_cons,nq,Bool.true_and]:Zy 0 [l14.length,l15.length,l16.length,l17.length]=Zy (0) ([l14.length,l15.length,l16.length,l17.length].drop 1));clear hq;go_wp2;go_round
     case rel=>exact ⟨1,by omega,by go_num,HN.out⟩
     case measure=>simp [intOf]
    ·have nq:((l14.length:Int) == 0)=false:=by simpa using hq
     have HN:Hid (Zy 0 [l14.length,l15.length,l16.length,l17.length]=false):=(by rw [HR.out];simp only [Zy,List.drop_zero,List.drop_succ_cons,List.all_cons,nq,Bool.false_and]:Zy 0 [l14.length,l15.length,l16.length,l17.length]=false);clear hq;go_wp2;go_ret;exact ⟨by rw [HL.out,HN.out];rfl,((Below.refl _ _).alloc (Nat.le_refl _) _).alloc (by simp) _⟩
   ·by_cases hq:(l15.length:Int)=0
    ·have nq:((l15.length:Int) == 0)=true:=by simpa using hq
     have HN:Hid (Zy 0 [l14.length,l15.length,l16.length,l17.length]=Zy (0) ([l14.length,l15.length,l16.length,l17.length].drop 2)):=(by rw [HR.out];simp only [Zy,List.drop_zero,List.drop_succ_cons,List.all_cons,nq,Bool.true_and]:Zy 0 [l14.length,l15.length,l16.length,l17.length]=Zy (0) ([l14.length,l15.length,l16.length,l17.length].drop 2));clear hq;go_wp2;go_round
     case rel=>exact ⟨2,by omega,by go_num,HN.out⟩
     case measure=>simp [intOf]
    ·have nq:((l15.length:Int) == 0)=false:=by simpa using hq
     have HN:Hid (Zy 0 [l14.length,l15.length,l16.length,l17.length]=false):=(by rw [HR.out];simp only [Zy,List.drop_zero,List.drop_succ_cons,List.all_cons,nq,Bool.false_and]:Zy 0 [l14.length,l15.length,l16.length,l17.length]=false);clear hq;go_wp2;go_ret;exact ⟨by rw [HL.out,HN.out];rfl,((Below.refl _ _).alloc (Nat.le_refl _) _).alloc (by simp) _⟩
   ·by_cases hq:(l16.length:Int)=0
    ·have nq:((l16.length:Int) == 0)=true:=by simpa using hq
     have HN:Hid (Zy 0 [l14.length,l15.length,l16.length,l17.length]=Zy (0) ([l14.length,l15.length,l16.length,l17.length].drop 3)):=(by rw [HR.out];simp only [Zy,List.drop_zero,List.drop_succ_cons,List.all_cons,nq,Bool.true_and]:Zy 0 [l14.length,l15.length,l16.length,l17.length]=Zy (0) ([l14.length,l15.length,l16.length,l17.length].drop 3));clear hq;go_wp2;go_round
     case rel=>exact ⟨3,by omega,by go_num,HN.out⟩
     case measure=>simp [intOf]
    ·have nq:((l16.length:Int) == 0)=false:=by simpa using hq
     have HN:Hid (Zy 0 [l14.length,l15.length,l16.length,l17.length]=false):=(by rw [HR.out];simp only [Zy,List.drop_zero,List.drop_succ_cons,List.all_cons,nq,Bool.false_and]:Zy 0 [l14.length,l15.length,l16.length,l17.length]=false);clear hq;go_wp2;go_ret;exact ⟨by rw [HL.out,HN.out];rfl,((Below.refl _ _).alloc (Nat.le_refl _) _).alloc (by simp) _⟩
   ·by_cases hq:(l17.length:Int)=0
    ·have nq:((l17.length:Int) == 0)=true:=by simpa using hq
     have HN:Hid (Zy 0 [l14.length,l15.length,l16.length,l17.length]=Zy (0) ([l14.length,l15.length,l16.length,l17.length].drop 4)):=(by rw [HR.out];simp only [Zy,List.drop_zero,List.drop_succ_cons,List.all_cons,nq,Bool.true_and]:Zy 0 [l14.length,l15.length,l16.length,l17.length]=Zy (0) ([l14.length,l15.length,l16.length,l17.length].drop 4));clear hq;go_wp2;go_round
     case rel=>exact ⟨4,by omega,by go_num,HN.out⟩
     case measure=>simp [intOf]
    ·have nq:((l17.length:Int) == 0)=false:=by simpa using hq
     have HN:Hid (Zy 0 [l14.length,l15.length,l16.length,l17.length]=false):=(by rw [HR.out];simp only [Zy,List.drop_zero,List.drop_succ_cons,List.all_cons,nq,Bool.false_and]:Zy 0 [l14.length,l15.length,l16.length,l17.length]=false);clear hq;go_wp2;go_ret;exact ⟨by rw [HL.out,HN.out];rfl,((Below.refl _ _).alloc (Nat.le_refl _) _).alloc (by simp) _⟩
   ·have HT:Zy 0 [l14.length,l15.length,l16.length,l17.length]=true:=by rw [HR.out];rfl
    obtain ⟨q14,q15,q16,q17⟩:=(Xz _ _ _ _ _).1 HT;rw [HT] at HL;clear HR HT;go_wp2
    go_loopw [32] (fun i wr=>∃ k:Nat,(k:Int)<=0/\i=.int .i64 k/\Yt i0 l12.length i9 l14 l15 l16 l17 (0:Int).toNat 0=Yt i0 l12.length i9 l14 l15 l16 l17 (0:Int).toNat k/\Blk wr w.heap.size #[.int .i64 i0,.int .i64 i1,.int .i64 i2,.int .i64 i3,.int .i64 i4,.int .i64 i5,.int .i64 i6,.int .i64 i7,.int .i64 i8,.int .i64 i9,.int .i64 i10,.int .i64 i11,.slice a12 l12.length cap12,.slice a13 l13.length cap13,.slice a14 l14.length cap14,.slice a15 l15.length cap15,.slice a16 l16.length cap16,.slice a17 l17.length cap17] 36/\Below w.heap.size w wr) (fun i _=>8-(intOf i).toNat)
    case atStart=>exact ⟨0,by omega,rfl,rfl,(Blk.new _ _ _).alloc _,((Below.refl _ _).alloc (Nat.le_refl _) _).alloc (by simp) _⟩
    case round=>
     obtain ⟨k,hk,rfl,hr,BA,hB⟩:=hrel;have HR:Hid (Yt i0 l12.length i9 l14 l15 l16 l17 (0:Int).toNat 0=Yt i0 l12.length i9 l14 l15 l16 l17 (0:Int).toNat k):=hr;have HBB:Hid _:=hB;have HA:Hid (Blk wr w.heap.size _ 36):=BA;have hz:=hB.size;have hlt0:=BA.lt;clear hr BA hB;by_cases hlt:(k:Int)<0
     ·have HD:Hid (Yt i0 l12.length i9 l14 l15 l16 l17 (0:Int).toNat k=_):=Z1b i0 l12.length i9 l14 l15 l16 l17 (0:Int).toNat k (by omega)
      generalize hq:Yg ((k:Int)+1) i0 l12.length i9 (l14.getD k 0) (l15.getD k 0) (l16.getD k 0) (l17.getD k 0)=q at HD;have HC:Hid (∀ u:World,Below w.heap.size w u->Calls Tryz.prog 113 #[.agg #[.int .i64 i0,.int .i64 i1,.int .i64 i2,.int .i64 i3,.int .i64 i4,.int .i64 i5,.int .i64 i6,.int .i64 i7,.int .i64 i8,.int .i64 i9,.int .i64 i10,.int .i64 i11,.slice a12 l12.length cap12,.slice a13 l13.length cap13,.slice a14 l14.length cap14,.slice a15 l15.length cap15,.slice a16 l16.length cap16,.slice a17 l17.length cap17],.int .i64 ((k:Int)+1)] u fun e w'=>e=.returned (.bool q)/\Below u.heap.size u w'):=fun u hu=>by rw [<-hq];exact HP.out u k hu (by omega) (by omega) (by omega) (by omega) (by omega)
      clear hq;cases q
      ·go_wp2_with (first
        |(refine Zw 36 (.tmp 1) rfl ?_;refine Zk rfl 36 (.tmp 1) rfl (w.heap.size) rfl HA.out Tryz.underlying36 rfl Xh rfl ?_)
        |(go_at_call 113;refine (HC.out _ HBB.out).mono ?_;rintro e w1 ⟨rfl,hb1⟩))
       go_ret;exact ⟨by rw [HL.out,HR.out,HD.out];rfl,HBB.out.trans (hb1.mono hz)⟩
      ·go_wp2_with (first
        |(refine Zw 36 (.tmp 1) rfl ?_;refine Zk rfl 36 (.tmp 1) rfl (w.heap.size) rfl HA.out Tryz.underlying36 rfl Xh rfl ?_)
        |(go_at_call 113;refine (HC.out _ HBB.out).mono ?_;rintro e w1 ⟨rfl,hb1⟩))
       go_roundw
       case rel=>exact ⟨k+1,by omega,by go_num,by rw [HR.out,HD.out];rfl,HA.out.below hb1 hlt0,HBB.out.trans (hb1.mono hz)⟩
       case measure=>simp [intOf];omega
     ·go_wp2
      go_ret;exact ⟨by rw [HL.out,HR.out,Z10 _ _ _ _ _ _ _ _ _ (by omega)];rfl,HBB.out⟩
def Js (fr tq:Int):Bool:=inB fr 1 7 && inB tq 1 7 && (fr != tq)
def Z0a (ki tm li lt:Int):Bool:=
 if ki=1∨ki=3∨ki=5 then inB li 0 4096 && inB lt 0 tm && ((lt == 0) == (li == 0))
 else if ki=6 then inB li 0 4096 && (lt == 0) else (li == 0) && (lt == 0)
def Xr (ki cm ok hi:Int):Bool:=
 inB cm 0 (if ki=5 then 4096 else 0) && inB ok 0 (if ki=2∨ki=4∨ki=6 then 1 else 0) && inB hi 0 (if ki=6/\ok=0 then 4096 else 0)
theorem endsFit_any (ki fr tq tm li lt cm ok hi:Int)(ev:Value)(w:World) :
  Calls Tryz.prog 159 #[.agg #[.int .i64 ki,.int .i64 fr,.int .i64 tq,.int .i64 tm,.int .i64 li,.int .i64 lt,.int .i64 cm,.int .i64 ok,.int .i64 hi,ev]] w fun r w'=>r=.returned (.bool (Js fr tq))/\Below w.heap.size w w':=by
 go_enter Tryz.func159,Tryz.ntmps159
 go_wp2_with (go_at_call 70;refine (Ze _ _ _ _).mono ?_;rintro e w' ⟨rfl,rfl⟩)
 all_goals go_ret
 all_goals refine ⟨X0 ?_,(Below.refl _ _).alloc (Nat.le_refl _) _⟩
 all_goals (go_light;simp_all [Js])
theorem Z2y (ki fr tq tm li lt cm ok hi:Int)(ev:Value)(w:World) :
  Calls Tryz.prog 160 #[.agg #[.int .i64 ki,.int .i64 fr,.int .i64 tq,.int .i64 tm,.int .i64 li,.int .i64 lt,.int .i64 cm,.int .i64 ok,.int .i64 hi,ev]] w fun r w'=>r=.returned (.bool (Z0a ki tm li lt))/\Below w.heap.size w w':=by
 go_enter Tryz.func160,Tryz.ntmps160
 go_wp2_with (go_at_call 70;refine (Ze _ _ _ _).mono ?_;rintro e w' ⟨rfl,rfl⟩)
 all_goals go_ret
 all_goals refine ⟨X0 ?_,(Below.refl _ _).alloc (Nat.le_refl _) _⟩
 all_goals (go_light;simp_all [Z0a])
theorem marksFit_any (ki fr tq tm li lt cm ok hi:Int)(ev:Value)(w:World) :
  Calls Tryz.prog 161 #[.agg #[.int .i64 ki,.int .i64 fr,.int .i64 tq,.int .i64 tm,.int .i64 li,.int .i64 lt,.int .i64 cm,.int .i64 ok,.int .i64 hi,ev]] w fun r w'=>r=.returned (.bool (Xr ki cm ok hi))/\Below w.heap.size w w':=by
 go_enter Tryz.func161,Tryz.ntmps161
 go_wp2_with (go_at_call 70;refine (Ze _ _ _ _).mono ?_;rintro e w' ⟨rfl,rfl⟩)
 all_goals go_ret
 all_goals refine ⟨X0 ?_,(Below.refl _ _).alloc (Nat.le_refl _) _⟩
 all_goals (go_light;simp_all [Xr])
def J7 (ki li lt tm:Int)(l:List Ent):Bool:=
 if ki=5 then decide (l.length<=32) && decide (li+l.length<=4096) && Xc tm lt l else decide (l.length=0)
theorem Z3n (ki fr tq tm li lt cm ok hi:Int)(ev:Value)(l:List Ent)(w:World)(hv:Es w ev l)(hli:0<=li)(hli':li<=1000000)(hll:l.length<=1048576) :
  Calls Tryz.prog 162 #[.agg #[.int .i64 ki,.int .i64 fr,.int .i64 tq,.int .i64 tm,.int .i64 li,.int .i64 lt,.int .i64 cm,.int .i64 ok,.int .i64 hi,ev]] w fun r w'=>r=.returned (.bool (J7 ki li lt tm l))/\Below w.heap.size w w':=by
 have HV:Hid (Es w ev l):=hv;obtain ⟨hl,hf,a,cap,rfl,hc⟩:=hv;clear hc hf;by_cases h5:ki=5
 ·subst h5
  by_cases h32:l.length<=32
  ·by_cases h40:li+l.length<=4096
   ·have hE:J7 5 li lt tm l=Xc tm lt l:=by simp [J7,h32,h40]
    rw [hE];clear hE;go_enter Tryz.func162,Tryz.ntmps162
    go_wp2_with (go_at_call 69;refine (Z14 _ lt tm l _ (HV.out.below ((Below.refl _ _).alloc (Nat.le_refl _) _)) hll).mono ?_;rintro r w1 ⟨rfl,hb⟩)
    go_ret;exact ⟨rfl,((Below.refl _ _).alloc (Nat.le_refl _) _).trans (hb.mono (by simp))⟩
   ·have hE:J7 5 li lt tm l=false:=by simp [J7,h40]
    have hd:decide (4096<li+l.length)=true:=by simp;omega
    rw [hE];go_enter Tryz.func162,Tryz.ntmps162;go_wp2;go_ret;exact ⟨rfl,(Below.refl _ _).alloc (Nat.le_refl _) _⟩
  ·have hE:J7 5 li lt tm l=false:=by simp [J7,h32]
   rw [hE];go_enter Tryz.func162,Tryz.ntmps162;go_wp2;go_ret;exact ⟨rfl,(Below.refl _ _).alloc (Nat.le_refl _) _⟩
 ·have n5:(ki != 5)=true:=by simpa using h5
  go_enter Tryz.func162,Tryz.ntmps162;go_wp2;go_ret;exact ⟨X0 (by rw [J7,if_neg h5];first | rfl | (simp;done) | (rw [Bool.eq_iff_iff];simp)),(Below.refl _ _).alloc (Nat.le_refl _) _⟩
def Jc (ki fr tq tm li lt cm ok hi:Int)(l:List Ent):Int:=
 if inB ki 1 6=false then 1 else if Js fr tq=false then 2 else if inB tm 1 1073741824=false then 3
 else if Z0a ki tm li lt=false then 4 else if Xr ki cm ok hi=false then 5 else if J7 ki li lt tm l=false then 6 else 0
theorem posB_li {ki tm li lt:Int}(h:Z0a ki tm li lt=true):0<=li/\li<=4096:=by
 unfold Z0a at h;split at h
 ·simp [inB] at h;omega
 ·split at h
  ·simp [inB] at h;omega
  ·simp at h;omega
theorem Z2t (ki fr tq tm li lt cm ok hi:Int)(ev:Value)(l:List Ent)(w:World)(hv:Es w ev l)(hll:l.length<=1048576) :
  Calls Tryz.prog 129 #[.agg #[.int .i64 ki,.int .i64 fr,.int .i64 tq,.int .i64 tm,.int .i64 li,.int .i64 lt,.int .i64 cm,.int .i64 ok,.int .i64 hi,ev]] w fun r w'=>r=.returned (.int .i64 (Jc ki fr tq tm li lt cm ok hi l))/\Below w.heap.size w w':=by
 have hV:Hid (Es w ev l):=hv;obtain ⟨hl,hf,a,cap,rfl,hc⟩:=hv;clear hc;have hB:Below w.heap.size w (w.alloc (.cells #[.int .i64 ki,.int .i64 fr,.int .i64 tq,.int .i64 tm,.int .i64 li,.int .i64 lt,.int .i64 cm,.int .i64 ok,.int .i64 hi,.slice a l.length cap] 43)):=(Below.refl _ _).alloc (Nat.le_refl _) _;have hz:w.heap.size<(w.alloc (.cells #[.int .i64 ki,.int .i64 fr,.int .i64 tq,.int .i64 tm,.int .i64 li,.int .i64 lt,.int .i64 cm,.int .i64 ok,.int .i64 hi,.slice a l.length cap] 43)).heap.size:=by simp
 go_enter Tryz.func129,Tryz.ntmps129
 go_wp2_with (first
  |(go_at_call 70;refine (Ze _ _ _ _).mono ?_;rintro r w' ⟨rfl,rfl⟩)
  |(go_at_call 159;refine (endsFit_any _ _ _ _ _ _ _ _ _ _ _).mono ?_;rintro r w1 ⟨rfl,hb⟩;obtain ⟨hc1,hf1⟩:=Z0b hb;replace hB:=hB.trans (hb.mono (by omega));have hz:=Nat.lt_of_lt_of_le hz hb.size)
  |(go_at_call 160;refine (Z2y _ _ _ _ _ _ _ _ _ _ _).mono ?_;rintro r w2 ⟨rfl,hb⟩;obtain ⟨hc2,hf2⟩:=Z0b hb;replace hB:=hB.trans (hb.mono (by omega));have hz:=Nat.lt_of_lt_of_le hz hb.size)
  |(go_at_call 161;refine (marksFit_any _ _ _ _ _ _ _ _ _ _ _).mono ?_;rintro r w3 ⟨rfl,hb⟩;obtain ⟨hc3,hf3⟩:=Z0b hb;replace hB:=hB.trans (hb.mono (by omega));have hz:=Nat.lt_of_lt_of_le hz hb.size)
  |(go_at_call 162;have hp:Z0a ki tm li lt=true:=(by have:(!Z0a ki tm li lt)=false:=(by assumption);simpa using this);obtain ⟨p1,p2⟩:=posB_li hp;refine (Z3n _ _ _ _ _ _ _ _ _ _ l _ (hV.out.below hB) p1 (by omega) hll).mono ?_;rintro r w4 ⟨rfl,hb⟩;replace hB:=hB.trans (hb.mono (by omega))))
 all_goals go_ret
 all_goals refine ⟨Yj ?_,hB⟩
 all_goals (clear hB hV;go_light;simp_all [Jc])
end Go.Proofs.YtmmpoppgabadmaaGreat
namespace Go.Proofs.YtmmpoppgabadmaaGreat
open Go.ChangeShapes Go.WideShapes Go.ChangeAt Go.RowKit
theorem own:ownKnob Tryz.prog.godebug=none:=by kernel_rfl
theorem laidOut:laidOutB Tryz.prog=true:=by kernel_rfl
end Go.Proofs.YtmmpoppgabadmaaGreat
namespace Go.Proofs.YtmmpoppgabadmaaGreat
open Go.ChangeShapes Go.WideShapes Go.ChangeAt Go.RowKit
theorem bytes_of_trod {H:Type}{enc:TypeId×Value->H}{W:World}{base fuel:Nat}{spare:Nat->Bool}{held:Bool}{c:Value}{x:DataW H×List MemPlace}
  (hf:DataW.trod enc Tryz.prog W base spare held fuel 55 [c]=some x):∃ l,Bs W c l:=by
 rcases open_ints Tryz.underlying55 Tryz.underlying5 (by kernel_rfl) hf with ⟨hcs,_⟩ | ⟨x,len,cap,zs,hcs,_,hl,hm,hz,_,Xa,hwz⟩
 ·simp at hcs
  subst hcs;exact ⟨[],by simp [maxLen],by simp,_,_,rfl,fun i hi=>absurd hi (by simp)⟩
 ·simp at hcs
  subst hcs;have hz':len<=zs.length:=by rw [hz];split <;> omega
  have hlen:(zs.take len).length=len:=by rw [List.length_take];omega
  refine ⟨zs.take len,by rw [hlen];omega,fun y hy=>?_,some x,cap,by rw [hlen],fun i hi=>?_⟩
  ·have:=hwz y (List.mem_of_mem_take hy)
   simpa [Lit.wf,IntKind.min,IntKind.max,IntKind.signed,IntKind.bits] using this
  ·obtain ⟨b,off,spot⟩:=x
   rw [hlen] at hi;have hspot:spot=none:=by simpa [Addr.add] using World.cell?_spot (Xa 0 (by omega))
   subst hspot;refine ⟨b,off,rfl,fun j hj=>?_⟩;rw [hlen] at hj;have:=Xa j (by omega)
   have ea:Addr.add ⟨b,off,none⟩ j=⟨b,off+j,none⟩:=by
    unfold Addr.add;split
    ·next h=>subst h;rfl
    ·rfl
   rw [ea] at this;simpa [List.getElem?_take,hj,List.getD_eq_getElem?_getD] using this
theorem open_bytes {H:Type}{enc:TypeId×Value->H}{W:World}{base b0:Nat}{spare:Nat->Bool}{held:Bool}{v:Value}{d:DataW H}{p:List MemPlace}
  (hv:Value.okWide Tryz.prog W .any b0 55 v) (h:DataW.Trod enc Tryz.prog W base spare held 55 v d p):∃ l,Bs W v l:=by
 obtain ⟨a,len,cap,rfl⟩:=okWide_slice Tryz.underlying55 hv;obtain ⟨fuel,hf⟩:=h;rcases open_ints Tryz.underlying55 Tryz.underlying5 (by kernel_rfl) hf with ⟨hcs,_⟩ | ⟨x,l,c,zs,hcs,_,hl,hm,hz,_,Xa,hwz⟩
 ·simp [Value.cells] at hcs
  obtain ⟨rfl,rfl,rfl⟩:=hcs;exact ⟨[],by simp [maxLen],by simp,_,_,rfl,fun i hi=>absurd hi (by simp)⟩
 ·simp [Value.cells] at hcs
  obtain ⟨rfl,rfl,rfl⟩:=hcs;have hz':len<=zs.length:=by rw [hz];split <;> omega
  have hlen:(zs.take len).length=len:=by rw [List.length_take];omega
  refine ⟨zs.take len,by rw [hlen];omega,fun y hy=>?_,some x,cap,by rw [hlen],fun i hi=>?_⟩
  ·have:=hwz y (List.mem_of_mem_take hy)
   simpa [Lit.wf,IntKind.min,IntKind.max,IntKind.signed,IntKind.bits] using this
  ·obtain ⟨b,off,spot⟩:=x
   rw [hlen] at hi;have hspot:spot=none:=by simpa [Addr.add] using World.cell?_spot (Xa 0 (by omega))
   subst hspot;refine ⟨b,off,rfl,fun j hj=>?_⟩;rw [hlen] at hj;have:=Xa j (by omega)
   have ea:Addr.add ⟨b,off,none⟩ j=⟨b,off+j,none⟩:=by
    unfold Addr.add;split
    ·next h=>subst h;rfl
    ·rfl
   rw [ea] at this;simpa [List.getElem?_take,hj,List.getD_eq_getElem?_getD] using this
end Go.Proofs.YtmmpoppgabadmaaGreat
