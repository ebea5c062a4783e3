import Derived.Test.YtmmpoppgabadmaaGreatG09
import Derived.Deep.QuietTactic
import Derived.BigQuiet
import Derived.Deep.RegionHeld3
set_option linter.unusedVariables false
set_option linter.unusedSimpArgs false
set_option maxRecDepth 100000
set_option maxHeartbeats 16000000
namespace Go.Proofs.YtmmpoppgabadmaaGreat
open Go.RowKit
def Z06 (fr tq:Int):Bool:=inB fr 1 7 && inB tq 1 7 && (fr != tq)
def Z0y (ki tm li lt:Int):Bool:=
 if ki=1∨ki=3∨ki=5 then inB li 0 4096 && inB lt 0 tm && ((lt == 0) == (li == 0))
 else if ki=6 then inB li 0 4096 && (lt == 0) else (li == 0) && (lt == 0)
def Xq (ki cm ok hi:Int):Bool:=
 inB cm 0 (if ki=5 then 4096 else 0) && inB ok 0 (if ki=2∨ki=4∨ki=6 then 1 else 0) && inB hi 0 (if ki=6/\ok=0 then 4096 else 0)
theorem endsFit_any (ki fr tq tm li lt cm ok hi:Int)(ev:Value)(w:World) :
  Calls Tryz.prog 159 #[.agg #[.int .i64 ki,.int .i64 fr,.int .i64 tq,.int .i64 tm,.int .i64 li,.int .i64 lt,.int .i64 cm,.int .i64 ok,.int .i64 hi,ev]] w fun r w'=>r=.returned (.bool (Z06 fr tq))/\Below w.heap.size w w':=by
 go_enter Tryz.func159,Tryz.ntmps159
 go_wp2_with (go_at_call 70;refine (Z2 _ _ _ _).mono ?_;rintro e w' ⟨rfl,rfl⟩)
 all_goals go_ret
 all_goals refine ⟨Yg ?_,(Below.refl _ _).alloc (Nat.le_refl _) _⟩
 all_goals (go_light;simp_all [Z06])
theorem Z3y (ki fr tq tm li lt cm ok hi:Int)(ev:Value)(w:World) :
  Calls Tryz.prog 160 #[.agg #[.int .i64 ki,.int .i64 fr,.int .i64 tq,.int .i64 tm,.int .i64 li,.int .i64 lt,.int .i64 cm,.int .i64 ok,.int .i64 hi,ev]] w fun r w'=>r=.returned (.bool (Z0y ki tm li lt))/\Below w.heap.size w w':=by
 go_enter Tryz.func160,Tryz.ntmps160
 go_wp2_with (go_at_call 70;refine (Z2 _ _ _ _).mono ?_;rintro e w' ⟨rfl,rfl⟩)
 all_goals go_ret
 all_goals refine ⟨Yg ?_,(Below.refl _ _).alloc (Nat.le_refl _) _⟩
 all_goals (go_light;simp_all [Z0y])
theorem marksFit_any (ki fr tq tm li lt cm ok hi:Int)(ev:Value)(w:World) :
  Calls Tryz.prog 161 #[.agg #[.int .i64 ki,.int .i64 fr,.int .i64 tq,.int .i64 tm,.int .i64 li,.int .i64 lt,.int .i64 cm,.int .i64 ok,.int .i64 hi,ev]] w fun r w'=>r=.returned (.bool (Xq ki cm ok hi))/\Below w.heap.size w w':=by
 go_enter Tryz.func161,Tryz.ntmps161
 go_wp2_with (go_at_call 70;refine (Z2 _ _ _ _).mono ?_;rintro e w' ⟨rfl,rfl⟩)
 all_goals go_ret
 all_goals refine ⟨Yg ?_,(Below.refl _ _).alloc (Nat.le_refl _) _⟩
 all_goals (go_light;simp_all [Xq])
def Xz (ki li lt tm:Int)(l:List Ent):Bool:=
 if ki=5 then decide (l.length<=32) && decide (li+l.length<=4096) && J0 tm lt l else decide (l.length=0)
theorem Z5m (ki fr tq tm li lt cm ok hi:Int)(ev:Value)(l:List Ent)(w:World)(hv:Es w ev l)(hli:0<=li)(hli':li<=1000000)(hll:l.length<=1048576) :
  Calls Tryz.prog 162 #[.agg #[.int .i64 ki,.int .i64 fr,.int .i64 tq,.int .i64 tm,.int .i64 li,.int .i64 lt,.int .i64 cm,.int .i64 ok,.int .i64 hi,ev]] w fun r w'=>r=.returned (.bool (Xz ki li lt tm l))/\Below w.heap.size w w':=by
 have HV:Hid (Es w ev l):=hv;obtain ⟨hl,hf,a,cap,rfl,hc⟩:=hv;clear hc hf;by_cases h5:ki=5
 ·subst h5
  by_cases h32:l.length<=32
  ·by_cases h40:li+l.length<=4096
   ·have hE:Xz 5 li lt tm l=J0 tm lt l:=by simp [Xz,h32,h40]
    rw [hE];clear hE;go_enter Tryz.func162,Tryz.ntmps162
    go_wp2_with (go_at_call 69;refine (Z1y _ lt tm l _ (HV.out.below ((Below.refl _ _).alloc (Nat.le_refl _) _)) hll).mono ?_;rintro r w1 ⟨rfl,hb⟩)
    go_ret;exact ⟨rfl,((Below.refl _ _).alloc (Nat.le_refl _) _).trans (hb.mono (by simp))⟩
   ·have hE:Xz 5 li lt tm l=false:=by simp [Xz,h40]
    have hd:decide (4096<li+l.length)=true:=by simp;omega
    rw [hE];go_enter Tryz.func162,Tryz.ntmps162;go_wp2;go_ret;exact ⟨rfl,(Below.refl _ _).alloc (Nat.le_refl _) _⟩
  ·have hE:Xz 5 li lt tm l=false:=by simp [Xz,h32]
   rw [hE];go_enter Tryz.func162,Tryz.ntmps162;go_wp2;go_ret;exact ⟨rfl,(Below.refl _ _).alloc (Nat.le_refl _) _⟩
 ·have n5:(ki != 5)=true:=by simpa using h5
  go_enter Tryz.func162,Tryz.ntmps162;go_wp2;go_ret;exact ⟨Yg (by rw [Xz,if_neg h5];first | rfl | (simp;done) | (rw [Bool.eq_iff_iff];simp)),(Below.refl _ _).alloc (Nat.le_refl _) _⟩
def Jh (ki fr tq tm li lt cm ok hi:Int)(l:List Ent):Int:=
 if inB ki 1 6=false then 1 else if Z06 fr tq=false then 2 else if inB tm 1 1073741824=false then 3
 else if Z0y ki tm li lt=false then 4 else if Xq ki cm ok hi=false then 5 else if Xz ki li lt tm l=false then 6 else 0
theorem posB_li {ki tm li lt:Int}(h:Z0y ki tm li lt=true):0<=li/\li<=4096:=by
 unfold Z0y at h;split at h
 ·simp [inB] at h;omega
 ·split at h
  ·simp [inB] at h;omega
  ·simp at h;omega
theorem Z45 (ki fr tq tm li lt cm ok hi:Int)(ev:Value)(l:List Ent)(w:World)(hv:Es w ev l)(hll:l.length<=1048576) :
  Calls Tryz.prog 129 #[.agg #[.int .i64 ki,.int .i64 fr,.int .i64 tq,.int .i64 tm,.int .i64 li,.int .i64 lt,.int .i64 cm,.int .i64 ok,.int .i64 hi,ev]] w fun r w'=>r=.returned (.int .i64 (Jh ki fr tq tm li lt cm ok hi l))/\Below w.heap.size w w':=by
 have hV:Hid (Es w ev l):=hv;obtain ⟨hl,hf,a,cap,rfl,hc⟩:=hv;clear hc;have hB:Below w.heap.size w (w.alloc (.cells #[.int .i64 ki,.int .i64 fr,.int .i64 tq,.int .i64 tm,.int .i64 li,.int .i64 lt,.int .i64 cm,.int .i64 ok,.int .i64 hi,.slice a l.length cap] 43)):=(Below.refl _ _).alloc (Nat.le_refl _) _;have hz:w.heap.size<(w.alloc (.cells #[.int .i64 ki,.int .i64 fr,.int .i64 tq,.int .i64 tm,.int .i64 li,.int .i64 lt,.int .i64 cm,.int .i64 ok,.int .i64 hi,.slice a l.length cap] 43)).heap.size:=by simp
 go_enter Tryz.func129,Tryz.ntmps129
 go_wp2_with (first
  |(go_at_call 70;refine (Z2 _ _ _ _).mono ?_;rintro r w' ⟨rfl,rfl⟩)
  |(go_at_call 159;refine (endsFit_any _ _ _ _ _ _ _ _ _ _ _).mono ?_;rintro r w1 ⟨rfl,hb⟩;obtain ⟨hc1,hf1⟩:=Jw hb;replace hB:=hB.trans (hb.mono (by omega));have hz:=Nat.lt_of_lt_of_le hz hb.size)
  |(go_at_call 160;refine (Z3y _ _ _ _ _ _ _ _ _ _ _).mono ?_;rintro r w2 ⟨rfl,hb⟩;obtain ⟨hc2,hf2⟩:=Jw hb;replace hB:=hB.trans (hb.mono (by omega));have hz:=Nat.lt_of_lt_of_le hz hb.size)
  |(go_at_call 161;refine (marksFit_any _ _ _ _ _ _ _ _ _ _ _).mono ?_;rintro r w3 ⟨rfl,hb⟩;obtain ⟨hc3,hf3⟩:=Jw hb;replace hB:=hB.trans (hb.mono (by omega));have hz:=Nat.lt_of_lt_of_le hz hb.size)
  |(go_at_call 162;have hp:Z0y ki tm li lt=true:=(by have:(!Z0y ki tm li lt)=false:=(by assumption);simpa using this);obtain ⟨p1,p2⟩:=posB_li hp;refine (Z5m _ _ _ _ _ _ _ _ _ _ l _ (hV.out.below hB) p1 (by omega) hll).mono ?_;rintro r w4 ⟨rfl,hb⟩;replace hB:=hB.trans (hb.mono (by omega))))
 all_goals go_ret
 all_goals refine ⟨Y1 ?_,hB⟩
 all_goals (clear hB hV;go_light;simp_all [Jh])
def Z1l (k:Nat):List Value:=[.int .i64 k,.int .i64 (k+1:Nat),.int .i64 (k+2:Nat),.int .i64 (k+3:Nat),.string (mtx (k+4)),.string (mtx (k+5)),.string (mtx (k+6))]
theorem Jv (k:Nat):(Z1l k).length=7:=rfl
theorem Z11 (k0:Nat)(hk0:k0<=20000000)(q n cap:Nat)(w:World)(hR:w.there q 0 (n*7))(hq:q<w.heap.size)(hn:n<=1048576) :
  Calls Tryz.prog 45 #[.slice (some ⟨q,0,none⟩) n cap,.int .i64 k0] w fun r w'=>r=.returned (.int .i64 ((k0+7*n:Nat):Int))/\MkG Z1l 7 w' q n k0 n 0/\w.grownBy w' (some q):=by
 go_enter Tryz.func45,Tryz.ntmps45;go_wp2
 go_loopw [1,5] (fun c i wr=>∃ j:Nat,j<=n/\i=.int .i64 j/\c=.int .i64 ((k0+7*j:Nat):Int)/\MkG Z1l 7 wr q n k0 j 0/\w.grownBy wr (some q)) (fun _ i _=>n-(intOf i).toNat)
 case atStart=>exact ⟨0,Nat.zero_le _,rfl,by simp,.start hR,⟨rfl,rfl,rfl,Nat.le_refl _,fun _ _ _=>rfl⟩⟩
 case round=>
  obtain ⟨j,hj,rfl,rfl,hK,hg⟩:=hrel;have hz:=hg.size;clear hR;by_cases hlt:j<n
  ·have HK:Hid (MkG Z1l 7 wr q n k0 j 0):=hK
   obtain ⟨y0z,d0z⟩:=Zv hK.room (j*7) (by omega);have f0z:=Zj hK.room (j*7) (by omega);obtain ⟨y1z,d1z⟩:=Zv hK.room (j*7+1) (by omega);have f1z:=Zj hK.room (j*7+1) (by omega);obtain ⟨y2z,d2z⟩:=Zv hK.room (j*7+2) (by omega);have f2z:=Zj hK.room (j*7+2) (by omega);obtain ⟨y3z,d3z⟩:=Zv hK.room (j*7+3) (by omega);have f3z:=Zj hK.room (j*7+3) (by omega);obtain ⟨y4z,d4z⟩:=Zv hK.room (j*7+1+1) (by omega);have f4z:=Zj hK.room (j*7+1+1) (by omega);obtain ⟨y5z,d5z⟩:=Zv hK.room (j*7+1+2) (by omega);have f5z:=Zj hK.room (j*7+1+2) (by omega);have g1:True:=trivial;have g2:True:=trivial;clear hK
   go_wp2_with (first
    |(go_at_call 89;clear g1;refine (Ju _ _ (by omega) (by omega)).mono ?_;rintro r w1 ⟨rfl,hb1⟩;have K1:MkG Z1l 7 w1 q n k0 j 4:=MkG.below (by exact ((((HK.out.step Jv hlt (by omega) _ (by simp [Z1l])).step Jv hlt (by omega) _ (by simp [Z1l])).step Jv hlt (by omega) _ (by simp [Z1l];omega)).step Jv hlt (by omega) _ (by simp [Z1l];omega))) hb1 (by simp [World.setCell];omega);have G1:w.grownBy w1 (some q):=Yk (by exact (Yk (Yk (Yk (Yk hg (Je _ _ _ _ _ rfl)) (Je _ _ _ _ _ rfl)) (Je _ _ _ _ _ rfl)) (Je _ _ _ _ _ rfl))) (Z1r _ hb1);obtain ⟨y8,d8⟩:=Zv K1.room (j*7+1+3) (by omega);have f8:=Zj K1.room (j*7+1+3) (by omega);have hz1:=G1.size;clear hb1)
    |(go_at_call 89;clear g2;refine (Ju _ _ (by omega) (by omega)).mono ?_;rintro r w2 ⟨rfl,hb2⟩;have K2:MkG Z1l 7 w2 q n k0 j 5:=MkG.below (by exact K1.step Jv hlt (by omega) _ (by rfl)) hb2 (by simp [World.setCell];omega);have G2:w.grownBy w2 (some q):=Yk (by exact Yk G1 (Je _ _ _ _ _ rfl)) (Z1r _ hb2);obtain ⟨y9,d9⟩:=Zv K2.room (j*7+1+4) (by omega);have f9:=Zj K2.room (j*7+1+4) (by omega);have hz2:=G2.size;clear hb2)
    |(go_at_call 89;refine (Ju _ _ (by omega) (by omega)).mono ?_;rintro r w3 ⟨rfl,hb3⟩;have K3:MkG Z1l 7 w3 q n k0 j 6:=MkG.below (by exact K2.step Jv hlt (by omega) _ (by rfl)) hb3 (by simp [World.setCell];omega);have G3:w.grownBy w3 (some q):=Yk (by exact Yk G2 (Je _ _ _ _ _ rfl)) (Z1r _ hb3);obtain ⟨y10,d10⟩:=Zv K3.room (j*7+1+5) (by omega);have f10:=Zj K3.room (j*7+1+5) (by omega);have hz3:=G3.size;clear hb3))
   go_roundw
   case rel=>exact ⟨j+1,by omega,by go_num,by go_num,(K3.step Jv hlt (by omega) _ (by rfl)).next Jv,Yk G3 (Je _ _ _ _ _ rfl)⟩
   case measure=>simp [intOf];omega
  ·go_wp2
   go_ret;obtain rfl:j=n:=by omega
   exact ⟨rfl,hK,hg⟩
structure MkI (w:World) (q n k0 j:Nat):Prop where
 room:w.there q 0 n
 old:∀ i,i<j->w.cell? ⟨q,i,none⟩=some (.int .i64 ((k0+i:Nat):Int))
theorem MkI.step {w:World}{q n k0 j:Nat}(h:MkI w q n k0 j)(hj:j<n):MkI (w.setCell ⟨q,j,none⟩ (.int .i64 ((k0+j:Nat):Int))) q n k0 (j+1):=by
 refine ⟨Yf h.room _ _ _,fun i hi=>?_⟩;by_cases e:i=j
 ·subst e
  obtain ⟨y,hy⟩:=Zv h.room i hj;exact World.cell?_setCell_same w ⟨q,i,none⟩ _ hy
 ·rw [World.cell?_setCell_other w ⟨q,j,none⟩ ⟨q,i,none⟩ _ (by intro h;injection h with h1 h2;omega)]
  exact h.old i (by omega)
theorem Z4m (k0:Nat)(hk0:k0<=100000000)(q n cap:Nat)(w:World)(hR:w.there q 0 n)(hq:q<w.heap.size)(hn:n<=1048576) :
  Calls Tryz.prog 46 #[.slice (some ⟨q,0,none⟩) n cap,.int .i64 k0] w fun r w'=>r=.returned (.int .i64 ((k0+n:Nat):Int))/\MkI w' q n k0 n/\w.grownBy w' (some q):=by
 go_enter Tryz.func46,Tryz.ntmps46;go_wp2
 go_loopw [1,5] (fun c i wr=>∃ j:Nat,j<=n/\i=.int .i64 j/\c=.int .i64 ((k0+j:Nat):Int)/\MkI wr q n k0 j/\w.grownBy wr (some q)) (fun _ i _=>n-(intOf i).toNat)
 case atStart=>exact ⟨0,Nat.zero_le _,rfl,by simp,⟨hR,fun i hi=>by omega⟩,⟨rfl,rfl,rfl,Nat.le_refl _,fun _ _ _=>rfl⟩⟩
 case round=>
  obtain ⟨j,hj,rfl,rfl,hK,hg⟩:=hrel;by_cases hlt:j<n
  ·obtain ⟨y,hy⟩:=Zv hK.room j hlt
   have hyf:=Zj hK.room j hlt;have HK:Hid (MkI (wr.setCell ⟨q,j,none⟩ (.int .i64 ((k0+j:Nat):Int))) q n k0 (j+1)):=hK.step hlt;have HG:Hid (w.grownBy (wr.setCell ⟨q,j,none⟩ (.int .i64 ((k0+j:Nat):Int))) (some q)):=Yk hg (Je _ _ _ _ _ rfl);clear hK hR;go_wp2
   go_roundw
   case rel=>exact ⟨j+1,by omega,by go_num,by go_num,HK.out,HG.out⟩
   case measure=>simp [intOf];omega
  ·obtain rfl:j=n:=by omega
   go_wp2;go_ret;exact ⟨rfl,hK,hg⟩
theorem heldIntS_is (k0:Nat)(hk0:k0<=100000000)(a:Option Addr)(n cap:Nat)(w:World)(hn:n<=1048576)(h:0<n->∃ q,a=some ⟨q,0,none⟩/\∀ i,i<n->w.cell? ⟨q,i,none⟩=some (.int .i64 ((k0+i:Nat):Int))) :
  Calls Tryz.prog 91 #[.slice a n cap,.int .i64 k0] w fun r w'=>r=.returned (.int .i64 ((k0+n:Nat):Int))/\Below w.heap.size w w':=by
 go_enter Tryz.func91,Tryz.ntmps91;go_wp2
 go_loopw [1,5] (fun c i wr=>∃ j:Nat,j<=n/\i=.int .i64 j/\c=.int .i64 ((k0+j:Nat):Int)/\∃ m,wr=w.drewN m) (fun _ i _=>n-(intOf i).toNat)
 case atStart=>exact ⟨0,Nat.zero_le _,rfl,by simp,0,rfl⟩
 case round=>
  obtain ⟨j,hj,rfl,rfl,m,rfl⟩:=hrel;by_cases hlt:j<n
  ·obtain ⟨q,rfl,hE⟩:=h (by omega)
   have hck:w.cell? ⟨q,j,none⟩=some (.int .i64 ((k0:Int)+(j:Int))):=by have h:=hE j hlt;simpa using h
   clear hE h;go_wp2
   go_roundw
   case rel=>exact ⟨j+1,by omega,by go_num,by go_num,_,rfl⟩
   case measure=>simp [intOf];omega
  ·obtain rfl:j=n:=by omega
   go_wp2;go_ret;exact ⟨rfl,rfl,rfl,rfl,Nat.le_refl _,fun _ _=>rfl⟩
theorem Z5t (cl sq op:Int)(k v o:ByteArray)(w:World) :
  Calls Tryz.prog 44 #[.agg #[.int .i64 cl,.int .i64 sq,.int .i64 op,.string k,.string v,.string o],.agg #[.int .i64 cl,.int .i64 sq,.int .i64 op,.string k,.string v,.string o]] w fun r w'=>
   r=.returned (.bool true)/\Below w.heap.size w w':=by
 go_enter Tryz.func44,Tryz.ntmps44;go_wp2;go_ret;exact ⟨rfl,((Below.refl _ _).alloc (Nat.le_refl _) _).alloc (by simp) _⟩
theorem eqEntry_same (e:Ent)(w:World) :
  Calls Tryz.prog 88 #[.agg #[.int .i64 e.t,.int .i64 e.cl,.int .i64 e.sq,.int .i64 e.op,.string e.k,.string e.v,.string e.o],.agg #[.int .i64 e.t,.int .i64 e.cl,.int .i64 e.sq,.int .i64 e.op,.string e.k,.string e.v,.string e.o]] w fun r w'=>
   r=.returned (.bool true)/\Below w.heap.size w w':=by
 go_enter Tryz.func88,Tryz.ntmps88
 go_wp2_with (go_at_call 44;refine (Z5t _ _ _ _ _ _ _).mono ?_;rintro r w1 ⟨rfl,hb⟩)
 go_ret;exact ⟨rfl,(((Below.refl _ _).alloc (Nat.le_refl _) _).alloc (by simp) _).trans (hb.mono (by simp;omega))⟩
theorem Z2o (v u:Value)(l:List Ent)(w:World)(hv:Es w v l)(hu:Es w u l) :
  Calls Tryz.prog 41 #[v,u] w fun r w'=>r=.returned (.bool true)/\Below w.heap.size w w':=by
 obtain ⟨hl,hf,a,cap,rfl,hc⟩:=hv;obtain ⟨_,_,a',cap',rfl,hc'⟩:=hu;unfold maxLen at hl;go_enter Tryz.func41,Tryz.ntmps41;go_wp2
 go_loopw [5] (fun i wr=>∃ k:Nat,k<=l.length/\i=.int .i64 k/\Below w.heap.size w wr) (fun i _=>l.length-(intOf i).toNat)
 case atStart=>exact ⟨0,Nat.zero_le _,rfl,Below.refl _ _⟩
 case round=>
  obtain ⟨k,hk,rfl,hB⟩:=hrel;by_cases hlt:k<l.length
  ·obtain ⟨b,off,rfl,hj⟩:=hc k hlt
   obtain ⟨b',off',rfl,hj'⟩:=hc' k hlt;have hbl:=Yd (hj k hlt).1;have hbl':=Yd (hj' k hlt).1;obtain ⟨c0,c1,c2,c3,c4,c5,c6⟩:=(hj k hlt).below hB;obtain ⟨d0,d1,d2,d3,d4,d5,d6⟩:=(hj' k hlt).below hB;have hz:=hB.size;clear hc hj hc' hj';generalize l[k]=e at *;go_wp2
   go_region_held3 (fun w'=>w'.cell? ⟨b,off+k*7,none⟩=some (.int .i64 e.t)/\w'.cell? ⟨b,off+k*7+1,none⟩=some (.int .i64 e.cl)/\w'.cell? ⟨b,off+k*7+2,none⟩=some (.int .i64 e.sq)/\w'.cell? ⟨b,off+k*7+3,none⟩=some (.int .i64 e.op)/\w'.cell? ⟨b,off+k*7+4,none⟩=some (.string e.k)/\w'.cell? ⟨b,off+k*7+5,none⟩=some (.string e.v)/\w'.cell? ⟨b,off+k*7+6,none⟩=some (.string e.o)/\w'.cell? ⟨b',off'+k*7,none⟩=some (.int .i64 e.t)/\w'.cell? ⟨b',off'+k*7+1,none⟩=some (.int .i64 e.cl)/\w'.cell? ⟨b',off'+k*7+2,none⟩=some (.int .i64 e.sq)/\w'.cell? ⟨b',off'+k*7+3,none⟩=some (.int .i64 e.op)/\w'.cell? ⟨b',off'+k*7+4,none⟩=some (.string e.k)/\w'.cell? ⟨b',off'+k*7+5,none⟩=some (.string e.v)/\w'.cell? ⟨b',off'+k*7+6,none⟩=some (.string e.o)) (simp [*,go_sem])
    (first
     |(go_at_call 88;refine (eqEntry_same e _).mono ?_;rintro r w1 ⟨rfl,hb⟩;have q1:=fun (o:Nat)=>hb.cell (p:=⟨b,o,none⟩) (show b<wr.heap.size by omega);have q2:=fun (o:Nat)=>hb.cell (p:=⟨b',o,none⟩) (show b'<wr.heap.size by omega)))
   all_goals go_wp2
   go_roundw
   case rel=>exact ⟨k+1,by omega,by go_num,hB.trans (((Below.refl _ _).drew).trans (hb.mono hz))⟩
   case measure=>simp [intOf];omega
  ·go_wp2
   go_ret;exact ⟨rfl,hB⟩
structure Yl (lo hi:Nat) (w:World) (q:Nat) (l:List Int):Prop where
 ix:Ix w (.slice (some ⟨q,0,none⟩) l.length l.length) l
 room:w.there q 0 l.length
 lo:lo<=q
 hi:q<hi
 in_:q<w.heap.size
theorem Yl.keep {w w':World}{lo hi q:Nat}{l:List Int}(h:Yl lo hi w q l)(hk:∀ k,lo<=k->k<hi->w'.heap[k]? = w.heap[k]?):Yl lo hi w' q l:=by
 have hb:=hk q h.lo h.hi;refine ⟨?_,Zq h.room hb,h.lo,h.hi,?_⟩
 ·obtain ⟨hl,a,cap,e,hc⟩:=h.ix
  injection e with e1 e2 e3;subst e1 e3;refine ⟨hl,_,_,rfl,fun i hi'=>?_⟩;obtain ⟨b,off,e',hr⟩:=hc i hi';refine ⟨b,off,e',fun j hj=>?_⟩;injection e' with e';injection e' with e4 e5;subst e4;rw [World.cell?_of_block (w:=w) hb];exact hr j hj
 ·rcases Nat.lt_or_ge q w'.heap.size with h' | h'
  ·exact h'
  ·rw [Array.getElem?_eq_none h'] at hb
   have:=h.in_;rw [Array.getElem?_eq_getElem this] at hb;cases hb
theorem Yl.wide {w:World}{lo hi lo' hi' q:Nat}{l:List Int}(h:Yl lo hi w q l)(h1:lo'<=lo)(h2:hi<=hi'):Yl lo' hi' w q l:=⟨h.ix,h.room,Nat.le_trans h1 h.lo,Nat.lt_of_lt_of_le h.hi h2,h.in_⟩
theorem Z0m (v:Value)(l:List Int)(w:World)(hv:Ix w v l)(left:Int)(h0:0<=left)(h1:left<=1048576) :
  Calls Tryz.prog 29 #[v,.int .i64 left] w fun r w'=>(∃ s:Int,r=.returned (.int .i64 s)/\s<=1048576/\(0<=s->l.length<=1048576))/\w'=w:=by
 obtain ⟨hl,a,cap,rfl,hc⟩:=hv;unfold maxLen at hl;clear hc;by_cases h:(l.length:Int)<=left
 ·go_enter Tryz.func29,Tryz.ntmps29
  go_wp2;go_ret;exact ⟨⟨_,rfl,by omega,by omega⟩,rfl⟩
 ·go_enter Tryz.func29,Tryz.ntmps29
  go_wp2;go_ret;exact ⟨⟨_,rfl,by omega,by omega⟩,rfl⟩
structure CopI (w wr:World) (l:List Int) (k:Nat):Prop where
 below:Below w.heap.size w wr
 size:w.heap.size<wr.heap.size
 there:wr.there w.heap.size 0 l.length
 rows:∀ j (h:j<l.length),j<k->wr.cell? ⟨w.heap.size,j,none⟩=some (.int .i64 l[j])
theorem infoInt:(Tryz.prog.info? 3).map (fun i=>(i.zero,i.size,i.bytes))=some (some (.int .i64 0),1,8):=by kernel_rfl
theorem Z1z (v:Value)(l:List Int)(w:World)(hv:Ix w v l)(hl':l.length<=1048576) :
  Calls Tryz.prog 34 #[v] w fun x w'=>∃ q,x=.returned (.slice (some ⟨q,0,none⟩) l.length l.length)/\Yl w.heap.size w'.heap.size w' q l/\Below w.heap.size w w':=by
 obtain ⟨hl,a,cap,rfl,hc⟩:=hv;obtain ⟨i0,hi,hz0,hz1,hz2⟩:=info_parts infoInt
 have hmk:∀ u:World,(Instr.makeSlice 23 (.int .i64 (l.length:Int)) (.int .i64 (l.length:Int))).run Tryz.prog u =
   .ok (.slice (some ⟨u.heap.size,0,none⟩) l.length l.length) (u.alloc (.cells (madeCells #[.int .i64 0] l.length) 3)):=fun u=>by
  have h:=run_make (P:=Tryz.prog) u 23 3 i0 (.int .i64 0) Tryz.underlying23 hi hz0 .i64 .i64 (l.length:Int) (l.length:Int) (by omega) (Int.le_refl _) (by rw [hz2];omega) (by omega);simpa [hz1,Value.cells] using h
 go_enter Tryz.func34,Tryz.ntmps34;go_wp2
 go_loopw [4] (fun i wr=>∃ k:Nat,k<=l.length/\i=.int .i64 k/\CopI w wr l k) (fun i _=>l.length-(intOf i).toNat)
 case atStart=>exact ⟨0,Nat.zero_le _,rfl,⟨(Below.refl _ _).alloc (Nat.le_refl _) _,by simp,by have h:=Z2u w (madeCells #[.int .i64 0] l.length) 3;rwa [size_madeCells] at h,fun j _ h=>absurd h (by omega)⟩⟩
 case round=>
  obtain ⟨k,hk,rfl,hC⟩:=hrel;have hz:=hC.size;by_cases hlt:k<l.length
  ·obtain ⟨b,off,rfl,Yn⟩:=hc k hlt
   have hck:wr.cell? ⟨b,off+k,none⟩=some (.int .i64 l[k]):=(hC.below.cell (p:=⟨b,off+k,none⟩) (Yd (Yn k hlt))).trans (Yn k hlt);obtain ⟨y,hy⟩:=Zv hC.there k hlt;have hyf:=Zj hC.there k hlt
   have HC:Hid (CopI w (wr.setCell ⟨w.heap.size,k,none⟩ (.int .i64 l[k])) l (k+1)):=⟨hC.below.setCell (Nat.le_refl _) _,by simpa [World.setCell] using hC.size,Yf hC.there _ _ _,fun j hj hjk=>by
    by_cases e:j=k
    ·subst e
     exact World.cell?_setCell_same wr ⟨w.heap.size,j,none⟩ _ hy
    ·rw [World.cell?_setCell_other wr ⟨w.heap.size,k,none⟩ ⟨w.heap.size,j,none⟩ _ (by intro h;injection h with h1 h2;omega)]
     exact hC.rows j hj (by omega)⟩
   clear Yn hC hc;generalize l[k]=e at *;go_wp2
   go_roundw
   case rel=>exact ⟨k+1,by omega,by go_num,HC.out⟩
   case measure=>simp [intOf];omega
  ·have e:k=l.length:=by omega
   subst e;go_wp2;go_ret;exact ⟨w.heap.size,rfl,⟨⟨hl,_,_,rfl,fun i hi'=>⟨_,_,rfl,fun j hj=>by rw [Nat.zero_add];exact hC.rows j hj hj⟩⟩,hC.there,Nat.le_refl _,hC.size,hC.size⟩,hC.below⟩
theorem Z0j (v u:Value)(l:List Int)(w:World)(hv:Ix w v l)(hu:Ix w u l) :
  Calls Tryz.prog 42 #[v,u] w fun r w'=>r=.returned (.bool true)/\Below w.heap.size w w':=by
 obtain ⟨hl,a,cap,rfl,hc⟩:=hv;obtain ⟨_,a',cap',rfl,hc'⟩:=hu;unfold maxLen at hl;go_enter Tryz.func42,Tryz.ntmps42;go_wp2
 go_loopw [5] (fun i wr=>∃ k:Nat,k<=l.length/\i=.int .i64 k/\∃ n,wr=w.drewN n) (fun i _=>l.length-(intOf i).toNat)
 case atStart=>exact ⟨0,Nat.zero_le _,rfl,0,rfl⟩
 case round=>
  obtain ⟨k,hk,rfl,n,rfl⟩:=hrel;by_cases hlt:k<l.length
  ·obtain ⟨b,off,rfl,Yn⟩:=hc k hlt
   obtain ⟨b',off',rfl,hcell'⟩:=hc' k hlt;have hck:=Yn k hlt;have hck':=hcell' k hlt;clear Yn hcell' hc hc';go_wp2;go_quiet (fail)
   go_wp2
   go_roundw
   case rel=>exact ⟨k+1,by omega,by go_num,_,rfl⟩
   case measure=>simp [intOf];omega
  ·have e:k=l.length:=by omega
   subst e;go_wp2;go_ret;exact ⟨rfl,rfl,rfl,rfl,Nat.le_refl _,fun _ _=>rfl⟩
end Go.Proofs.YtmmpoppgabadmaaGreat
