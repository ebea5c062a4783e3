import Derived.Test.YtmmpoppgabadmaaGreatG08
import Derived.Deep.QuietTactic
import Derived.BigQuiet
set_option linter.unusedVariables false
set_option linter.unusedSimpArgs false
set_option maxRecDepth 100000
set_option maxHeartbeats 16000000
namespace Go.Proofs.YtmmpoppgabadmaaGreat
open Go.RowKit
def endsB (fr tq:Int):Bool:=inB fr 1 7 && inB tq 1 7 && (fr != tq)
def posB (ki tm li lt:Int):Bool:=
 if ki=1∨ki=3∨ki=5 then inB li 0 4096 && inB lt 0 tm && ((lt == 0) == (li == 0))
 else if ki=6 then inB li 0 4096 && (lt == 0) else (li == 0) && (lt == 0)
def marksB (ki cm ok hi:Int):Bool:=
 inB cm 0 (if ki=5 then 4096 else 0) && inB ok 0 (if ki=2∨ki=4∨ki=6 then 1 else 0) && inB hi 0 (if ki=6/\ok=0 then 4096 else 0)
def entsB (ki li lt tm:Int)(l:List Ent):Bool:=
 if ki=5 then decide (l.length<=32) && decide (li+l.length<=4096) && Xf tm lt l else decide (l.length=0)
def msgF (ki fr tq tm li lt cm ok hi:Int)(l:List Ent):Int:=
 if inB ki 1 6=false then 1 else if endsB fr tq=false then 2 else if inB tm 1 1073741824=false then 3
 else if posB ki tm li lt=false then 4 else if marksB ki cm ok hi=false then 5 else if entsB ki li lt tm l=false then 6 else 0
def Src (w:World)(g:Nat)(v:Value)(l:List Int)(k:Nat):Prop:=
 g<w.heap.size/\(∀ i,w.frozen? ⟨g,i,none⟩=false)/\Bs w v l/\w.cell? ⟨g,0,none⟩=some v/\w.cell? ⟨g,1,none⟩=some (.int .i64 k)
theorem src_set {w:World}{v:Value}{l:List Int}(h:Bs w v l){b i:Nat}{x:Value}(hx:w.cell? ⟨b,i,none⟩=some x)(hn:∀ n,x≠.int .u8 n)(y:Value):Bs (w.setCell ⟨b,i,none⟩ y) v l:=by
 obtain ⟨hl,h8,a,cap,rfl,hc⟩:=h;refine ⟨hl,h8,a,cap,rfl,fun j hj=>?_⟩;obtain ⟨b',off,rfl,hj'⟩:=hc j hj;refine ⟨b',off,rfl,fun m hm=>?_⟩;have hcm:=hj' m hm;by_cases e:(⟨b,i,none⟩:Addr)=⟨b',off+m,none⟩
 ·rw [<-e,hx] at hcm
  injection hcm with hcm;exact absurd hcm (hn _)
 ·rw [World.cell?_setCell_other w _ _ _ e];exact hcm
theorem Src.start (w:World)(v:Value)(l:List Int)(h:Bs w v l)(T:Nat):Src (w.alloc (.cells #[v,.int .i64 0] T)) w.heap.size v l 0:=by
 refine ⟨by simp,fun i=>by simp,h.below ((Below.refl _ _).alloc (Nat.le_refl _) _),?_,?_⟩ <;> rw [World.cell?_alloc_new] <;> rfl
theorem World.grownBy.trans' {w w1 w2:World}{row:Option Nat}(h:w.grownBy w1 row)(k:w1.grownBy w2 row):w.grownBy w2 row:=
 ⟨k.os.trans h.os,k.tape.trans h.tape,k.output.trans h.output,Nat.le_trans h.size k.size,fun i hi hne=>(k.block i (Nat.lt_of_lt_of_le hi h.size) hne).trans (h.block i hi hne)⟩
def Yk (l:List Int)(k:Nat):Int:=if k<l.length then l[k]?.getD 0 else (((k*167+k / 3*41+l.length*29)%256:Nat):Int)
theorem Z3d {l:List Int}(h:∀ x∈l,0<=x/\x<=255)(k:Nat):0<=Yk l k/\Yk l k<=255:=by
 unfold Yk;split
 ·exact byte_at h k
 ·omega
theorem Xm (g:Nat)(w:World)(v:Value)(l:List Int)(k:Nat)(hL:l.length<=1048576)(hk:k<=1000000000)(h:Src w g v l k) :
  Calls Tryz.prog 93 #[.pointer (some ⟨g,0,none⟩)] w fun e w'=>e=.returned (.int .i64 (Yk l k))/\Src w' g v l (k+1)/\w.grownBy w' (some g):=by
 obtain ⟨hg,hf,hb,h0,h1⟩:=h
 have HE:∀ m,Hid (Src ((w.drewN m).setCell ⟨g,1,none⟩ (.int .i64 ((k+1:Nat):Int))) g v l (k+1)/\w.grownBy ((w.drewN m).setCell ⟨g,1,none⟩ (.int .i64 ((k+1:Nat):Int))) (some g)):=fun m=>by
  refine ⟨⟨by simpa [World.setCell] using hg,fun i=>?_,src_set (w:=w.drewN m) hb h1 (by intro n;simp) _,?_,World.cell?_setCell_same (w.drewN m) _ _ h1⟩,?_⟩
  ·rw [World.frozen?_setCell];exact hf i
  ·rw [World.cell?_setCell_other _ _ _ _ (by intro h;injection h with _ h2 _;cases h2)];exact h0
  ·exact ⟨rfl,rfl,rfl,by simp [World.setCell],fun j _ hj=>Below.heap_setCell _ _ _ _ (fun e=>hj (by rw [e]))⟩
 have hf1:=hf 1;have hby:=Z3d hb.2.1 k;obtain ⟨hl,h8,a,cap,rfl,hc⟩:=hb;by_cases hlt:k<l.length
 ·have hn:Yk l k=l[k]?.getD 0:=by unfold Yk;rw [if_pos hlt]
  rw [hn] at hby ⊢;obtain ⟨b,off,rfl,X6⟩:=hc k hlt;have hck:=X6 k hlt;have hlt':(k:Int)<(l.length:Int):=by omega
  clear X6 hc h8 hf hn;generalize l[k]?.getD 0=cc at hck hby ⊢;obtain ⟨y0,y1⟩:=hby;go_enter Tryz.func93,Tryz.ntmps93;go_wp2;go_quiet (fail)
  go_wp2;go_quiet (fail)
  go_wp2;go_ret;exact ⟨rfl,(HE _).out.1,(HE _).out.2⟩
 ·have hn:Yk l k=(((k*167+k / 3*41+l.length*29)%256:Nat):Int):=by unfold Yk;rw [if_neg hlt]
  rw [hn] at hby ⊢;have hlt':¬(k:Int)<(l.length:Int):=by omega
  clear hc h8 hf;go_enter Tryz.func93,Tryz.ntmps93;go_wp2;go_quiet (fail)
  go_wp2;go_quiet (fail)
  go_wp2;go_ret;exact ⟨by simp,(HE _).out.1,(HE _).out.2⟩
def Zn (n:Nat):Nat:=if n<=256 then 1 else if n<=65536 then 2 else 4
def pickX (l:List Int)(k n:Nat):Int:=if n<=256 then Yk l k else if n<=65536 then Yk l k*256+Yk l (k+1) else (Yk l k*256+Yk l (k+1))*65536+Yk l (k+1+1)*256+Yk l (k+1+1+1)
def Z4 (l:List Int)(k n:Nat):Nat:=(pickX l k n).toNat%n
theorem Zi (l:List Int)(k n:Nat)(hn:0<n):Z4 l k n<n:=Nat.mod_lt _ hn
theorem pickK_le (n:Nat):Zn n<=4:=by unfold Zn;split <;> (try split) <;> omega
theorem Z2a (x:Int)(n:Nat)(h:0<=x):((x.toNat%n:Nat):Int)=x%(n:Int):=by rw [Int.natCast_emod,Int.toNat_of_nonneg h]
theorem Src.byte {w:World}{g:Nat}{v:Value}{l:List Int}{k:Nat}(h:Src w g v l k)(j:Nat):0<=Yk l j/\Yk l j<=255:=Z3d h.2.2.1.2.1 j
theorem Zq (g:Nat)(w:World)(v:Value)(l:List Int)(k n:Nat)(hL:l.length<=1048576)(hk:k<=900000000)(hn:0<n)(hN:n<=4294967296)(h:Src w g v l k) :
  Calls Tryz.prog 53 #[.pointer (some ⟨g,0,none⟩),.int .i64 n] w fun e w'=>e=.returned (.int .i64 (Z4 l k n:Nat))/\Src w' g v l (k+Zn n)/\w.grownBy w' (some g):=by
 have b0:=h.byte k;have b1:=h.byte (k+1);have b2:=h.byte (k+1+1);have b3:=h.byte (k+1+1+1);have HS:Hid (Src w g v l k):=h;have HG:Hid (w.grownBy w (some g)):=⟨rfl,rfl,rfl,Nat.le_refl _,fun _ _ _=>rfl⟩;have g0:True:=trivial;have g1:True:=trivial;have g2:True:=trivial;clear h;by_cases h1:n<=256
 ·have hv:(Z4 l k n:Int)=Yk l k%(n:Int):=by
   unfold Z4 pickX;rw [if_pos h1];exact Z2a _ _ b0.1
  have hkk:Zn n=1:=by unfold Zn;rw [if_pos h1]
  rw [hv,hkk];have hgt:¬(256:Int)<n:=by omega
  go_enter Tryz.func53,Tryz.ntmps53
  go_wp2_with (go_at_call 93;refine (Xm g _ v l _ hL (by omega) HS.out).mono ?_;rintro e w1 ⟨rfl,hs1,hg1⟩;replace HS:Hid (Src w1 g v l (k+1)):=hs1;replace HG:Hid (w.grownBy w1 (some g)):=hg1;clear hs1 hg1;obtain ⟨c0,c1⟩:=b0)
  go_ret;exact ⟨by simp,HS.out,HG.out⟩
 ·by_cases h2:n<=65536
  ·have hv:(Z4 l k n:Int)=(Yk l k*256+Yk l (k+1))%(n:Int):=by
    unfold Z4 pickX;rw [if_neg h1,if_pos h2];exact Z2a _ _ (by omega)
   have hkk:Zn n=1+1:=by unfold Zn;rw [if_neg h1,if_pos h2]
   rw [hv,hkk];have hgt:(256:Int)<n:=by omega
   have hgt2:¬(65536:Int)<n:=by omega
   go_enter Tryz.func53,Tryz.ntmps53
   go_wp2_with (first
    |(go_at_call 93;clear g0;refine (Xm g _ v l k hL (by omega) HS.out).mono ?_;rintro e w1 ⟨rfl,hs1,hg1⟩;replace HS:Hid (Src w1 g v l (k+1)):=hs1;replace HG:Hid (w.grownBy w1 (some g)):=hg1;clear hs1 hg1;obtain ⟨c0,c1⟩:=b0)
    |(go_at_call 93;refine (Xm g _ v l (k+1) hL (by omega) HS.out).mono ?_;rintro e w2 ⟨rfl,hs1,hg1⟩;have HS2:Hid (Src w2 g v l (k+1+1)):=hs1;have HG2:Hid (w.grownBy w2 (some g)):=World.grownBy.trans' HG.out hg1;clear hs1 hg1;obtain ⟨c2,c3⟩:=b1))
   go_ret;exact ⟨by simp,HS2.out,HG2.out⟩
  ·have hv:(Z4 l k n:Int)=((Yk l k*256+Yk l (k+1))*65536+Yk l (k+1+1)*256+Yk l (k+1+1+1))%(n:Int):=by
    unfold Z4 pickX;rw [if_neg h1,if_neg h2];exact Z2a _ _ (by omega)
   have hkk:Zn n=1+1+1+1:=by unfold Zn;rw [if_neg h1,if_neg h2]
   rw [hv,hkk];have hgt:(256:Int)<n:=by omega
   have hgt2:(65536:Int)<n:=by omega
   go_enter Tryz.func53,Tryz.ntmps53
   go_wp2_with (first
    |(go_at_call 93;clear g0;refine (Xm g _ v l k hL (by omega) HS.out).mono ?_;rintro e w1 ⟨rfl,hs1,hg1⟩;replace HS:Hid (Src w1 g v l (k+1)):=hs1;replace HG:Hid (w.grownBy w1 (some g)):=hg1;clear hs1 hg1;obtain ⟨c0,c1⟩:=b0)
    |(go_at_call 93;clear g1;refine (Xm g _ v l (k+1) hL (by omega) HS.out).mono ?_;rintro e w2 ⟨rfl,hs1,hg1⟩;have HS2:Hid (Src w2 g v l (k+1+1)):=hs1;have HG2:Hid (w.grownBy w2 (some g)):=World.grownBy.trans' HG.out hg1;clear hs1 hg1;obtain ⟨c2,c3⟩:=b1)
    |(go_at_call 93;clear g2;refine (Xm g _ v l (k+1+1) hL (by omega) HS2.out).mono ?_;rintro e w3 ⟨rfl,hs1,hg1⟩;have HS3:Hid (Src w3 g v l (k+1+1+1)):=hs1;have HG3:Hid (w.grownBy w3 (some g)):=World.grownBy.trans' HG2.out hg1;clear hs1 hg1;obtain ⟨c4,c5⟩:=b2)
    |(go_at_call 93;refine (Xm g _ v l (k+1+1+1) hL (by omega) HS3.out).mono ?_;rintro e w4 ⟨rfl,hs1,hg1⟩;have HS4:Hid (Src w4 g v l (k+1+1+1+1)):=hs1;have HG4:Hid (w.grownBy w4 (some g)):=World.grownBy.trans' HG3.out hg1;clear hs1 hg1;obtain ⟨c6,c7⟩:=b3))
   go_ret;exact ⟨by simp,HS4.out,HG4.out⟩
theorem conv_bs {w:World}{a:Option Addr}{n c:Nat}{l:List Int}(h:Bs w (.slice a n c) l)(hn:0<l.length):(convert 55 9 (.slice a n c)).run Tryz.prog w=.ok (.string (strOfNums l)) w:=by
 obtain ⟨hl,h8,a',cap,e,X6⟩:=h;injection e with e1 e2 e3;subst e1 e2 e3;obtain ⟨b,off,rfl,hj⟩:=X6 0 hn;refine run_convert_bytes_arg w 55 5 Tryz.underlying55 Tryz.underlying5 b off l.length c l rfl (fun i hi=>?_) 9 Tryz.underlying9;rw [hj i hi];simp [List.getD,hi]
theorem bs_one (w:World)(x:Int)(h:0<=x/\x<=255):Bs (w.alloc (.cells #[.int .u8 x] 5)) (.slice (some ⟨w.heap.size,0,none⟩) 1 1) [x]:=
 (Own.lit w [x] #[.int .u8 x] rfl (by simpa using h) (by simp [maxLen])).bs (by simp [maxLen])
theorem l1long_any (n:Nat)(c:Int)(hn0:0<n)(hn:n<=1000)(hc:0<=c/\c<=255)(w:World) :
  Calls Tryz.prog 143 #[.int .i64 n,.int .u8 c] w fun e w'=>e=.returned (.string (strOfNums (List.replicate n c)))/\Below w.heap.size w w':=by
 have hO:=Own.lit w [] #[] rfl (by simp) (by simp [maxLen]);go_enter Tryz.func143,Tryz.ntmps143;go_wp2
 go_loopw [5,6] (fun o i wr=>∃ k:Nat,k<=n/\i=.int .i64 k/\Own wr w.heap.size o (List.replicate k c)/\Below w.heap.size w wr) (fun _ i _=>n-(intOf i).toNat)
 case atStart=>exact ⟨0,Nat.zero_le _,rfl,by simpa using hO,(Below.refl _ _).alloc (Nat.le_refl _) _⟩
 case round=>
  obtain ⟨k,hk,rfl,ho,hb⟩:=hrel;have hz:=hb.size;clear hO;by_cases hlt:k<n
  ·go_wp2_with (at_builtin;refine wpl_append rfl (.tmp 13) (.tmp 15) rfl (ho.below ((Below.refl _ _).alloc (Nat.le_refl _) _)) rfl (bs_one _ c hc) rfl (by simp) (by simp;omega) (by simp;omega) ?_;intro v2 w2 ho2 hg2)
   go_roundw
   case rel=>exact ⟨k+1,by omega,by go_num,by rw [List.replicate_succ'];exact ho2,hb.trans (((Below.refl _ _).alloc (by omega) _).trans (hg2.below (ho.below ((Below.refl _ _).alloc (Nat.le_refl _) _)) (by simp;omega)))⟩
   case measure=>simp [intOf];omega
  ·obtain rfl:k=n:=by omega
   obtain ⟨a',cap',e'⟩:=ho.shape;rw [List.length_replicate] at e';subst e';have hcv:=conv_bs (ho.bs (by simp [maxLen];omega)) (by simpa using hn0);clear ho;go_wp2;go_ret;exact ⟨rfl,hb⟩
def Ze (l:List Int)(k:Nat)(e:Bool):ByteArray×Nat:=
 if Z4 l k 16=0/\e=true then (⟨#[]⟩,k+1)
 else if Z4 l k 16=1 then (strOfNums (List.replicate (64-Z4 l (k+1) 2) (97+(Z4 l (k+1+1) 3:Nat))),k+1+1+1)
 else if Z4 l k 16=2 then (strOfNums [Yk l (k+1),Yk l (k+1+1)],k+1+1+1)
 else if Z4 l k 16<11 then (strOfNums [97+(Z4 l (k+1) 4:Nat)],k+1+1)
 else (strOfNums [97+(Z4 l (k+1) 3:Nat),48+(Z4 l (k+1+1) 10:Nat)],k+1+1+1)
theorem Ye (l:List Int)(k:Nat)(e:Bool):(Ze l k e).1.size<=64/\(e=false->0<(Ze l k e).1.size)/\k<(Ze l k e).2/\(Ze l k e).2<=k+3:=by
 have h2:=Zi l (k+1) 2 (by omega);unfold Ze;split
 ·next h=>exact ⟨by simp [ByteArray.size],fun he=>by simp [he] at h,by simp,by simp⟩
 ·split
  ·simp only [strOfNums_size,List.length_replicate];omega
  ·split
   ·simp [strOfNums_size];omega
   ·split <;> simp [strOfNums_size] <;> omega
theorem Yz {w w':World}{row:Option Nat}(h:w.grownBy w' row)(o:Obj):w.grownBy (w'.alloc o) row:=Z8 h (World.grownBy_alloc _ _ _)
theorem Z37 {w w' w'':World}{row:Option Nat}(h:w.grownBy w' row)(hb:Below w'.heap.size w' w''):w.grownBy w'' row:=Z8 h ⟨hb.os,hb.tape,hb.output,hb.size,fun k hk _=>hb.block k hk⟩
theorem Src.below {w w':World}{g:Nat}{v:Value}{l:List Int}{k:Nat}(h:Src w g v l k)(hb:Below w.heap.size w w'):Src w' g v l k:=
 ⟨Nat.lt_of_lt_of_le h.1 hb.size,fun i=>(hb.frozen h.1).trans (h.2.1 i),h.2.2.1.below hb,(hb.cell h.1).trans h.2.2.2.1,(hb.cell h.1).trans h.2.2.2.2⟩
theorem Z1v:Zn 16=1:=by decide
theorem pickK2:Zn 2=1:=by decide
theorem pickK3:Zn 3=1:=by decide
theorem pickK4:Zn 4=1:=by decide
theorem pickK10:Zn 10=1:=by decide
theorem X8 (g:Nat)(w:World)(v:Value)(l:List Int)(k:Nat)(e:Bool)(hL:l.length<=1048576)(hk:k<=800000000)(h:Src w g v l k) :
  Calls Tryz.prog 142 #[.pointer (some ⟨g,0,none⟩),.bool e] w fun r w'=>r=.returned (.string (Ze l k e).1)/\Src w' g v l (Ze l k e).2/\w.grownBy w' (some g):=by
 have p0:=Zi l k 16 (by omega);have p2:=Zi l (k+1) 2 (by omega);have p3:=Zi l (k+1+1) 3 (by omega);have p3':=Zi l (k+1) 3 (by omega);have p4:=Zi l (k+1) 4 (by omega);have p10:=Zi l (k+1+1) 10 (by omega);have b1:=h.byte (k+1);have b2:=h.byte (k+1+1);have HS:Hid (Src w g v l k):=h;have g0:True:=trivial;have g1:True:=trivial;have g2:True:=trivial;clear h;by_cases c0:Z4 l k 16=0/\e=true
 ·obtain ⟨c0,rfl⟩:=c0
  have hw:Ze l k true=(⟨#[]⟩,k+1):=by unfold Ze;rw [if_pos ⟨c0,rfl⟩]
  rw [hw];have HP:Hid (Z4 l k 16=0):=c0;clear c0 p0 p2 p3 p3' p4 p10 hw;go_enter Tryz.func142,Tryz.ntmps142
  go_wp2_with (go_at_call 53;clear g0;refine (Zq g _ v l k 16 hL (by omega) (by omega) (by omega) HS.out).mono ?_;rintro r w1 ⟨rfl,hs1,hg1⟩;rw [Z1v] at hs1;rw [HP.out])
  go_ret;exact ⟨rfl,hs1,hg1⟩
 have HE:Hid (Z4 l k 16=0->e=false):=fun h=>by cases e with | false=>rfl | true=>exact absurd ⟨h,rfl⟩ c0
 by_cases c1:Z4 l k 16=1
 ·have hw:Ze l k e=(strOfNums (List.replicate (64-Z4 l (k+1) 2) (97+(Z4 l (k+1+1) 3:Nat))),k+1+1+1):=by unfold Ze;rw [if_neg c0,if_pos c1]
  rw [hw];have HP:Hid (Z4 l k 16=1):=c1;clear c0 c1 HE p0 hw p3' p4 p10;have hn:((64:Int)-(Z4 l (k+1) 2:Nat))=((64-Z4 l (k+1) 2:Nat):Int):=by omega
  have HL:Hid (∀ w:World,Calls Tryz.prog 143 #[.int .i64 ((64:Int)-(Z4 l (k+1) 2:Nat)),.int .u8 (97+(Z4 l (k+1+1) 3:Nat))] w fun e w'=>e=.returned (.string (strOfNums (List.replicate (64-Z4 l (k+1) 2) (97+(Z4 l (k+1+1) 3:Nat)))))/\Below w.heap.size w w'):=fun w=>by
   rw [hn];exact l1long_any _ _ (by omega) (by omega) (by omega) w
  clear hn;generalize strOfNums (List.replicate (64-Z4 l (k+1) 2) (97+(Z4 l (k+1+1) 3:Nat)))=S at HL ⊢;go_enter Tryz.func142,Tryz.ntmps142
  go_wp2_with (first
   |(go_at_call 53;clear g0;refine (Zq g _ v l k 16 hL (by omega) (by omega) (by omega) HS.out).mono ?_;rintro r w1 ⟨rfl,hs1,hg1⟩;rw [Z1v] at hs1;rw [HP.out])
   |(go_at_call 53;clear g1;refine (Zq g _ v l (k+1) 2 hL (by omega) (by omega) (by omega) hs1).mono ?_;rintro r w2 ⟨rfl,hs2,hg2⟩;rw [pickK2] at hs2)
   |(go_at_call 53;clear g2;refine (Zq g _ v l (k+1+1) 3 hL (by omega) (by omega) (by omega) hs2).mono ?_;rintro r w3 ⟨rfl,hs3,hg3⟩;rw [pickK3] at hs3)
   |(go_at_call 143;refine (HL.out _).mono ?_;rintro r w4 ⟨rfl,hb4⟩))
  go_ret;exact ⟨rfl,hs3.below hb4,Z37 (Z8 hg1 (Z8 hg2 hg3)) hb4⟩
 by_cases c2:Z4 l k 16=2
 ·have hw:Ze l k e=(strOfNums [Yk l (k+1),Yk l (k+1+1)],k+1+1+1):=by unfold Ze;rw [if_neg c0,if_neg c1,if_pos c2]
  rw [hw];have HP:Hid (Z4 l k 16=2):=c2;clear c0 c1 c2 HE p0 hw p3' p4 p10 p2 p3;obtain ⟨q1,q2⟩:=b1;obtain ⟨q3,q4⟩:=b2
  have HC:Hid (∀ w:World,(convert 55 9 (.slice (some ⟨w.heap.size,0,none⟩) 2 2)).run Tryz.prog (w.alloc (.cells #[.int .u8 (Yk l (k+1)),.int .u8 (Yk l (k+1+1))] 5))=.ok (.string (strOfNums [Yk l (k+1),Yk l (k+1+1)])) (w.alloc (.cells #[.int .u8 (Yk l (k+1)),.int .u8 (Yk l (k+1+1))] 5))):=fun w=>
   conv_bs ((Own.lit w [Yk l (k+1),Yk l (k+1+1)] #[.int .u8 (Yk l (k+1)),.int .u8 (Yk l (k+1+1))] rfl (by simp;omega) (by simp [maxLen])).bs (by simp [maxLen])) (by simp)
  generalize strOfNums [Yk l (k+1),Yk l (k+1+1)]=S at HC ⊢;go_enter Tryz.func142,Tryz.ntmps142
  go_wp2_with (first
   |(go_at_call 53;clear g0;refine (Zq g _ v l k 16 hL (by omega) (by omega) (by omega) HS.out).mono ?_;rintro r w1 ⟨rfl,hs1,hg1⟩;rw [Z1v] at hs1;rw [HP.out])
   |(go_at_call 93;clear g1;refine (Xm g _ v l (k+1) hL (by omega) hs1).mono ?_;rintro r w2 ⟨rfl,hs2,hg2⟩)
   |(go_at_call 93;clear g2;refine (Xm g _ v l (k+1+1) hL (by omega) hs2).mono ?_;rintro r w3 ⟨rfl,hs3,hg3⟩;have hcv:=HC.out w3))
  go_ret;exact ⟨rfl,hs3.below ((Below.refl _ _).alloc (Nat.le_refl _) _),Yz (Z8 hg1 (Z8 hg2 hg3)) _⟩
 by_cases c3:Z4 l k 16<11
 ·have hw:Ze l k e=(strOfNums [97+(Z4 l (k+1) 4:Nat)],k+1+1):=by unfold Ze;rw [if_neg c0,if_neg c1,if_neg c2,if_pos c3]
  rw [hw]
  have HC:Hid (∀ w:World,(convert 55 9 (.slice (some ⟨w.heap.size,0,none⟩) 1 1)).run Tryz.prog (w.alloc (.cells #[.int .u8 (97+(Z4 l (k+1) 4:Nat))] 5))=.ok (.string (strOfNums [97+(Z4 l (k+1) 4:Nat)])) (w.alloc (.cells #[.int .u8 (97+(Z4 l (k+1) 4:Nat))] 5))):=fun w=>
   conv_bs ((Own.lit w [97+(Z4 l (k+1) 4:Nat)] #[.int .u8 (97+(Z4 l (k+1) 4:Nat))] rfl (by simp;omega) (by simp [maxLen])).bs (by simp [maxLen])) (by simp)
  clear hw p3' p10 p2 p3 b1 b2;generalize strOfNums [97+(Z4 l (k+1) 4:Nat)]=S at HC ⊢;have HQ:Hid (∃ P:Int,P=(Z4 l k 16:Nat)):=⟨_,rfl⟩;go_enter Tryz.func142,Tryz.ntmps142
  go_wp2_with (first
   |(go_at_call 53;clear g0;refine (Zq g _ v l k 16 hL (by omega) (by omega) (by omega) HS.out).mono ?_;rintro r w1 ⟨rfl,hs1,hg1⟩;rw [Z1v] at hs1)
   |(go_at_call 53;clear g1;refine (Zq g _ v l (k+1) 4 hL (by omega) (by omega) (by omega) hs1).mono ?_;rintro r w2 ⟨rfl,hs2,hg2⟩;rw [pickK4] at hs2;have hcv:=HC.out w2))
  all_goals first
   |(go_ret;exact ⟨rfl,hs2.below ((Below.refl _ _).alloc (Nat.le_refl _) _),Yz (Z8 hg1 hg2) _⟩)
   |(exfalso;first | omega | (have:=HE.out (by omega);simp_all))
 ·have hw:Ze l k e=(strOfNums [97+(Z4 l (k+1) 3:Nat),48+(Z4 l (k+1+1) 10:Nat)],k+1+1+1):=by unfold Ze;rw [if_neg c0,if_neg c1,if_neg c2,if_neg c3]
  rw [hw]
  have HC:Hid (∀ w:World,(convert 55 9 (.slice (some ⟨w.heap.size,0,none⟩) 2 2)).run Tryz.prog (w.alloc (.cells #[.int .u8 (97+(Z4 l (k+1) 3:Nat)),.int .u8 (48+(Z4 l (k+1+1) 10:Nat))] 5))=.ok (.string (strOfNums [97+(Z4 l (k+1) 3:Nat),48+(Z4 l (k+1+1) 10:Nat)])) (w.alloc (.cells #[.int .u8 (97+(Z4 l (k+1) 3:Nat)),.int .u8 (48+(Z4 l (k+1+1) 10:Nat))] 5))):=fun w=>
   conv_bs ((Own.lit w [97+(Z4 l (k+1) 3:Nat),48+(Z4 l (k+1+1) 10:Nat)] #[.int .u8 (97+(Z4 l (k+1) 3:Nat)),.int .u8 (48+(Z4 l (k+1+1) 10:Nat))] rfl (by simp;omega) (by simp [maxLen])).bs (by simp [maxLen])) (by simp)
  clear hw p4 p2 p3 b1 b2 HE;generalize strOfNums [97+(Z4 l (k+1) 3:Nat),48+(Z4 l (k+1+1) 10:Nat)]=S at HC ⊢;go_enter Tryz.func142,Tryz.ntmps142
  go_wp2_with (first
   |(go_at_call 53;clear g0;refine (Zq g _ v l k 16 hL (by omega) (by omega) (by omega) HS.out).mono ?_;rintro r w1 ⟨rfl,hs1,hg1⟩;rw [Z1v] at hs1)
   |(go_at_call 53;clear g1;refine (Zq g _ v l (k+1) 3 hL (by omega) (by omega) (by omega) hs1).mono ?_;rintro r w2 ⟨rfl,hs2,hg2⟩;rw [pickK3] at hs2)
   |(go_at_call 53;clear g2;refine (Zq g _ v l (k+1+1) 10 hL (by omega) (by omega) (by omega) hs2).mono ?_;rintro r w3 ⟨rfl,hs3,hg3⟩;rw [pickK10] at hs3;have hcv:=HC.out w3))
  all_goals first
   |(go_ret;exact ⟨rfl,hs3.below ((Below.refl _ _).alloc (Nat.le_refl _) _),Yz (Z8 hg1 (Z8 hg2 hg3)) _⟩)
   |(exfalso;omega)
theorem Src.alloc {w:World}{g:Nat}{v:Value}{l:List Int}{k:Nat}(h:Src w g v l k)(o:Obj):Src (w.alloc o) g v l k:=h.below ((Below.refl _ _).alloc (Nat.le_refl _) _)
theorem Src.lt {w:World}{g:Nat}{v:Value}{l:List Int}{k:Nat}(h:Src w g v l k):g<w.heap.size:=h.1
def NoU8 (C:Array Value):Prop:=∀(j:Nat) (n:Int),C[j]?≠some (Value.int .u8 n)
def isU8:Value->Bool
 | .int .u8 _=>true
 | _=>false
theorem Yl {C:Array Value}(h:C.toList.all (fun x=>!isU8 x)=true):NoU8 C:=fun j n e=>by
 have hm:(.int .u8 n:Value)∈C.toList:=by
  rw [<-Array.getElem?_toList] at e;exact List.mem_of_getElem? e
 have:=List.all_eq_true.1 h _ hm;simp [isU8] at this
theorem Src.setB {w:World}{g:Nat}{v:Value}{l:List Int}{k b:Nat}{C:Array Value}{t:TypeId}(h:Src w g v l k)(hb:Blk w b C t)(hne:b≠g)(j:Nat)(hj:j<C.size)(hn:NoU8 C)(y:Value):Src (w.setCell ⟨b,j,none⟩ y) g v l k:=by
 obtain ⟨h1,h2,h3,h4,h5⟩:=h;have hc:w.cell? ⟨b,j,none⟩=some C[j]:=by rw [hb.cell j];exact Array.getElem?_eq_getElem hj
 refine ⟨by simpa [World.setCell] using h1,fun i=>by rw [World.frozen?_setCell];exact h2 i,src_set h3 hc (fun n e=>hn j n (by rw [Array.getElem?_eq_getElem hj,e])) y,?_,?_⟩
 ·rw [World.cell?_setCell_other _ _ _ _ (by intro e;injection e with e _ _;exact hne e)];exact h4
 ·rw [World.cell?_setCell_other _ _ _ _ (by intro e;injection e with e _ _;exact hne e)];exact h5
theorem Src.row {w:World}{g:Nat}{v:Value}{l:List Int}{k b:Nat}{C:Array Value}{t:TypeId}(h:Src w g v l k)(hb:Blk w b C t)(hne:b≠g)(hn:NoU8 C)(C':Array Value):Src (w.setRow b C') g v l k:=by
 obtain ⟨h1,h2,⟨hl,h8,a,cap,rfl,hc⟩,h4,h5⟩:=h;have hg:(w.setRow b C').heap[g]? = w.heap[g]?:=setRow_other w b g C' (fun e=>hne e.symm)
 have hlt:g<(w.setRow b C').heap.size:=by
  rcases Nat.lt_or_ge g (w.setRow b C').heap.size with h' | h'
  ·exact h'
  ·rw [Array.getElem?_eq_none h',Array.getElem?_eq_getElem h1] at hg
   cases hg
 refine ⟨hlt,fun i=>?_,⟨hl,h8,a,cap,rfl,fun i hi=>?_⟩,(World.cell?_of_block (w:=w) hg).trans h4,(World.cell?_of_block (w:=w) hg).trans h5⟩
 ·have:=h2 i
  simp only [World.frozen?,hg] at this ⊢;exact this
 ·obtain ⟨b',off,rfl,hj⟩:=hc i hi
  refine ⟨b',off,rfl,fun m hm=>?_⟩;by_cases e:b'=b
  ·subst e
   have:=hj m hm;rw [hb.cell] at this;exact absurd this (hn _ _)
  ·exact (World.cell?_of_block (w:=w) (setRow_other w b b' C' e)).trans (hj m hm)
theorem Blk.grown {w w':World}{b g:Nat}{C:Array Value}{t:TypeId}(h:Blk w b C t)(hg:w.grownBy w' (some g))(hne:b≠g):Blk w' b C t:=
 h.keep (hg.block b h.lt (by intro e;injection e with e;exact hne e))
theorem Yj {w w1:World}{row:Option Nat}(h:w.grownBy w1 row){b:Nat}(hb:w.heap.size<=b)(j:Nat)(x:Value):w.grownBy (w1.setCell ⟨b,j,none⟩ x) row:=
 ⟨h.os,h.tape,h.output,by simpa [World.setCell] using h.size,fun k hk hne=>(Below.heap_setCell _ _ _ _ (by simp only;omega)).trans (h.block k hk hne)⟩
theorem X9 {w w1:World}{row:Option Nat}(h:w.grownBy w1 row){b:Nat}{C:Array Value}{t:TypeId}(hB:Blk w1 b C t)(hb:w.heap.size<=b)(C':Array Value):w.grownBy (w1.setRow b C') row:=by
 exact ⟨h.os,h.tape,h.output,by simpa [World.setRow] using h.size,fun k hk hne=>(setRow_other w1 b k C' (by omega)).trans (h.block k hk hne)⟩
structure Dr (w0 w:World) (g:Nat) (v:Value) (l:List Int) (k:Nat) (F:List (Nat×Array Value×TypeId)):Prop where
 grown:w0.grownBy w (some g)
 src:Src w g v l k
 gl:g<w0.heap.size
 bs0:Bs w0 v l
 blks:∀(i:Nat) x,F[i]? = some x->w0.heap.size<=x.1/\Blk w x.1 x.2.1 x.2.2/\NoU8 x.2.1
 dis:∀(i j:Nat) x y,F[i]? = some x->F[j]? = some y->x.1=y.1->i=j
section
variable {w0 w w':World} {g k k':Nat} {v:Value} {l:List Int} {F:List (Nat×Array Value×TypeId)}
theorem Dr.start (h:Src w g v l k):Dr w w g v l k []:=
 ⟨⟨rfl,rfl,rfl,Nat.le_refl _,fun _ _ _=>rfl⟩,h,h.lt,h.2.2.1,fun i x e=>(by simp at e),fun i j x y e=>(by simp at e)⟩
theorem Dr.blk (h:Dr w0 w g v l k F)(i:Nat){b:Nat}{C:Array Value}{t:TypeId}(hi:F[i]? = some (b,C,t)):Blk w b C t:=(h.blks i _ hi).2.1
theorem Dr.ge (h:Dr w0 w g v l k F)(i:Nat){b:Nat}{C:Array Value}{t:TypeId}(hi:F[i]? = some (b,C,t)):w0.heap.size<=b:=(h.blks i _ hi).1
theorem Dr.lt (h:Dr w0 w g v l k F)(i:Nat){b:Nat}{C:Array Value}{t:TypeId}(hi:F[i]? = some (b,C,t)):b<w.heap.size:=(h.blk i hi).lt
theorem Dr.ne (h:Dr w0 w g v l k F)(i:Nat){b:Nat}{C:Array Value}{t:TypeId}(hi:F[i]? = some (b,C,t)):b≠g:=by
 have h1:=h.ge i hi;have h2:=h.gl;omega
theorem Dr.size (h:Dr w0 w g v l k F):w0.heap.size<=w.heap.size:=h.grown.size
theorem Dr.call (h:Dr w0 w g v l k F)(hs:Src w' g v l k')(hg:w.grownBy w' (some g)):Dr w0 w' g v l k' F:=
 ⟨Z8 h.grown hg,hs,h.gl,h.bs0,fun i x e=>⟨(h.blks i x e).1,((h.blks i x e).2.1).grown hg (by have h1:=(h.blks i x e).1;have h2:=h.gl;omega),(h.blks i x e).2.2⟩,h.dis⟩
theorem Dr.below (h:Dr w0 w g v l k F)(hb:Below w.heap.size w w'):Dr w0 w' g v l k F:=
 h.call (h.src.below hb) ⟨hb.os,hb.tape,hb.output,hb.size,fun k hk _=>hb.block k hk⟩
theorem Dr.other (h:Dr w0 w g v l k F)(o:Obj):Dr w0 (w.alloc o) g v l k F:=h.below ((Below.refl _ _).alloc (Nat.le_refl _) _)
theorem Dr.new (h:Dr w0 w g v l k F)(C:Array Value)(t:TypeId)(hn:NoU8 C):Dr w0 (w.alloc (.cells C t)) g v l k (F ++ [(w.heap.size,C,t)]):=by
 have h':=h.other (.cells C t);refine ⟨h'.grown,h'.src,h'.gl,h.bs0,fun i x e=>?_,fun i j x y ei ej e=>?_⟩
 ·rcases Nat.lt_or_ge i F.length with hi | hi
  ·rw [List.getElem?_append_left hi] at e;exact h'.blks i x e
  ·rw [List.getElem?_append_right hi] at e
   rcases Nat.eq_zero_or_pos (i-F.length) with hz | hz
   ·rw [hz] at e;simp at e;subst e;exact ⟨h.size,Blk.new _ _ _,hn⟩
   ·rw [List.getElem?_eq_none (by simp;omega)] at e;cases e
 ·have key:∀(i:Nat) x,(F ++ [(w.heap.size,C,t)])[i]? = some x->(i<F.length/\F[i]? = some x/\x.1<w.heap.size)∨(i=F.length/\x.1=w.heap.size):=fun i x e=>by
   rcases Nat.lt_or_ge i F.length with hi | hi
   ·rw [List.getElem?_append_left hi] at e;exact .inl ⟨hi,e,((h.blks i x e).2.1).lt⟩
   ·rw [List.getElem?_append_right hi] at e
    rcases Nat.eq_zero_or_pos (i-F.length) with hz | hz
    ·rw [hz] at e;simp at e;subst e;exact .inr ⟨by omega,rfl⟩
    ·rw [List.getElem?_eq_none (by simp;omega)] at e;cases e
  rcases key i x ei with ⟨a1,a2,a3⟩ | ⟨a1,a2⟩ <;> rcases key j y ej with ⟨b1,b2,b3⟩ | ⟨b1,b2⟩
  ·exact h.dis i j x y a2 b2 e
  ·omega
  ·omega
  ·omega
theorem Dr.set (h:Dr w0 w g v l k F)(i:Nat){b:Nat}{C:Array Value}{t:TypeId}(hi:F[i]? = some (b,C,t))(j:Nat)(hj:j<C.size)(y:Value)(hy:isU8 y=false) :
  Dr w0 (w.setCell ⟨b,j,none⟩ y) g v l k (F.set i (b,C.setIfInBounds j y,t)):=by
 have hil:i<F.length:=(List.getElem?_eq_some_iff.1 hi).1;refine ⟨Yj h.grown (h.ge i hi) _ _,h.src.setB (h.blk i hi) (h.ne i hi) j hj (h.blks i _ hi).2.2 y,h.gl,h.bs0,fun n x e=>?_,fun n m x y' en em e=>?_⟩
 ·rw [List.getElem?_set] at e
  by_cases hn:i=n
  ·subst hn
   simp [hil] at e;subst e;refine ⟨h.ge i hi,(h.blk i hi).set j y,fun q m e=>?_⟩;rw [Array.getElem?_setIfInBounds] at e;split at e
   ·(try split at e)
    ·injection e with e;subst e;simp [isU8] at hy
   ·exact (h.blks i _ hi).2.2 q m e
  ·rw [if_neg hn] at e
   exact ⟨(h.blks n x e).1,((h.blks n x e).2.1).set_other _ (fun e'=>hn (h.dis i n _ _ hi e e'.symm)),(h.blks n x e).2.2⟩
 ·have key:∀(n:Nat) (x:Nat×Array Value×TypeId),(F.set i (b,C.setIfInBounds j y,t))[n]? = some x->∃ z:Nat×Array Value×TypeId,F[n]? = some z/\z.1=x.1:=fun n x e=>by
   rw [List.getElem?_set] at e;by_cases hn:i=n
   ·subst hn
    simp [hil] at e;subst e;exact ⟨_,hi,rfl⟩
   ·rw [if_neg hn] at e
    exact ⟨_,e,rfl⟩
  obtain ⟨z1,a1,a2⟩:=key n x en;obtain ⟨z2,b1,b2⟩:=key m y' em;exact h.dis n m z1 z2 a1 b1 (by rw [a2,b2,e])
theorem Dr.row (h:Dr w0 w g v l k F)(i:Nat){b:Nat}{C:Array Value}{t:TypeId}(hi:F[i]? = some (b,C,t))(C':Array Value)(hn':NoU8 C') :
  Dr w0 (w.setRow b C') g v l k (F.set i (b,C',t)):=by
 have hil:i<F.length:=(List.getElem?_eq_some_iff.1 hi).1;refine ⟨X9 h.grown (h.blk i hi) (h.ge i hi) _,h.src.row (h.blk i hi) (h.ne i hi) (h.blks i _ hi).2.2 C',h.gl,h.bs0,fun n x e=>?_,fun n m x y' en em e=>?_⟩
 ·rw [List.getElem?_set] at e
  by_cases hn:i=n
  ·subst hn
   simp [hil] at e;subst e;exact ⟨h.ge i hi,(h.blk i hi).row C',hn'⟩
  ·rw [if_neg hn] at e
   exact ⟨(h.blks n x e).1,((h.blks n x e).2.1).row_other _ (fun e'=>hn (h.dis i n _ _ hi e e'.symm)),(h.blks n x e).2.2⟩
 ·have key:∀(n:Nat) (x:Nat×Array Value×TypeId),(F.set i (b,C',t))[n]? = some x->∃ z:Nat×Array Value×TypeId,F[n]? = some z/\z.1=x.1:=fun n x e=>by
   rw [List.getElem?_set] at e;by_cases hn:i=n
   ·subst hn
    simp [hil] at e;subst e;exact ⟨_,hi,rfl⟩
   ·rw [if_neg hn] at e
    exact ⟨_,e,rfl⟩
  obtain ⟨z1,a1,a2⟩:=key n x en;obtain ⟨z2,b1,b2⟩:=key m y' em;exact h.dis n m z1 z2 a1 b1 (by rw [a2,b2,e])
theorem Z3c {B:Nat}(h:Src w g v l k)(h0:Bs w0 v l)(hw:w0.heap.size<=B)(hg:g<B)(hb:Below B w w'):Src w' g v l k:=by
 obtain ⟨h1,h2,⟨hl,h8,a,cap,rfl,hc⟩,h4,h5⟩:=h;obtain ⟨_,_,a',cap',e,hc0⟩:=h0;injection e with e1 e2 e3;subst e1 e3;refine ⟨Nat.lt_of_lt_of_le h1 hb.size,fun i=>by rw [hb.frozen (p:=⟨g,i,none⟩) hg];exact h2 i,⟨hl,h8,a,cap,rfl,fun i hi=>?_⟩,(hb.cell (p:=⟨g,0,none⟩) hg).trans h4,(hb.cell (p:=⟨g,1,none⟩) hg).trans h5⟩;obtain ⟨b,off,rfl,hj⟩:=hc i hi;obtain ⟨b',off',e',hj'⟩:=hc0 i hi;injection e' with e';injection e' with e1' e2';subst e1' e2';exact ⟨b,off,rfl,fun m hm=>(hb.cell (p:=⟨b,off+m,none⟩) (Nat.lt_of_lt_of_le (X7 (hj' m hm)) hw)).trans (hj m hm)⟩
theorem Dr.belowB (h:Dr w0 w g v l k F){B:Nat}(hb:Below B w w')(hB:w0.heap.size<=B)(hF:∀ x∈F,x.1<B):Dr w0 w' g v l k F:=
 ⟨⟨hb.os.trans h.grown.os,hb.tape.trans h.grown.tape,hb.output.trans h.grown.output,Nat.le_trans h.grown.size hb.size,fun q hq hne=>(hb.block q (by omega)).trans (h.grown.block q hq hne)⟩,
  Z3c h.src h.bs0 hB (Nat.lt_of_lt_of_le h.gl hB) hb,h.gl,h.bs0,fun i x e=>⟨(h.blks i x e).1,((h.blks i x e).2.1).below hb (hF x (List.mem_of_getElem? e)),(h.blks i x e).2.2⟩,h.dis⟩
theorem Dr.grew (h:Dr w0 w g v l k F){u u':Value}(hg:Xa w u w' u')(hB:∀ q,u.ownBlock=some q->w0.heap.size<=q)(hF:∀ x∈F,u.ownBlock≠some x.1):Dr w0 w' g v l k F:=by
 have hb:Below w0.heap.size w w':=(Below.refl _ _).grown hg.g h.size hB
 refine ⟨⟨hb.os.trans h.grown.os,hb.tape.trans h.grown.tape,hb.output.trans h.grown.output,Nat.le_trans h.grown.size hb.size,fun q hq hne=>(hb.block q hq).trans (h.grown.block q hq hne)⟩,
  Z3c h.src h.bs0 (Nat.le_refl _) h.gl hb,h.gl,h.bs0,fun i x e=>⟨(h.blks i x e).1,((h.blks i x e).2.1).keep (hg.block ((h.blks i x e).2.1).lt (hF x (List.mem_of_getElem? e))),(h.blks i x e).2.2⟩,h.dis⟩
theorem ownsRow.neBlk {w:World}{base e size n b:Nat}{v:Value}{xs:List Value}{C:Array Value}{t:TypeId}(h:w.ownsRow base e size v n xs)(hb:Blk w b C t)(hne:e≠t):v.ownBlock≠some b:=fun hv=>by
 rcases h.2 with ⟨e1,_⟩ | ⟨q,cap,cur,e1,_,hh,_⟩
 ·subst e1;cases hv
 ·subst e1
  injection hv with hv;have hv':q=b:=hv;subst hv';have hb':w.heap[q]? = some (.cells C t (0,0)):=hb;rw [hb'] at hh;injection hh with hh;injection hh with _ hh _;exact hne hh.symm
theorem Dr.pick (h:Dr w0 w g v l k F)(n:Nat)(hL:l.length<=1048576)(hk:k<=900000000)(hn:0<n)(hN:n<=4294967296) :
  Calls Tryz.prog 53 #[.pointer (some ⟨g,0,none⟩),.int .i64 n] w fun e w'=>e=.returned (.int .i64 (Z4 l k n:Nat))/\Dr w0 w' g v l (k+Zn n) F:=
 (Zq g w v l k n hL hk hn hN h.src).mono fun e w' ⟨h1,h2,h3⟩=>⟨h1,h.call h2 h3⟩
end
end Go.Proofs.YtmmpoppgabadmaaGreat
