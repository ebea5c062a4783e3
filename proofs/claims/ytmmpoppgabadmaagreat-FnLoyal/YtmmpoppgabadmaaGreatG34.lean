import Derived.Test.YtmmpoppgabadmaaGreatG33
import Derived.ArgAppend
set_option linter.unusedVariables false
set_option linter.unusedSimpArgs false
set_option maxRecDepth 100000
set_option maxHeartbeats 16000000
namespace Go.Proofs.YtmmpoppgabadmaaGreat
open Go.RowKit
theorem dnLd_k (l:List Int)(h:DnH)(d:DnS)(hs:h.sz<=7):(Z0s l h d).k<=d.k+300:=by
 unfold Z0s;split
 ·have hl:=Z2c l h (Yz d.n.tm d.n.log (Z5 l d.k 4)).length d.n.nw ⟨d.n.nx,d.n.mt,d.n.se,d.n.st,d.k+1+1⟩ h.sz
  refine Nat.le_trans hl.2.2.2.2 ?_;dsimp only;omega
 ·omega
theorem dnD_k (l:List Int)(k n:Nat)(hn:n<=200):(dnD l k n).k<=k+5000:=by
 have h1:=stD_k l k n;obtain ⟨z1,z2,_⟩:=dnH_le l (stD l k n).2.2.2;rw [show dnD l k n=Z0s l (dnH l (stD l k n).2.2.2) (J9 l (dnH l (stD l k n).2.2.2) (Z03 l (dnH l (stD l k n).2.2.2) (stD l k n).1 (Jp l k n))) from rfl];have h2:=dnLd_k l (dnH l (stD l k n).2.2.2) (J9 l (dnH l (stD l k n).2.2.2) (Z03 l (dnH l (stD l k n).2.2.2) (stD l k n).1 (Jp l k n))) z2;have h3:=(dnGr_n l (dnH l (stD l k n).2.2.2) (Z03 l (dnH l (stD l k n).2.2.2) (stD l k n).1 (Jp l k n))).2.2.2.2.2.2.2;have h4:=(dnRo_n l (dnH l (stD l k n).2.2.2) (stD l k n).1 (Jp l k n)).2.2.2.2.2.2.2.2
 have h5:(Jp l k n).k<=(dn0 l k n).k+50:=by
  unfold Jp;have a1:=X7 ((Z04 l (dnH l (stD l k n).2.2.2).el (Jn l (dnH l (stD l k n).2.2.2).el (Ji l (dn0 l k n)))).n.log.length+1);have a2:=X7 (min (Jn l (dnH l (stD l k n).2.2.2).el (Ji l (dn0 l k n))).n.nw.toNat (2*(dnH l (stD l k n).2.2.2).el)+1);have a3:=(dnDl_n l (dnH l (stD l k n).2.2.2).el (Ji l (dn0 l k n))).2.2.2.2.2.2.2.2;have a4:(Ji l (dn0 l k n)).k<=(dn0 l k n).k+3:=by unfold Ji;split <;> (dsimp only;omega)
  show (Z04 l (dnH l (stD l k n).2.2.2).el (Jn l (dnH l (stD l k n).2.2.2).el (Ji l (dn0 l k n)))).k+_<=_;have a5:(Z04 l (dnH l (stD l k n).2.2.2).el (Jn l (dnH l (stD l k n).2.2.2).el (Ji l (dn0 l k n)))).k=(Jn l (dnH l (stD l k n).2.2.2).el (Ji l (dn0 l k n))).k+Zm (min (Jn l (dnH l (stD l k n).2.2.2).el (Ji l (dn0 l k n))).n.nw.toNat (2*(dnH l (stD l k n).2.2.2).el)+1):=rfl;omega
 have h6:(dn0 l k n).k<=(stD l k n).2.2.2+30:=by
  have a1:=X7 (dnH l (stD l k n).2.2.2).el;have a2:(dnH l (stD l k n).2.2.2).k=(stD l k n).2.2.2+1+1+1+1+1:=rfl;show (dnH l (stD l k n).2.2.2).k+Zm (dnH l (stD l k n).2.2.2).el+1<=_;omega
 omega
theorem setRow_grown {W wr:World}{g b:Nat}{C:Array Value}{t:TypeId}(h:W.grownBy wr (some g))(hb:Blk wr b C t)(hlo:W.heap.size<=b)(C':Array Value):W.grownBy (wr.setRow b C') (some g):=
 ⟨h.os,h.tape,h.output,by rw [Z2k];exact h.size,fun q hq hne=>(setRow_other _ _ _ _ (by omega)).trans (h.block q hq hne)⟩
theorem Z0k {W wr:World}{g b j:Nat}(h:W.grownBy wr (some g))(hlo:W.heap.size<=b)(y:Value):W.grownBy (wr.setCell ⟨b,j,none⟩ y) (some g):=
 ⟨h.os,h.tape,h.output,by simp [World.setCell];exact h.size,fun q hq hne=>(Below.heap_setCell _ _ _ _ (show q≠b by omega)).trans (h.block q hq hne)⟩
theorem Z40 (t:Nat->Value):lst t 0 83 = [t 0,t 1,t 2,t 3,t 4,t 5,t 6,t 7,t 8,t 9,t 10,t 11,t 12,t 13,t 14,t 15,t 16,t 17,t 18,t 19,t 20,t 21,t 22,t 23,t 24,t 25,t 26,t 27,t 28,t 29,t 30,t 31,t 32,t 33,t 34,t 35,t 36,t 37,t 38,t 39,t 40,t 41,t 42,t 43,t 44,t 45,t 46,t 47,t 48,t 49,t 50,t 51,t 52,t 53,t 54,t 55,t 56,t 57,t 58,t 59,t 60,t 61,t 62,t 63,t 64,t 65,t 66,t 67,t 68,t 69,t 70,t 71,t 72,t 73,t 74,t 75,t 76,t 77,t 78,t 79,t 80,t 81,t 82]:=rfl
section
structure AkN (W:World) (g:Nat) (v:Value) (l:List Int) (b5:Nat) (w:World) (k:Nat) (n:Nd) (x:RV):Prop where
 src:Src w g v l k
 gW:g<W.heap.size
 grown:W.grownBy w (some g)
 nd:NdS w W.heap.size b5 n x
 lo5:W.heap.size<=b5
structure AkS (W:World) (g:Nat) (v:Value) (l:List Int) (b5 b6:Nat) (w:World) (k:Nat) (n:Nd) (x:RV) (m:Mg) (ve:Value):Prop where
 nn:AkN W g v l b5 w k n x
 mb:Blk w b6 (msV m ve) 43
 lo6:W.heap.size<=b6
 sv:∃ a n c,ve=.slice a n c
theorem msV_no {m:Mg}{ve:Value}(h:∃ a n c,ve=.slice a n c):NoU8 (msV m ve):=by
 obtain ⟨a,n,c,rfl⟩:=h;exact Yd rfl
variable {W w w':World} {g:Nat} {v:Value} {l:List Int} {k k' b5 b6:Nat} {n n':Nd} {x:RV} {m m':Mg} {ve:Value}
theorem AkN.call (h:AkN W g v l b5 w k n x)(hs:Src w' g v l k')(hg:w.grownBy w' (some g)):AkN W g v l b5 w' k' n x:=by
 have hgW:=h.gW;have hlo:=h.lo5;exact ⟨hs,h.gW,World.grownBy.trans' h.grown hg,h.nd.keep fun q hq hlt=>hg.block q hlt (fun e=>by injection e with e;omega),h.lo5⟩
theorem AkN.below (h:AkN W g v l b5 w k n x)(hb:Below w.heap.size w w'):AkN W g v l b5 w' k n x:=
 ⟨h.src.below hb,h.gW,World.grownBy.trans' h.grown ⟨hb.os,hb.tape,hb.output,hb.size,fun q hq _=>hb.block q hq⟩,h.nd.below hb,h.lo5⟩
theorem AkS.call (h:AkS W g v l b5 b6 w k n x m ve)(hs:Src w' g v l k')(hg:w.grownBy w' (some g)):AkS W g v l b5 b6 w' k' n x m ve:=by
 have hgW:=h.nn.gW;have hlo:=h.lo6;exact ⟨h.nn.call hs hg,h.mb.keep (hg.block b6 h.mb.lt (fun e=>by injection e with e;omega)),h.lo6,h.sv⟩
theorem AkS.drew (h:AkS W g v l b5 b6 w k n x m ve):AkS W g v l b5 b6 w.drew k n x m ve:=⟨h.nn.below (Below.refl _ _).drew,h.mb.below (Below.refl _ _).drew h.mb.lt,h.lo6,h.sv⟩
theorem AkS.nd (h:AkS W g v l b5 b6 w k n x m ve):NdS w W.heap.size b5 n x:=h.nn.nd
theorem AkS.ndb (h:AkS W g v l b5 b6 w k n x m ve):Blk w b5 (ndC n x) 36:=h.nn.nd.blk
theorem AkN.pick1 (h:AkN W g v l b5 w k n x)(q:Nat)(hL:l.length<=1048576)(hk:k<=900000000)(hm:0<q)(hM:q<=256) :
  Calls Tryz.prog 53 #[.pointer (some ⟨g,0,none⟩),.int .i64 q] w fun e w'=>e=.returned (.int .i64 (Z5 l k q:Nat))/\AkN W g v l b5 w' (k+1) n x:=
 (Zq g w v l k q hL hk hm (by omega) h.src).mono fun e w' ⟨h1,h2,h3⟩=>⟨h1,by rw [show Zm q=1 by unfold Zm;rw [if_pos hM]] at h2;exact h.call h2 h3⟩
theorem AkS.pick1 (h:AkS W g v l b5 b6 w k n x m ve)(q:Nat)(hL:l.length<=1048576)(hk:k<=900000000)(hm:0<q)(hM:q<=256) :
  Calls Tryz.prog 53 #[.pointer (some ⟨g,0,none⟩),.int .i64 q] w fun e w'=>e=.returned (.int .i64 (Z5 l k q:Nat))/\AkS W g v l b5 b6 w' (k+1) n x m ve:=
 (Zq g w v l k q hL hk hm (by omega) h.nn.src).mono fun e w' ⟨h1,h2,h3⟩=>⟨h1,by rw [show Zm q=1 by unfold Zm;rw [if_pos hM]] at h2;exact h.call h2 h3⟩
theorem AkN.setL (h:AkN W g v l b5 w k n x)(y:Int):AkN W g v l b5 (w.setCell ⟨b5,7,none⟩ (.int .i64 y)) k { n with ld:=y } x:=by
 have hgW:=h.gW;have hlo:=h.lo5;exact ⟨h.src.setB h.nd.blk (by omega) 7 (by show 7<18;omega) h.nd.own.one.2 _,h.gW,Z0k h.grown h.lo5 _,h.nd.set 7 (by omega) y rfl rfl rfl rfl rfl rfl rfl,h.lo5⟩
theorem AkS.ne (h:AkS W g v l b5 b6 w k n x m ve):b5≠b6:=fun e=>by
 have h1:=h.ndb;have h2:=h.mb;rw [e] at h1;unfold Blk at h1 h2;rw [h1] at h2;simp at h2
theorem AkS.put (h:AkS W g v l b5 b6 w k n x m ve)(j:Nat)(hj:j<10)(y:Value)(hb:Blk (w.setCell ⟨b6,j,none⟩ y) b6 (msV m' ve) 43):AkS W g v l b5 b6 (w.setCell ⟨b6,j,none⟩ y) k n x m' ve:=by
 have hgW:=h.nn.gW;have hlo:=h.lo6;have hk:∀ q,q≠b6->(w.setCell ⟨b6,j,none⟩ y).heap[q]? = w.heap[q]?:=fun q hq=>Below.heap_setCell _ _ _ _ hq
 exact ⟨⟨h.nn.src.setB h.mb (by omega) j hj (msV_no h.sv) _,h.nn.gW,Z0k h.nn.grown h.lo6 _,⟨h.ndb.keep (hk b5 h.ne),h.nd.own.neB h.mb (by decide) (by decide) hk⟩,h.nn.lo5⟩,hb,h.lo6,h.sv⟩
theorem AkS.set (h:AkS W g v l b5 b6 w k n x m ve)(j:Nat)(hj:j<9)(y:Int)(hc:(msV m ve).setIfInBounds j (.int .i64 y)=msV m' ve):AkS W g v l b5 b6 (w.setCell ⟨b6,j,none⟩ (.int .i64 y)) k n x m' ve:=
 h.put j (by omega) _ (by have h9:=h.mb.set j (.int .i64 y);rw [hc] at h9;exact h9)
theorem AkS.bare (h:AkS W g v l b5 b6 w k n x m ve):AkS W g v l b5 b6 (w.setCell ⟨b6,9,none⟩ (.slice none 0 0)) k n x { m with es:=[] } (.slice none 0 0):=by
 have hgW:=h.nn.gW;have hlo:=h.lo6;have hk:∀ q,q≠b6->(w.setCell ⟨b6,9,none⟩ (.slice none 0 0)).heap[q]? = w.heap[q]?:=fun q hq=>Below.heap_setCell _ _ _ _ hq
 exact ⟨⟨h.nn.src.setB h.mb (by omega) 9 (by show 9<10;omega) (msV_no h.sv) _,h.nn.gW,Z0k h.nn.grown h.lo6 _,⟨h.ndb.keep (hk b5 h.ne),h.nd.own.neB h.mb (by decide) (by decide) hk⟩,h.nn.lo5⟩,h.mb.set 9 (.slice none 0 0),h.lo6,⟨_,_,_,rfl⟩⟩
end
theorem da0 {v:Value}{Q:Exit->Act->World->Prop}{K:Act->World->Prop}{a:Act}{w:World}(hF:SzD a 83)(h0:a.eval (.tmp 0)=v)(hP:∀ a' w',SzD a' 83->a'.eval (.tmp 0)=v->a'.eval (.tmp 2)=.pointer (some ⟨w.heap.size,0,none⟩)->a'.eval (.tmp 3)=.pointer (some ⟨w.heap.size+1,0,none⟩)->w'=(w.alloc (.cells Jr 36)).alloc (.cells Z0d 43)->K a' w'):(Z1 0 (Z3 Tryz.f20)).wp Tryz.prog (Exit.then K Q) a w:=by
 obtain ⟨t,rfl⟩:=hF.opened;clear hF;rw [Z40]
 try dsimp only
 rw [show t 0=_ from h0];clear h0;unfold Z0d msV mg0 at hP
 conv=>arg 2;whnf
 go_wp2_with fail
 exact hP _ _ ⟨rfl,rfl⟩ rfl rfl rfl rfl
theorem da1 {v e2 e3:Value}(hv:∃ b n c,v=.slice b n c){Q:Exit->Act->World->Prop}{K:Act->World->Prop}{a:Act}{w:World}(hF:SzD a 83)(h0:a.eval (.tmp 0)=v)(h2:a.eval (.tmp 2)=e2)(h3:a.eval (.tmp 3)=e3)(hP:∀ a' w',SzD a' 83->a'.eval (.tmp 0)=v->a'.eval (.tmp 2)=e2->a'.eval (.tmp 3)=e3->a'.eval (.tmp 4)=.pointer (some ⟨w.heap.size,0,none⟩)->w'=w.alloc (.cells #[v,.int .i64 0] 91)->K a' w'):(Z1 1 (Z3 Tryz.f20)).wp Tryz.prog (Exit.then K Q) a w:=by
 obtain ⟨t,rfl⟩:=hF.opened;clear hF;rw [Z40]
 try dsimp only
 rw [show t 0=_ from h0,show t 2=_ from h2,show t 3=_ from h3];clear h0 h2 h3;obtain ⟨b,n,c,rfl⟩:=hv
 conv=>arg 2;whnf
 go_wp2_with fail
 exact hP _ _ ⟨rfl,rfl⟩ rfl rfl rfl rfl rfl
theorem da2 {va:Option Addr}{ln vc m N g:Nat}{e2 e3 e4 v:Value}{l:List Int}{D:DnS}(hNe:(3:Int)+(m:Int) / 10=(N:Int))(hm4:m<=400)(hN2:N<=200){Q:Exit->Act->World->Prop}{K:Act->World->Prop}{a:Act}{w:World}(hF:SzD a 83)(HSZ:Hid (∀ u,Calls Tryz.prog 52 #[.slice va ln vc] u fun e w'=>e=.returned (.int .i64 (m:Nat))/\w'=u))(h0:a.eval (.tmp 0)=.slice va ln vc)(h2:a.eval (.tmp 2)=e2)(h3:a.eval (.tmp 3)=e3)(h4:a.eval (.tmp 4)=e4)(HDN:Hid (Calls Tryz.prog 51 #[e4,.int .i64 (N:Nat)] w fun r w'=>∃ x,r=.returned (.agg (ndC D.n x))/\NdO w' w.heap.size D.n x/\Src w' g v l D.k/\w.grownBy w' (some g)))(hP:∀ a' w' x' w4,SzD a' 83->a'.eval (.tmp 2)=e2->a'.eval (.tmp 3)=e3->a'.eval (.tmp 4)=e4->a'.eval (.tmp 5)=.pointer (some ⟨w4.heap.size,0,none⟩)->w'=w4.alloc (.cells (ndC D.n x') 36)->NdO w4 w.heap.size D.n x'->Src w4 g v l D.k->w.grownBy w4 (some g)->K a' w'):(Z1 2 (Z3 Tryz.f20)).wp Tryz.prog (Exit.then K Q) a w:=by
 obtain ⟨t,rfl⟩:=hF.opened;clear hF;rw [Z40]
 try dsimp only
 rw [show t 0=_ from h0,show t 2=_ from h2,show t 3=_ from h3,show t 4=_ from h4];clear h0 h2 h3 h4
 conv=>arg 2;whnf
 go_wp2_with (first
  |(go_at_call 52;refine (HSZ.out _).mono ?_;rintro r w1 ⟨rfl,hw1⟩;subst w1)
  |(go_at_call 51;go_loud (refine HDN.out.mono ?_;rintro r w2 ⟨x2,rfl,ho2,hs2,hg2⟩;have HO2:Hid (NdO w2 w.heap.size D.n x2):=ho2;have HS2:Hid (Src w2 g v l D.k):=hs2;have HG2:Hid (w.grownBy w2 (some g)):=hg2;have HC1:Hid ((ndC D.n x2).all (·.oneCell')=true):=ho2.one.1;clear ho2 hs2 hg2))
  |(refine Y2 36 (.tmp 5) _ rfl ?_;go_loud (refine Zz rfl 36 (.tmp 5) _ rfl (w2.heap.size) rfl rfl rfl Z0g rfl rfl HC1.out ?_)))
 exact hP _ _ x2 w2 ⟨rfl,rfl⟩ rfl rfl rfl rfl rfl HO2.out HS2.out HG2.out
theorem da3 {W:World}{g b2 b3 b5 k:Nat}{v:Value}{l:List Int}{n:Nd}{xr:RV}(hL:l.length<=1048576)(hk:k<=890000000){Q:Exit->Act->World->Prop}{K:Act->World->Prop}{a:Act}{w:World}(hF:SzD a 83)(h2:a.eval (.tmp 2)=.pointer (some ⟨b2,0,none⟩))(h3:a.eval (.tmp 3)=.pointer (some ⟨b3,0,none⟩))(h4:a.eval (.tmp 4)=.pointer (some ⟨g,0,none⟩))(h5:a.eval (.tmp 5)=.pointer (some ⟨b5,0,none⟩))(hS:AkN W g v l b5 w k n xr)(hP:∀ a' w',SzD a' 83->a'.eval (.tmp 2)=.pointer (some ⟨b2,0,none⟩)->a'.eval (.tmp 3)=.pointer (some ⟨b3,0,none⟩)->a'.eval (.tmp 4)=.pointer (some ⟨g,0,none⟩)->a'.eval (.tmp 5)=.pointer (some ⟨b5,0,none⟩)->a'.eval (.tmp 20)=.bool (decide (Z5 l k 2=0/\n.ro=0))->AkN W g v l b5 w' (k+1) n xr->K a' w'):(Z1 0 (Z1 3 (Z3 Tryz.f20))).wp Tryz.prog (Exit.then K Q) a w:=by
 obtain ⟨t,rfl⟩:=hF.opened;clear hF;rw [Z40]
 try dsimp only
 rw [show t 2=_ from h2,show t 3=_ from h3,show t 4=_ from h4,show t 5=_ from h5];clear h2 h3 h4 h5;have HS:Hid (AkN W g v l b5 w k n xr):=hS;clear hS;obtain ⟨p,hp⟩:∃ p,p=Z5 l k 2:=⟨_,rfl⟩;have Hp:Hid (p=Z5 l k 2):=hp;rw [<-hp] at hP;have bp:p<2:=by rw [hp];exact Zf _ _ _ (by omega)
 clear hp;have hro:∀ w',AkN W g v l b5 w' (k+1) n xr->w'.cell? ⟨b5,6,none⟩=some (.int .i64 n.ro):=fun w' h=>h.nd.blk.cell 6
 have Hro:Hid _:=hro;clear hro;obtain ⟨r0,hr0⟩:∃ q,q=n.ro:=⟨_,rfl⟩;have Hr0:Hid (r0=n.ro):=hr0;rw [<-hr0] at hP;clear hr0
 conv=>arg 2;whnf
 by_cases g1:p=0
 ·subst g1
  by_cases g2:r0=0
  ·go_wp2_with (go_at_call 53;go_loud (refine (HS.out.pick1 2 hL (by omega) (by omega) (by omega)).mono ?_;rw [<-Hp.out];rintro r w9 ⟨rfl,hd⟩;have HS9:Hid (AkN W g v l b5 w9 (k+1) n xr):=hd;have n6:w9.cell? ⟨b5,6,none⟩=some (.int .i64 r0):=(Hro.out _ hd).trans (by rw [Hr0.out]);clear hd))
   exact hP _ _ ⟨rfl,rfl⟩ rfl rfl rfl rfl (by simp [Act.eval,g2]) HS9.out
  ·have hb:(r0 == 0)=false:=by simpa using g2
   go_wp2_with (go_at_call 53;go_loud (refine (HS.out.pick1 2 hL (by omega) (by omega) (by omega)).mono ?_;rw [<-Hp.out];rintro r w9 ⟨rfl,hd⟩;have HS9:Hid (AkN W g v l b5 w9 (k+1) n xr):=hd;have n6:w9.cell? ⟨b5,6,none⟩=some (.int .i64 r0):=(Hro.out _ hd).trans (by rw [Hr0.out]);clear hd))
   exact hP _ _ ⟨rfl,rfl⟩ rfl rfl rfl rfl (by simp [Act.eval,g2]) HS9.out
 ·have hpb:((p:Int) == 0)=false:=by simp;omega
  go_wp2_with (go_at_call 53;go_loud (refine (HS.out.pick1 2 hL (by omega) (by omega) (by omega)).mono ?_;rw [<-Hp.out];rintro r w9 ⟨rfl,hd⟩;have HS9:Hid (AkN W g v l b5 w9 (k+1) n xr):=hd;have n6:w9.cell? ⟨b5,6,none⟩=some (.int .i64 r0):=(Hro.out _ hd).trans (by rw [Hr0.out]);clear hd))
  exact hP _ _ ⟨rfl,rfl⟩ rfl rfl rfl rfl (by simp [Act.eval,g1]) HS9.out
theorem da4 {W:World}{g b2 b3 b5 k:Nat}{v:Value}{l:List Int}{n:Nd}{xr:RV}(hsz:3<=n.sz/\n.sz<=7)(hid:1<=n.id/\n.id<=n.sz){Q:Exit->Act->World->Prop}{K:Act->World->Prop}{a:Act}{w:World}(hF:SzD a 83)(h2:a.eval (.tmp 2)=.pointer (some ⟨b2,0,none⟩))(h3:a.eval (.tmp 3)=.pointer (some ⟨b3,0,none⟩))(h4:a.eval (.tmp 4)=.pointer (some ⟨g,0,none⟩))(h5:a.eval (.tmp 5)=.pointer (some ⟨b5,0,none⟩))(hS:AkN W g v l b5 w k n xr)(hP:∀ a' w',SzD a' 83->a'.eval (.tmp 2)=.pointer (some ⟨b2,0,none⟩)->a'.eval (.tmp 3)=.pointer (some ⟨b3,0,none⟩)->a'.eval (.tmp 4)=.pointer (some ⟨g,0,none⟩)->a'.eval (.tmp 5)=.pointer (some ⟨b5,0,none⟩)->AkN W g v l b5 w' k { n with ld:=1+n.id%n.sz } xr->K a' w'):(Zj (Z2 1 (Z1 3 (Z3 Tryz.f20)))).wp Tryz.prog (Exit.then K Q) a w:=by
 obtain ⟨t,rfl⟩:=hF.opened;clear hF;rw [Z40]
 try dsimp only
 rw [show t 2=_ from h2,show t 3=_ from h3,show t 4=_ from h4,show t 5=_ from h5];clear h2 h3 h4 h5;have n0:w.cell? ⟨b5,0,none⟩=some (.int .i64 n.id):=hS.nd.blk.cell 0;have n1:w.cell? ⟨b5,1,none⟩=some (.int .i64 n.sz):=hS.nd.blk.cell 1;have n7:w.cell? ⟨b5,7,none⟩=some (.int .i64 n.ld):=hS.nd.blk.cell 7;have f7:w.frozen? ⟨b5,7,none⟩=false:=hS.nd.blk.free 7;have htm:n.id.tmod n.sz=n.id%n.sz:=Int.tmod_eq_emod_of_nonneg (by omega);have hz0:¬ n.sz=0:=by omega
 have q1:=Int.emod_nonneg n.id hz0;have q2:=Int.emod_lt_of_pos n.id (show 0<n.sz by omega);have hw1:IntKind.i64.wrap (n.id%n.sz)=n.id%n.sz:=by rw [IntKind.wrap_i64];omega
 have HS:Hid (AkN W g v l b5 w k n xr):=hS;clear hS
 conv=>arg 2;whnf
 go_wp2_with fail
 exact hP _ _ ⟨rfl,rfl⟩ rfl rfl rfl rfl (HS.out.setL _)
theorem da5 {W:World}{g b2 b3 b5 k:Nat}{v:Value}{l:List Int}{n:Nd}{xr:RV}{M:Mg}{K1:Nat}{Q:Exit->Act->World->Prop}{K:Act->World->Prop}{a:Act}{w:World}(hF:SzD a 83)(h2:a.eval (.tmp 2)=.pointer (some ⟨b2,0,none⟩))(h3:a.eval (.tmp 3)=.pointer (some ⟨b3,0,none⟩))(h4:a.eval (.tmp 4)=.pointer (some ⟨g,0,none⟩))(h5:a.eval (.tmp 5)=.pointer (some ⟨b5,0,none⟩))(hS:AkN W g v l b5 w k n xr)(HDF:Hid (Calls Tryz.prog 54 #[.pointer (some ⟨g,0,none⟩),.agg (ndC n xr)] w fun r w'=>∃ ve,r=.returned (.agg (msV M ve))/\Zv w' w.heap.size ve M.es/\Src w' g v l K1/\w.grownBy w' (some g)))(hP:∀ a' w' ve' w4,SzD a' 83->a'.eval (.tmp 2)=.pointer (some ⟨b2,0,none⟩)->a'.eval (.tmp 3)=.pointer (some ⟨b3,0,none⟩)->a'.eval (.tmp 4)=.pointer (some ⟨g,0,none⟩)->a'.eval (.tmp 5)=.pointer (some ⟨b5,0,none⟩)->a'.eval (.tmp 6)=.pointer (some ⟨w4.heap.size,0,none⟩)->w'=w4.alloc (.cells (msV M ve') 43)->AkN W g v l b5 w4 K1 n xr->(∃ a c,ve'=.slice a M.es.length c)->K a' w'):(Z1 4 (Z3 Tryz.f20)).wp Tryz.prog (Exit.then K Q) a w:=by
 obtain ⟨t,rfl⟩:=hF.opened;clear hF;rw [Z40]
 try dsimp only
 rw [show t 2=_ from h2,show t 3=_ from h3,show t 4=_ from h4,show t 5=_ from h5];clear h2 h3 h4 h5;have HB:Hid (Blk w b5 (ndC n xr) 36):=hS.nd.blk;have HC0:Hid (18=(ndC n xr).size):=rfl;have HS:Hid (AkN W g v l b5 w k n xr):=hS;clear hS;obtain ⟨CN,hCN⟩:∃ C,C=ndC n xr:=⟨_,rfl⟩;rw [<-hCN] at HB HDF HC0;clear hCN;have hBA:True:=trivial
 conv=>arg 2;whnf
 go_wp2_with (first
  |(refine Zw 36 (.tmp 5) rfl ?_;clear hBA;refine Zk rfl 36 (.tmp 5) rfl b5 rfl HB.out Tryz.underlying36 rfl Z0g HC0.out ?_)
  |(go_at_call 54;go_loud (refine HDF.out.mono ?_;rintro r w2 ⟨ve2,rfl,ho2,hs2,hg2⟩;have HS2:Hid (AkN W g v l b5 w2 K1 n xr):=HS.out.call hs2 hg2;have HV2:Hid (∃ a c,ve2=.slice a M.es.length c):=ho2.shape;have HC1:Hid ((msV M ve2).all (·.oneCell')=true):=(by obtain ⟨a,c,hv⟩:=ho2.shape;unfold Hid msV;rw [hv];simp [Value.oneCell']);clear ho2 hs2 hg2))
  |(refine Y2 43 (.tmp 6) _ rfl ?_;go_loud (refine Zz rfl 43 (.tmp 6) _ rfl (w2.heap.size) rfl rfl rfl Ys rfl rfl HC1.out ?_)))
 exact hP _ _ ve2 w2 ⟨rfl,rfl⟩ rfl rfl rfl rfl rfl rfl HS2.out HV2.out
theorem da6 {W:World}{g b2 b3 b5 b6 k:Nat}{v:Value}{l:List Int}{n:Nd}{xr:RV}{m:Mg}{ve:Value}(hL:l.length<=1048576)(hk:k<=890000000){Q:Exit->Act->World->Prop}{K:Act->World->Prop}{a:Act}{w:World}(hF:SzD a 83)(h2:a.eval (.tmp 2)=.pointer (some ⟨b2,0,none⟩))(h3:a.eval (.tmp 3)=.pointer (some ⟨b3,0,none⟩))(h4:a.eval (.tmp 4)=.pointer (some ⟨g,0,none⟩))(h5:a.eval (.tmp 5)=.pointer (some ⟨b5,0,none⟩))(h6:a.eval (.tmp 6)=.pointer (some ⟨b6,0,none⟩))(hS:AkS W g v l b5 b6 w k n xr m ve)(hP:∀ a' w',SzD a' 83->a'.eval (.tmp 2)=.pointer (some ⟨b2,0,none⟩)->a'.eval (.tmp 3)=.pointer (some ⟨b3,0,none⟩)->a'.eval (.tmp 4)=.pointer (some ⟨g,0,none⟩)->a'.eval (.tmp 5)=.pointer (some ⟨b5,0,none⟩)->a'.eval (.tmp 6)=.pointer (some ⟨b6,0,none⟩)->AkS W g v l b5 b6 w' (k+1) n xr { m with ki:=1+2*((Z5 l k 2:Nat):Int) } ve->K a' w'):(Z1 5 (Z3 Tryz.f20)).wp Tryz.prog (Exit.then K Q) a w:=by
 obtain ⟨t,rfl⟩:=hF.opened;clear hF;rw [Z40]
 try dsimp only
 rw [show t 2=_ from h2,show t 3=_ from h3,show t 4=_ from h4,show t 5=_ from h5,show t 6=_ from h6];clear h2 h3 h4 h5 h6;have HS:Hid (AkS W g v l b5 b6 w k n xr m ve):=hS;clear hS;obtain ⟨p,hp⟩:∃ p,p=Z5 l k 2:=⟨_,rfl⟩;have Hp:Hid (p=Z5 l k 2):=hp;rw [<-hp] at hP;have bp:p<2:=by rw [hp];exact Zf _ _ _ (by omega)
 clear hp
 conv=>arg 2;whnf
 go_wp2_with (go_at_call 53;go_loud (refine (HS.out.pick1 2 hL (by omega) (by omega) (by omega)).mono ?_;rw [<-Hp.out];rintro r w9 ⟨rfl,hd⟩;have HS9:Hid (AkS W g v l b5 b6 w9 (k+1) n xr m ve):=hd;have m0:w9.cell? ⟨b6,0,none⟩=some (.int .i64 m.ki):=HS9.out.mb.cell 0;have f0:w9.frozen? ⟨b6,0,none⟩=false:=HS9.out.mb.free 0;clear hd))
 exact hP _ _ ⟨rfl,rfl⟩ rfl rfl rfl rfl rfl (HS9.out.set 0 (by omega) _ rfl)
theorem da7 {W:World}{g b2 b3 b5 b6 k:Nat}{v:Value}{l:List Int}{n:Nd}{xr:RV}{m:Mg}{ve:Value}{Q:Exit->Act->World->Prop}{K:Act->World->Prop}{a:Act}{w:World}(hF:SzD a 83)(h2:a.eval (.tmp 2)=.pointer (some ⟨b2,0,none⟩))(h3:a.eval (.tmp 3)=.pointer (some ⟨b3,0,none⟩))(h4:a.eval (.tmp 4)=.pointer (some ⟨g,0,none⟩))(h5:a.eval (.tmp 5)=.pointer (some ⟨b5,0,none⟩))(h6:a.eval (.tmp 6)=.pointer (some ⟨b6,0,none⟩))(hS:AkS W g v l b5 b6 w k n xr m ve)(hP:∀ a' w',SzD a' 83->a'.eval (.tmp 2)=.pointer (some ⟨b2,0,none⟩)->a'.eval (.tmp 3)=.pointer (some ⟨b3,0,none⟩)->a'.eval (.tmp 4)=.pointer (some ⟨g,0,none⟩)->a'.eval (.tmp 5)=.pointer (some ⟨b5,0,none⟩)->a'.eval (.tmp 6)=.pointer (some ⟨b6,0,none⟩)->AkS W g v l b5 b6 w' k n xr { m with td:=n.id } ve->K a' w'):(Z1 6 (Z3 Tryz.f20)).wp Tryz.prog (Exit.then K Q) a w:=by
 obtain ⟨t,rfl⟩:=hF.opened;clear hF;rw [Z40]
 try dsimp only
 rw [show t 2=_ from h2,show t 3=_ from h3,show t 4=_ from h4,show t 5=_ from h5,show t 6=_ from h6];clear h2 h3 h4 h5 h6;have n0:w.cell? ⟨b5,0,none⟩=some (.int .i64 n.id):=hS.nd.blk.cell 0;have m2:w.cell? ⟨b6,2,none⟩=some (.int .i64 m.td):=hS.mb.cell 2;have f2:w.frozen? ⟨b6,2,none⟩=false:=hS.mb.free 2;have HS:Hid (AkS W g v l b5 b6 w k n xr m ve):=hS;clear hS
 conv=>arg 2;whnf
 go_wp2_with fail
 exact hP _ _ ⟨rfl,rfl⟩ rfl rfl rfl rfl rfl (HS.out.set 2 (by omega) _ rfl)
theorem da8 {W:World}{g b2 b3 b5 b6 k:Nat}{v:Value}{l:List Int}{n:Nd}{xr:RV}{m:Mg}{ve:Value}(hL:l.length<=1048576)(hk:k<=890000000)(hsz:3<=n.sz/\n.sz<=7)(hid:1<=n.id/\n.id<=n.sz){Q:Exit->Act->World->Prop}{K:Act->World->Prop}{a:Act}{w:World}(hF:SzD a 83)(h2:a.eval (.tmp 2)=.pointer (some ⟨b2,0,none⟩))(h3:a.eval (.tmp 3)=.pointer (some ⟨b3,0,none⟩))(h4:a.eval (.tmp 4)=.pointer (some ⟨g,0,none⟩))(h5:a.eval (.tmp 5)=.pointer (some ⟨b5,0,none⟩))(h6:a.eval (.tmp 6)=.pointer (some ⟨b6,0,none⟩))(hS:AkS W g v l b5 b6 w k n xr m ve)(hP:∀ a' w',SzD a' 83->a'.eval (.tmp 2)=.pointer (some ⟨b2,0,none⟩)->a'.eval (.tmp 3)=.pointer (some ⟨b3,0,none⟩)->a'.eval (.tmp 4)=.pointer (some ⟨g,0,none⟩)->a'.eval (.tmp 5)=.pointer (some ⟨b5,0,none⟩)->a'.eval (.tmp 6)=.pointer (some ⟨b6,0,none⟩)->AkS W g v l b5 b6 w' (k+1) n xr { m with fr:=1+(n.id+(Z5 l k (n.sz.toNat-1):Nat))%n.sz } ve->K a' w'):(Z1 7 (Z3 Tryz.f20)).wp Tryz.prog (Exit.then K Q) a w:=by
 obtain ⟨M,hM⟩:∃ q,q=n.sz.toNat-1:=⟨_,rfl⟩;rw [<-hM] at hP;have hM1:(M:Int)=n.sz-1:=by omega
 have hM2:M<=6/\0<M:=by omega
 obtain ⟨p,hp⟩:∃ p,p=Z5 l k M:=⟨_,rfl⟩;have Hp:Hid (p=Z5 l k M):=hp;rw [<-hp] at hP;have bp:p<M:=by rw [hp];exact Zf _ _ _ (by omega)
 clear hp hM;have hz0:¬ n.sz=0:=by omega
 have htm:(n.id+(p:Int)).tmod n.sz=(n.id+(p:Int))%n.sz:=Int.tmod_eq_emod_of_nonneg (by omega);have q1:=Int.emod_nonneg (n.id+(p:Int)) hz0;have q2:=Int.emod_lt_of_pos (n.id+(p:Int)) (show 0<n.sz by omega);obtain ⟨y,hy⟩:∃ y,y=(n.id+(p:Int))%n.sz:=⟨_,rfl⟩;rw [<-hy] at htm q1 q2 hP;have Hy:Hid (y=(n.id+(p:Int))%n.sz):=hy;clear hy
 conv=>arg 2;whnf
 refine Xg (fun a0=>a0.tmps.size=83/\a0.eval (.tmp 4)=.pointer (some ⟨g,0,none⟩)/\a0.eval (.tmp 5)=.pointer (some ⟨b5,0,none⟩)/\a0.eval (.tmp 6)=.pointer (some ⟨b6,0,none⟩)) (fun a0 aF w'=>∃ x:Nat->Value,aF=frame a0 [37,38,39,40,41,42,43,44,45,46,47,48] x/\(AkS W g v l b5 b6 w' (k+1) n xr { m with fr:=1+y } ve)) ?_ ⟨hF.1,h4,h5,h6⟩ ?_
 ·rintro a0 ⟨hsz0,e4,e5,e6⟩
  refine Y7 (by kernel_rfl) (fun L aF w'=>∃ x:Nat->Value,aF=frame a0 [37,38,39,40,41,42,43,44,45,46,47,48] x/\(St3 (fun W_=>AkS W g v l b5 b6 W_ k n xr m ve) (fun W_=>AkS W g v l b5 b6 W_ (k+1) n xr m ve) (fun W_=>AkS W g v l b5 b6 W_ (k+1) n xr { m with fr:=1+y } ve)) (L.getD 5 false) (L.getD 12 false) w'/\(L.getD 0 false=true->x 37=.pointer (some ⟨b5,0,none⟩))/\(L.getD 1 false=true->x 38=.int .i64 n.id)/\(L.getD 2 false=true->x 39=.pointer (some ⟨b5,1,none⟩))/\(L.getD 3 false=true->x 40=.int .i64 n.sz)/\(L.getD 4 false=true->x 41=.int .i64 (M:Int))/\(L.getD 5 false=true->x 42=.int .i64 (p:Int))/\(L.getD 6 false=true->x 43=.int .i64 (n.id+(p:Int))/\L.getD 5 false=true)/\(L.getD 7 false=true->x 44=.pointer (some ⟨b5,1,none⟩))/\(L.getD 8 false=true->x 45=.int .i64 n.sz)/\(L.getD 9 false=true->x 46=.int .i64 y/\L.getD 5 false=true)/\(L.getD 10 false=true->x 47=.int .i64 (1+y)/\L.getD 5 false=true)/\(L.getD 11 false=true->x 48=.pointer (some ⟨b6,1,none⟩))/\(L.getD 12 false=true->True)) ?_ ?_ ?_
  ·refine ⟨_,Yk a0 [37,38,39,40,41,42,43,44,45,46,47,48],?_,fun h=>(Zl h).elim,fun h=>(Zl h).elim,fun h=>(Zl h).elim,fun h=>(Zl h).elim,fun h=>(Zl h).elim,fun h=>(Zl h).elim,fun h=>(Zl h).elim,fun h=>(Zl h).elim,fun h=>(Zl h).elim,fun h=>(Zl h).elim,fun h=>(Zl h).elim,fun h=>(Zl h).elim,fun h=>(Zl h).elim⟩
   rw [Z05,Z05];exact hS.drew
  ·rintro L a w' i hsL hi ⟨x,rfl,hS,h0,h1,h2,h3,h4,h5,h6,h7,h8,h9,h10,h11,h12⟩
   have hlt:∀ j,j<13->j<L.size:=fun j hj=>by rw [hsL];exact hj
   have hsl:∀ j,j<83->j<a0.tmps.size:=fun j hj=>by rw [hsz0];exact hj
   have hiL:i<13:=(Zx hsL hi).1;have hLz:L.size=13:=hsL;have hcb50:w'.cell? ⟨b5,0,none⟩=some (.int .i64 n.id):=by refine St3.any (P:=fun W_=>W_.cell? ⟨b5,0,none⟩=some (.int .i64 n.id)) ?_ ?_ ?_ hS <;> intro W_ h <;> exact (AkS.ndb h).cell 0
   have hcb51:w'.cell? ⟨b5,1,none⟩=some (.int .i64 n.sz):=by refine St3.any (P:=fun W_=>W_.cell? ⟨b5,1,none⟩=some (.int .i64 n.sz)) ?_ ?_ ?_ hS <;> intro W_ h <;> exact (AkS.ndb h).cell 1
   rcases (show i=0∨i=1∨i=2∨i=3∨i=4∨i=5∨i=6∨i=7∨i=8∨i=9∨i=10∨i=11∨i=12 by omega) with rfl | rfl | rfl | rfl | rfl | rfl | rfl | rfl | rfl | rfl | rfl | rfl | rfl
   ·skip
    have hz:=hlt 0 (by decide);have ev5:(frame a0 [37,38,39,40,41,42,43,44,45,46,47,48] x).tmps[5]?.getD undef=.pointer (some ⟨b5,0,none⟩):=by have h:=(Zc a0 [37,38,39,40,41,42,43,44,45,46,47,48] x 5 rfl).trans e5;simpa [Act.eval] using h
    refine Z8 rfl rfl (Zd (v:=.pointer (some ⟨b5,0,none⟩)) ?_ ?_)
    ·obtain ⟨aa,haa⟩:∃ aa,aa=frame a0 [37,38,39,40,41,42,43,44,45,46,47,48] x:=⟨_,rfl⟩
     rw [<-haa] at ev5 ⊢;clear haa;go_simp
    exact ⟨_,Z9 _ _ _ 37 _ rfl,(by rw [Zp hz (by decide),Zp hz (by decide)];exact hS),fun h=>Zb _ _ _,fun h=>ke2 h1 hz h,fun h=>ke2 h2 hz h,fun h=>ke2 h3 hz h,fun h=>ke2 h4 hz h,fun h=>ke2 h5 hz h,fun h=>⟨(Z6 _ _ _ _ (by decide)).trans (h6 (kb h hz)).1,Zh (h6 (kb h hz)).2 hz⟩,fun h=>ke2 h7 hz h,fun h=>ke2 h8 hz h,fun h=>⟨(Z6 _ _ _ _ (by decide)).trans (h9 (kb h hz)).1,Zh (h9 (kb h hz)).2 hz⟩,fun h=>⟨(Z6 _ _ _ _ (by decide)).trans (h10 (kb h hz)).1,Zh (h10 (kb h hz)).2 hz⟩,fun h=>ke2 h11 hz h,fun h=>trivial⟩
   ·have d0:=h0 (Z7 hi (by decide))
    have hz:=hlt 1 (by decide);have ev37:(frame a0 [37,38,39,40,41,42,43,44,45,46,47,48] x).tmps[37]?.getD undef=.pointer (some ⟨b5,0,none⟩):=by have h:=(Z4 a0 [37,38,39,40,41,42,43,44,45,46,47,48] x 37 rfl (hsl 37 (by decide))).trans d0;simpa [Act.eval] using h
    refine Z8 rfl rfl (Zd (v:=.int .i64 n.id) ?_ ?_)
    ·obtain ⟨aa,haa⟩:∃ aa,aa=frame a0 [37,38,39,40,41,42,43,44,45,46,47,48] x:=⟨_,rfl⟩
     rw [<-haa] at ev37 ⊢;clear haa;go_simp
    exact ⟨_,Z9 _ _ _ 38 _ rfl,(by rw [Zp hz (by decide),Zp hz (by decide)];exact hS),fun h=>ke2 h0 hz h,fun h=>Zb _ _ _,fun h=>ke2 h2 hz h,fun h=>ke2 h3 hz h,fun h=>ke2 h4 hz h,fun h=>ke2 h5 hz h,fun h=>⟨(Z6 _ _ _ _ (by decide)).trans (h6 (kb h hz)).1,Zh (h6 (kb h hz)).2 hz⟩,fun h=>ke2 h7 hz h,fun h=>ke2 h8 hz h,fun h=>⟨(Z6 _ _ _ _ (by decide)).trans (h9 (kb h hz)).1,Zh (h9 (kb h hz)).2 hz⟩,fun h=>⟨(Z6 _ _ _ _ (by decide)).trans (h10 (kb h hz)).1,Zh (h10 (kb h hz)).2 hz⟩,fun h=>ke2 h11 hz h,fun h=>trivial⟩
   ·skip
    have hz:=hlt 2 (by decide);have ev5:(frame a0 [37,38,39,40,41,42,43,44,45,46,47,48] x).tmps[5]?.getD undef=.pointer (some ⟨b5,0,none⟩):=by have h:=(Zc a0 [37,38,39,40,41,42,43,44,45,46,47,48] x 5 rfl).trans e5;simpa [Act.eval] using h
    refine Z8 rfl rfl (Zd (v:=.pointer (some ⟨b5,1,none⟩)) ?_ ?_)
    ·obtain ⟨aa,haa⟩:∃ aa,aa=frame a0 [37,38,39,40,41,42,43,44,45,46,47,48] x:=⟨_,rfl⟩
     rw [<-haa] at ev5 ⊢;clear haa;go_simp
    exact ⟨_,Z9 _ _ _ 39 _ rfl,(by rw [Zp hz (by decide),Zp hz (by decide)];exact hS),fun h=>ke2 h0 hz h,fun h=>ke2 h1 hz h,fun h=>Zb _ _ _,fun h=>ke2 h3 hz h,fun h=>ke2 h4 hz h,fun h=>ke2 h5 hz h,fun h=>⟨(Z6 _ _ _ _ (by decide)).trans (h6 (kb h hz)).1,Zh (h6 (kb h hz)).2 hz⟩,fun h=>ke2 h7 hz h,fun h=>ke2 h8 hz h,fun h=>⟨(Z6 _ _ _ _ (by decide)).trans (h9 (kb h hz)).1,Zh (h9 (kb h hz)).2 hz⟩,fun h=>⟨(Z6 _ _ _ _ (by decide)).trans (h10 (kb h hz)).1,Zh (h10 (kb h hz)).2 hz⟩,fun h=>ke2 h11 hz h,fun h=>trivial⟩
   ·have d2:=h2 (Z7 hi (by decide))
    have hz:=hlt 3 (by decide);have ev39:(frame a0 [37,38,39,40,41,42,43,44,45,46,47,48] x).tmps[39]?.getD undef=.pointer (some ⟨b5,1,none⟩):=by have h:=(Z4 a0 [37,38,39,40,41,42,43,44,45,46,47,48] x 39 rfl (hsl 39 (by decide))).trans d2;simpa [Act.eval] using h
    refine Z8 rfl rfl (Zd (v:=.int .i64 n.sz) ?_ ?_)
    ·obtain ⟨aa,haa⟩:∃ aa,aa=frame a0 [37,38,39,40,41,42,43,44,45,46,47,48] x:=⟨_,rfl⟩
     rw [<-haa] at ev39 ⊢;clear haa;go_simp
    exact ⟨_,Z9 _ _ _ 40 _ rfl,(by rw [Zp hz (by decide),Zp hz (by decide)];exact hS),fun h=>ke2 h0 hz h,fun h=>ke2 h1 hz h,fun h=>ke2 h2 hz h,fun h=>Zb _ _ _,fun h=>ke2 h4 hz h,fun h=>ke2 h5 hz h,fun h=>⟨(Z6 _ _ _ _ (by decide)).trans (h6 (kb h hz)).1,Zh (h6 (kb h hz)).2 hz⟩,fun h=>ke2 h7 hz h,fun h=>ke2 h8 hz h,fun h=>⟨(Z6 _ _ _ _ (by decide)).trans (h9 (kb h hz)).1,Zh (h9 (kb h hz)).2 hz⟩,fun h=>⟨(Z6 _ _ _ _ (by decide)).trans (h10 (kb h hz)).1,Zh (h10 (kb h hz)).2 hz⟩,fun h=>ke2 h11 hz h,fun h=>trivial⟩
   ·have d3:=h3 (Z7 hi (by decide))
    have hz:=hlt 4 (by decide);have ev40:(frame a0 [37,38,39,40,41,42,43,44,45,46,47,48] x).tmps[40]?.getD undef=.int .i64 n.sz:=by have h:=(Z4 a0 [37,38,39,40,41,42,43,44,45,46,47,48] x 40 rfl (hsl 40 (by decide))).trans d3;simpa [Act.eval] using h
    refine Z8 rfl rfl (Zd (v:=.int .i64 (M:Int)) ?_ ?_)
    ·obtain ⟨aa,haa⟩:∃ aa,aa=frame a0 [37,38,39,40,41,42,43,44,45,46,47,48] x:=⟨_,rfl⟩
     rw [<-haa] at ev40 ⊢;clear haa;go_simp;rw [IntKind.wrap_i64];omega
    exact ⟨_,Z9 _ _ _ 41 _ rfl,(by rw [Zp hz (by decide),Zp hz (by decide)];exact hS),fun h=>ke2 h0 hz h,fun h=>ke2 h1 hz h,fun h=>ke2 h2 hz h,fun h=>ke2 h3 hz h,fun h=>Zb _ _ _,fun h=>ke2 h5 hz h,fun h=>⟨(Z6 _ _ _ _ (by decide)).trans (h6 (kb h hz)).1,Zh (h6 (kb h hz)).2 hz⟩,fun h=>ke2 h7 hz h,fun h=>ke2 h8 hz h,fun h=>⟨(Z6 _ _ _ _ (by decide)).trans (h9 (kb h hz)).1,Zh (h9 (kb h hz)).2 hz⟩,fun h=>⟨(Z6 _ _ _ _ (by decide)).trans (h10 (kb h hz)).1,Zh (h10 (kb h hz)).2 hz⟩,fun h=>ke2 h11 hz h,fun h=>trivial⟩
   ·have d4:=h4 (Z7 hi (by decide))
    have hz:=hlt 5 (by decide);have ev4:=(Zc a0 [37,38,39,40,41,42,43,44,45,46,47,48] x 4 rfl).trans e4;have ev41:=(Z4 a0 [37,38,39,40,41,42,43,44,45,46,47,48] x 41 rfl (hsl 41 (by decide))).trans d4;refine Z8 rfl rfl (Y4 (N:=53) rfl (fun _ _=>by go_simp) #[.pointer (some ⟨g,0,none⟩),.int .i64 (M:Int)] (by simp only [List.map_toArray,List.map_cons,List.map_nil,ev4,ev41]) ?_);have hb5:L.getD 5 false=false:=by have h9:=(Zx hsL hi).2;rw [Array.getD_eq_getD_getElem?,h9];rfl
    rw [hb5] at hS;obtain ⟨hb12,hS0⟩:=hS.fst;refine Calls.mono (AkS.pick1 hS0 M hL (by omega) (by omega) (by omega)) ?_;rw [<-Hp.out];rintro e w2 ⟨rfl,hd⟩;refine ⟨_,rfl,?_⟩;exact ⟨_,Z9 _ _ _ 42 _ rfl,(by rw [Yo hz,Zp hz (by decide),hb12];exact hd),fun h=>ke2 h0 hz h,fun h=>ke2 h1 hz h,fun h=>ke2 h2 hz h,fun h=>ke2 h3 hz h,fun h=>ke2 h4 hz h,fun h=>Zb _ _ _,fun h=>⟨(Z6 _ _ _ _ (by decide)).trans (h6 (kb h hz)).1,Zh (h6 (kb h hz)).2 hz⟩,fun h=>ke2 h7 hz h,fun h=>ke2 h8 hz h,fun h=>⟨(Z6 _ _ _ _ (by decide)).trans (h9 (kb h hz)).1,Zh (h9 (kb h hz)).2 hz⟩,fun h=>⟨(Z6 _ _ _ _ (by decide)).trans (h10 (kb h hz)).1,Zh (h10 (kb h hz)).2 hz⟩,fun h=>ke2 h11 hz h,fun h=>trivial⟩
   ·have d1:=h1 (Z7 hi (by decide))
    have d5:=h5 (Z7 hi (by decide));have hz:=hlt 6 (by decide);have ev38:(frame a0 [37,38,39,40,41,42,43,44,45,46,47,48] x).tmps[38]?.getD undef=.int .i64 n.id:=by have h:=(Z4 a0 [37,38,39,40,41,42,43,44,45,46,47,48] x 38 rfl (hsl 38 (by decide))).trans d1;simpa [Act.eval] using h
    have ev42:(frame a0 [37,38,39,40,41,42,43,44,45,46,47,48] x).tmps[42]?.getD undef=.int .i64 (p:Int):=by have h:=(Z4 a0 [37,38,39,40,41,42,43,44,45,46,47,48] x 42 rfl (hsl 42 (by decide))).trans d5;simpa [Act.eval] using h
    refine Z8 rfl rfl (Zd (v:=.int .i64 (n.id+(p:Int))) ?_ ?_)
    ·obtain ⟨aa,haa⟩:∃ aa,aa=frame a0 [37,38,39,40,41,42,43,44,45,46,47,48] x:=⟨_,rfl⟩
     rw [<-haa] at ev38 ev42 ⊢;clear haa;go_simp;rw [IntKind.wrap_i64];omega
    exact ⟨_,Z9 _ _ _ 43 _ rfl,(by rw [Zp hz (by decide),Zp hz (by decide)];exact hS),fun h=>ke2 h0 hz h,fun h=>ke2 h1 hz h,fun h=>ke2 h2 hz h,fun h=>ke2 h3 hz h,fun h=>ke2 h4 hz h,fun h=>ke2 h5 hz h,fun h=>⟨Zb _ _ _,Zh (Z7 hi (j:=5) (by decide)) hz⟩,fun h=>ke2 h7 hz h,fun h=>ke2 h8 hz h,fun h=>⟨(Z6 _ _ _ _ (by decide)).trans (h9 (kb h hz)).1,Zh (h9 (kb h hz)).2 hz⟩,fun h=>⟨(Z6 _ _ _ _ (by decide)).trans (h10 (kb h hz)).1,Zh (h10 (kb h hz)).2 hz⟩,fun h=>ke2 h11 hz h,fun h=>trivial⟩
   ·skip
    have hz:=hlt 7 (by decide);have ev5:(frame a0 [37,38,39,40,41,42,43,44,45,46,47,48] x).tmps[5]?.getD undef=.pointer (some ⟨b5,0,none⟩):=by have h:=(Zc a0 [37,38,39,40,41,42,43,44,45,46,47,48] x 5 rfl).trans e5;simpa [Act.eval] using h
    refine Z8 rfl rfl (Zd (v:=.pointer (some ⟨b5,1,none⟩)) ?_ ?_)
    ·obtain ⟨aa,haa⟩:∃ aa,aa=frame a0 [37,38,39,40,41,42,43,44,45,46,47,48] x:=⟨_,rfl⟩
     rw [<-haa] at ev5 ⊢;clear haa;go_simp
    exact ⟨_,Z9 _ _ _ 44 _ rfl,(by rw [Zp hz (by decide),Zp hz (by decide)];exact hS),fun h=>ke2 h0 hz h,fun h=>ke2 h1 hz h,fun h=>ke2 h2 hz h,fun h=>ke2 h3 hz h,fun h=>ke2 h4 hz h,fun h=>ke2 h5 hz h,fun h=>⟨(Z6 _ _ _ _ (by decide)).trans (h6 (kb h hz)).1,Zh (h6 (kb h hz)).2 hz⟩,fun h=>Zb _ _ _,fun h=>ke2 h8 hz h,fun h=>⟨(Z6 _ _ _ _ (by decide)).trans (h9 (kb h hz)).1,Zh (h9 (kb h hz)).2 hz⟩,fun h=>⟨(Z6 _ _ _ _ (by decide)).trans (h10 (kb h hz)).1,Zh (h10 (kb h hz)).2 hz⟩,fun h=>ke2 h11 hz h,fun h=>trivial⟩
   ·have d7:=h7 (Z7 hi (by decide))
    have hz:=hlt 8 (by decide);have ev44:(frame a0 [37,38,39,40,41,42,43,44,45,46,47,48] x).tmps[44]?.getD undef=.pointer (some ⟨b5,1,none⟩):=by have h:=(Z4 a0 [37,38,39,40,41,42,43,44,45,46,47,48] x 44 rfl (hsl 44 (by decide))).trans d7;simpa [Act.eval] using h
    refine Z8 rfl rfl (Zd (v:=.int .i64 n.sz) ?_ ?_)
    ·obtain ⟨aa,haa⟩:∃ aa,aa=frame a0 [37,38,39,40,41,42,43,44,45,46,47,48] x:=⟨_,rfl⟩
     rw [<-haa] at ev44 ⊢;clear haa;go_simp
    exact ⟨_,Z9 _ _ _ 45 _ rfl,(by rw [Zp hz (by decide),Zp hz (by decide)];exact hS),fun h=>ke2 h0 hz h,fun h=>ke2 h1 hz h,fun h=>ke2 h2 hz h,fun h=>ke2 h3 hz h,fun h=>ke2 h4 hz h,fun h=>ke2 h5 hz h,fun h=>⟨(Z6 _ _ _ _ (by decide)).trans (h6 (kb h hz)).1,Zh (h6 (kb h hz)).2 hz⟩,fun h=>ke2 h7 hz h,fun h=>Zb _ _ _,fun h=>⟨(Z6 _ _ _ _ (by decide)).trans (h9 (kb h hz)).1,Zh (h9 (kb h hz)).2 hz⟩,fun h=>⟨(Z6 _ _ _ _ (by decide)).trans (h10 (kb h hz)).1,Zh (h10 (kb h hz)).2 hz⟩,fun h=>ke2 h11 hz h,fun h=>trivial⟩
   ·have d6:=h6 (Z7 hi (by decide))
    have d8:=h8 (Z7 hi (by decide));have hz:=hlt 9 (by decide);have ev43:(frame a0 [37,38,39,40,41,42,43,44,45,46,47,48] x).tmps[43]?.getD undef=.int .i64 (n.id+(p:Int)):=by have h:=(Z4 a0 [37,38,39,40,41,42,43,44,45,46,47,48] x 43 rfl (hsl 43 (by decide))).trans d6.1;simpa [Act.eval] using h
    have ev45:(frame a0 [37,38,39,40,41,42,43,44,45,46,47,48] x).tmps[45]?.getD undef=.int .i64 n.sz:=by have h:=(Z4 a0 [37,38,39,40,41,42,43,44,45,46,47,48] x 45 rfl (hsl 45 (by decide))).trans d8;simpa [Act.eval] using h
    refine Z8 rfl rfl (Zd (v:=.int .i64 y) ?_ ?_)
    ·obtain ⟨aa,haa⟩:∃ aa,aa=frame a0 [37,38,39,40,41,42,43,44,45,46,47,48] x:=⟨_,rfl⟩
     rw [<-haa] at ev43 ev45 ⊢;clear haa;go_simp
    exact ⟨_,Z9 _ _ _ 46 _ rfl,(by rw [Zp hz (by decide),Zp hz (by decide)];exact hS),fun h=>ke2 h0 hz h,fun h=>ke2 h1 hz h,fun h=>ke2 h2 hz h,fun h=>ke2 h3 hz h,fun h=>ke2 h4 hz h,fun h=>ke2 h5 hz h,fun h=>⟨(Z6 _ _ _ _ (by decide)).trans (h6 (kb h hz)).1,Zh (h6 (kb h hz)).2 hz⟩,fun h=>ke2 h7 hz h,fun h=>ke2 h8 hz h,fun h=>⟨Zb _ _ _,Zh d6.2 hz⟩,fun h=>⟨(Z6 _ _ _ _ (by decide)).trans (h10 (kb h hz)).1,Zh (h10 (kb h hz)).2 hz⟩,fun h=>ke2 h11 hz h,fun h=>trivial⟩
   ·have d9:=h9 (Z7 hi (by decide))
    have hz:=hlt 10 (by decide);have ev46:(frame a0 [37,38,39,40,41,42,43,44,45,46,47,48] x).tmps[46]?.getD undef=.int .i64 y:=by have h:=(Z4 a0 [37,38,39,40,41,42,43,44,45,46,47,48] x 46 rfl (hsl 46 (by decide))).trans d9.1;simpa [Act.eval] using h
    refine Z8 rfl rfl (Zd (v:=.int .i64 (1+y)) ?_ ?_)
    ·obtain ⟨aa,haa⟩:∃ aa,aa=frame a0 [37,38,39,40,41,42,43,44,45,46,47,48] x:=⟨_,rfl⟩
     rw [<-haa] at ev46 ⊢;clear haa;go_simp;rw [IntKind.wrap_i64];omega
    exact ⟨_,Z9 _ _ _ 47 _ rfl,(by rw [Zp hz (by decide),Zp hz (by decide)];exact hS),fun h=>ke2 h0 hz h,fun h=>ke2 h1 hz h,fun h=>ke2 h2 hz h,fun h=>ke2 h3 hz h,fun h=>ke2 h4 hz h,fun h=>ke2 h5 hz h,fun h=>⟨(Z6 _ _ _ _ (by decide)).trans (h6 (kb h hz)).1,Zh (h6 (kb h hz)).2 hz⟩,fun h=>ke2 h7 hz h,fun h=>ke2 h8 hz h,fun h=>⟨(Z6 _ _ _ _ (by decide)).trans (h9 (kb h hz)).1,Zh (h9 (kb h hz)).2 hz⟩,fun h=>⟨Zb _ _ _,Zh d9.2 hz⟩,fun h=>ke2 h11 hz h,fun h=>trivial⟩
   ·skip
    have hz:=hlt 11 (by decide);have ev6:(frame a0 [37,38,39,40,41,42,43,44,45,46,47,48] x).tmps[6]?.getD undef=.pointer (some ⟨b6,0,none⟩):=by have h:=(Zc a0 [37,38,39,40,41,42,43,44,45,46,47,48] x 6 rfl).trans e6;simpa [Act.eval] using h
    refine Z8 rfl rfl (Zd (v:=.pointer (some ⟨b6,1,none⟩)) ?_ ?_)
    ·obtain ⟨aa,haa⟩:∃ aa,aa=frame a0 [37,38,39,40,41,42,43,44,45,46,47,48] x:=⟨_,rfl⟩
     rw [<-haa] at ev6 ⊢;clear haa;go_simp
    exact ⟨_,Z9 _ _ _ 48 _ rfl,(by rw [Zp hz (by decide),Zp hz (by decide)];exact hS),fun h=>ke2 h0 hz h,fun h=>ke2 h1 hz h,fun h=>ke2 h2 hz h,fun h=>ke2 h3 hz h,fun h=>ke2 h4 hz h,fun h=>ke2 h5 hz h,fun h=>⟨(Z6 _ _ _ _ (by decide)).trans (h6 (kb h hz)).1,Zh (h6 (kb h hz)).2 hz⟩,fun h=>ke2 h7 hz h,fun h=>ke2 h8 hz h,fun h=>⟨(Z6 _ _ _ _ (by decide)).trans (h9 (kb h hz)).1,Zh (h9 (kb h hz)).2 hz⟩,fun h=>⟨(Z6 _ _ _ _ (by decide)).trans (h10 (kb h hz)).1,Zh (h10 (kb h hz)).2 hz⟩,fun h=>Zb _ _ _,fun h=>trivial⟩
   ·have d10:=h10 (Z7 hi (by decide))
    have d11:=h11 (Z7 hi (by decide));have hz:=hlt 12 (by decide);have hb12:L.getD 12 false=false:=by have h9:=(Zx hsL hi).2;rw [Array.getD_eq_getD_getElem?,h9];rfl
    have evp:=(Z4 a0 [37,38,39,40,41,42,43,44,45,46,47,48] x 48 rfl (hsl 48 (by decide))).trans d11;have evs:=(Z4 a0 [37,38,39,40,41,42,43,44,45,46,47,48] x 47 rfl (hsl 47 (by decide))).trans d10.1;have ha5:L.getD 5 false=true:=d10.2;rw [ha5,hb12] at hS;refine Z8 rfl rfl (Z27 (.tmp 48) (.tmp 47) rfl evp evs ((AkS.mb hS).cell 1) ((AkS.mb hS).free 1) rfl ?_);exact ⟨_,rfl,(by rw [Zp hz (by decide),ha5,Yo hz];exact AkS.set hS 1 (by omega) _ rfl),fun h=>ku2 h0 hz h,fun h=>ku2 h1 hz h,fun h=>ku2 h2 hz h,fun h=>ku2 h3 hz h,fun h=>ku2 h4 hz h,fun h=>ku2 h5 hz h,fun h=>⟨(h6 (kb h hz)).1,Zh (h6 (kb h hz)).2 hz⟩,fun h=>ku2 h7 hz h,fun h=>ku2 h8 hz h,fun h=>⟨(h9 (kb h hz)).1,Zh (h9 (kb h hz)).2 hz⟩,fun h=>⟨(h10 (kb h hz)).1,Zh (h10 (kb h hz)).2 hz⟩,fun h=>ku2 h11 hz h,fun h=>trivial⟩
  ·rintro L a w' hsL hr ⟨x,rfl,hS,h0,h1,h2,h3,h4,h5,h6,h7,h8,h9,h10,h11,h12⟩
   have hall:=Yq hsL hr (by decide);replace h0:=h0 (hall 0 (by decide));replace h1:=h1 (hall 1 (by decide));replace h2:=h2 (hall 2 (by decide));replace h3:=h3 (hall 3 (by decide));replace h4:=h4 (hall 4 (by decide));replace h5:=h5 (hall 5 (by decide));replace h6:=h6 (hall 6 (by decide));replace h7:=h7 (hall 7 (by decide));replace h8:=h8 (hall 8 (by decide));replace h9:=h9 (hall 9 (by decide));replace h10:=h10 (hall 10 (by decide));replace h11:=h11 (hall 11 (by decide));replace h12:=h12 (hall 12 (by decide));rw [hall 5 (by decide),hall 12 (by decide)] at hS;exact ⟨rfl,x,rfl,hS⟩
 ·rintro a' w' ⟨x,rfl,hFin⟩
  exact hP _ _ (hF.frame _ _) ((Zc a [37,38,39,40,41,42,43,44,45,46,47,48] x 2 rfl).trans h2) ((Zc a [37,38,39,40,41,42,43,44,45,46,47,48] x 3 rfl).trans h3) ((Zc a [37,38,39,40,41,42,43,44,45,46,47,48] x 4 rfl).trans h4) ((Zc a [37,38,39,40,41,42,43,44,45,46,47,48] x 5 rfl).trans h5) ((Zc a [37,38,39,40,41,42,43,44,45,46,47,48] x 6 rfl).trans h6) hFin
theorem da9 {W:World}{g b2 b3 b5 b6 k:Nat}{v:Value}{l:List Int}{n:Nd}{xr:RV}{m:Mg}{ve:Value}{Q:Exit->Act->World->Prop}{K:Act->World->Prop}{a:Act}{w:World}(hF:SzD a 83)(h2:a.eval (.tmp 2)=.pointer (some ⟨b2,0,none⟩))(h3:a.eval (.tmp 3)=.pointer (some ⟨b3,0,none⟩))(h4:a.eval (.tmp 4)=.pointer (some ⟨g,0,none⟩))(h5:a.eval (.tmp 5)=.pointer (some ⟨b5,0,none⟩))(h6:a.eval (.tmp 6)=.pointer (some ⟨b6,0,none⟩))(hS:AkS W g v l b5 b6 w k n xr m ve)(hP:∀ a' w',SzD a' 83->a'.eval (.tmp 2)=.pointer (some ⟨b2,0,none⟩)->a'.eval (.tmp 3)=.pointer (some ⟨b3,0,none⟩)->a'.eval (.tmp 4)=.pointer (some ⟨g,0,none⟩)->a'.eval (.tmp 5)=.pointer (some ⟨b5,0,none⟩)->a'.eval (.tmp 6)=.pointer (some ⟨b6,0,none⟩)->AkS W g v l b5 b6 w' k n xr { m with cm:=0 } ve->K a' w'):(Z1 8 (Z3 Tryz.f20)).wp Tryz.prog (Exit.then K Q) a w:=by
 obtain ⟨t,rfl⟩:=hF.opened;clear hF;rw [Z40]
 try dsimp only
 rw [show t 2=_ from h2,show t 3=_ from h3,show t 4=_ from h4,show t 5=_ from h5,show t 6=_ from h6];clear h2 h3 h4 h5 h6;have m6:w.cell? ⟨b6,6,none⟩=some (.int .i64 m.cm):=hS.mb.cell 6;have f6:w.frozen? ⟨b6,6,none⟩=false:=hS.mb.free 6;have HS:Hid (AkS W g v l b5 b6 w k n xr m ve):=hS;clear hS
 conv=>arg 2;whnf
 go_wp2_with fail
 exact hP _ _ ⟨rfl,rfl⟩ rfl rfl rfl rfl rfl (HS.out.set 6 (by omega) _ rfl)
theorem da10 {W:World}{g b2 b3 b5 b6 k:Nat}{v:Value}{l:List Int}{n:Nd}{xr:RV}{m:Mg}{ve:Value}{Q:Exit->Act->World->Prop}{K:Act->World->Prop}{a:Act}{w:World}(hF:SzD a 83)(h2:a.eval (.tmp 2)=.pointer (some ⟨b2,0,none⟩))(h3:a.eval (.tmp 3)=.pointer (some ⟨b3,0,none⟩))(h4:a.eval (.tmp 4)=.pointer (some ⟨g,0,none⟩))(h5:a.eval (.tmp 5)=.pointer (some ⟨b5,0,none⟩))(h6:a.eval (.tmp 6)=.pointer (some ⟨b6,0,none⟩))(hS:AkS W g v l b5 b6 w k n xr m ve)(hP:∀ a' w',SzD a' 83->a'.eval (.tmp 2)=.pointer (some ⟨b2,0,none⟩)->a'.eval (.tmp 3)=.pointer (some ⟨b3,0,none⟩)->a'.eval (.tmp 4)=.pointer (some ⟨g,0,none⟩)->a'.eval (.tmp 5)=.pointer (some ⟨b5,0,none⟩)->a'.eval (.tmp 6)=.pointer (some ⟨b6,0,none⟩)->AkS W g v l b5 b6 w' k n xr { m with ok:=0 } ve->K a' w'):(Z1 9 (Z3 Tryz.f20)).wp Tryz.prog (Exit.then K Q) a w:=by
 obtain ⟨t,rfl⟩:=hF.opened;clear hF;rw [Z40]
 try dsimp only
 rw [show t 2=_ from h2,show t 3=_ from h3,show t 4=_ from h4,show t 5=_ from h5,show t 6=_ from h6];clear h2 h3 h4 h5 h6;have m7:w.cell? ⟨b6,7,none⟩=some (.int .i64 m.ok):=hS.mb.cell 7;have f7:w.frozen? ⟨b6,7,none⟩=false:=hS.mb.free 7;have HS:Hid (AkS W g v l b5 b6 w k n xr m ve):=hS;clear hS
 conv=>arg 2;whnf
 go_wp2_with fail
 exact hP _ _ ⟨rfl,rfl⟩ rfl rfl rfl rfl rfl (HS.out.set 7 (by omega) _ rfl)
theorem da11 {W:World}{g b2 b3 b5 b6 k:Nat}{v:Value}{l:List Int}{n:Nd}{xr:RV}{m:Mg}{ve:Value}{Q:Exit->Act->World->Prop}{K:Act->World->Prop}{a:Act}{w:World}(hF:SzD a 83)(h2:a.eval (.tmp 2)=.pointer (some ⟨b2,0,none⟩))(h3:a.eval (.tmp 3)=.pointer (some ⟨b3,0,none⟩))(h4:a.eval (.tmp 4)=.pointer (some ⟨g,0,none⟩))(h5:a.eval (.tmp 5)=.pointer (some ⟨b5,0,none⟩))(h6:a.eval (.tmp 6)=.pointer (some ⟨b6,0,none⟩))(hS:AkS W g v l b5 b6 w k n xr m ve)(hP:∀ a' w',SzD a' 83->a'.eval (.tmp 2)=.pointer (some ⟨b2,0,none⟩)->a'.eval (.tmp 3)=.pointer (some ⟨b3,0,none⟩)->a'.eval (.tmp 4)=.pointer (some ⟨g,0,none⟩)->a'.eval (.tmp 5)=.pointer (some ⟨b5,0,none⟩)->a'.eval (.tmp 6)=.pointer (some ⟨b6,0,none⟩)->AkS W g v l b5 b6 w' k n xr { m with hi:=0 } ve->K a' w'):(Z1 10 (Z3 Tryz.f20)).wp Tryz.prog (Exit.then K Q) a w:=by
 obtain ⟨t,rfl⟩:=hF.opened;clear hF;rw [Z40]
 try dsimp only
 rw [show t 2=_ from h2,show t 3=_ from h3,show t 4=_ from h4,show t 5=_ from h5,show t 6=_ from h6];clear h2 h3 h4 h5 h6;have m8:w.cell? ⟨b6,8,none⟩=some (.int .i64 m.hi):=hS.mb.cell 8;have f8:w.frozen? ⟨b6,8,none⟩=false:=hS.mb.free 8;have HS:Hid (AkS W g v l b5 b6 w k n xr m ve):=hS;clear hS
 conv=>arg 2;whnf
 go_wp2_with fail
 exact hP _ _ ⟨rfl,rfl⟩ rfl rfl rfl rfl rfl (HS.out.set 8 (by omega) _ rfl)
theorem da12 {W:World}{g b2 b3 b5 b6 k:Nat}{v:Value}{l:List Int}{n:Nd}{xr:RV}{m:Mg}{ve:Value}(hve:∃ a c,ve=.slice a m.es.length c){Q:Exit->Act->World->Prop}{K:Act->World->Prop}{a:Act}{w:World}(hF:SzD a 83)(h2:a.eval (.tmp 2)=.pointer (some ⟨b2,0,none⟩))(h3:a.eval (.tmp 3)=.pointer (some ⟨b3,0,none⟩))(h4:a.eval (.tmp 4)=.pointer (some ⟨g,0,none⟩))(h5:a.eval (.tmp 5)=.pointer (some ⟨b5,0,none⟩))(h6:a.eval (.tmp 6)=.pointer (some ⟨b6,0,none⟩))(hS:AkS W g v l b5 b6 w k n xr m ve)(hP:∀ a' w',SzD a' 83->a'.eval (.tmp 2)=.pointer (some ⟨b2,0,none⟩)->a'.eval (.tmp 3)=.pointer (some ⟨b3,0,none⟩)->a'.eval (.tmp 4)=.pointer (some ⟨g,0,none⟩)->a'.eval (.tmp 5)=.pointer (some ⟨b5,0,none⟩)->a'.eval (.tmp 6)=.pointer (some ⟨b6,0,none⟩)->AkS W g v l b5 b6 w' k n xr { m with es:=[] } (.slice none 0 0)->K a' w'):(Z1 11 (Z3 Tryz.f20)).wp Tryz.prog (Exit.then K Q) a w:=by
 obtain ⟨t,rfl⟩:=hF.opened;clear hF;rw [Z40]
 try dsimp only
 rw [show t 2=_ from h2,show t 3=_ from h3,show t 4=_ from h4,show t 5=_ from h5,show t 6=_ from h6];clear h2 h3 h4 h5 h6;obtain ⟨ea,ec,hv⟩:=hve;have m9:w.cell? ⟨b6,9,none⟩=some (.slice ea m.es.length ec):=by rw [<-hv];exact hS.mb.cell 9
 have f9:w.frozen? ⟨b6,9,none⟩=false:=hS.mb.free 9;have HS:Hid (AkS W g v l b5 b6 w k n xr m ve):=hS;clear hS;clear hv
 conv=>arg 2;whnf
 go_wp2_with fail
 exact hP _ _ ⟨rfl,rfl⟩ rfl rfl rfl rfl rfl HS.out.bare
theorem da13 {W:World}{g b2 b3 b5 b6 k:Nat}{v:Value}{l:List Int}{n:Nd}{xr:RV}{m:Mg}{ve:Value}{Q:Exit->Act->World->Prop}{K:Act->World->Prop}{a:Act}{w:World}(hF:SzD a 83)(h2:a.eval (.tmp 2)=.pointer (some ⟨b2,0,none⟩))(h3:a.eval (.tmp 3)=.pointer (some ⟨b3,0,none⟩))(h4:a.eval (.tmp 4)=.pointer (some ⟨g,0,none⟩))(h5:a.eval (.tmp 5)=.pointer (some ⟨b5,0,none⟩))(h6:a.eval (.tmp 6)=.pointer (some ⟨b6,0,none⟩))(hS:AkS W g v l b5 b6 w k n xr m ve)(hP:∀ a' w',SzD a' 83->a'.eval (.tmp 2)=.pointer (some ⟨b2,0,none⟩)->a'.eval (.tmp 3)=.pointer (some ⟨b3,0,none⟩)->a'.eval (.tmp 4)=.pointer (some ⟨g,0,none⟩)->a'.eval (.tmp 5)=.pointer (some ⟨b5,0,none⟩)->a'.eval (.tmp 6)=.pointer (some ⟨b6,0,none⟩)->a'.eval (.tmp 60)=.bool (decide (m.lt=0∨m.li=0))->AkS W g v l b5 b6 w' k n xr m ve->K a' w'):(Z1 0 (Z1 12 (Z3 Tryz.f20))).wp Tryz.prog (Exit.then K Q) a w:=by
 obtain ⟨t,rfl⟩:=hF.opened;clear hF;rw [Z40]
 try dsimp only
 rw [show t 2=_ from h2,show t 3=_ from h3,show t 4=_ from h4,show t 5=_ from h5,show t 6=_ from h6];clear h2 h3 h4 h5 h6;obtain ⟨A,hA⟩:∃ q,q=m.lt:=⟨_,rfl⟩;obtain ⟨B,hB⟩:∃ q,q=m.li:=⟨_,rfl⟩;have m5:w.cell? ⟨b6,5,none⟩=some (.int .i64 A):=by rw [hA];exact hS.mb.cell 5
 have m4:w.cell? ⟨b6,4,none⟩=some (.int .i64 B):=by rw [hB];exact hS.mb.cell 4
 rw [<-hA,<-hB] at hP;have HS:Hid (AkS W g v l b5 b6 w k n xr m ve):=hS;clear hS hA hB
 conv=>arg 2;whnf
 by_cases g1:A=0
 ·go_wp2_with fail
  exact hP _ _ ⟨rfl,rfl⟩ rfl rfl rfl rfl rfl (by simp [Act.eval,g1]) HS.out
 ·by_cases g2:B=0
  ·go_wp2_with fail
   exact hP _ _ ⟨rfl,rfl⟩ rfl rfl rfl rfl rfl (by simp [Act.eval,g2]) HS.out
  ·go_wp2_with fail
   exact hP _ _ ⟨rfl,rfl⟩ rfl rfl rfl rfl rfl (by simp [Act.eval,g1,g2]) HS.out
theorem da14 {W:World}{g b2 b3 b5 b6 k:Nat}{v:Value}{l:List Int}{n:Nd}{xr:RV}{m:Mg}{ve:Value}{Q:Exit->Act->World->Prop}{K:Act->World->Prop}{a:Act}{w:World}(hF:SzD a 83)(h2:a.eval (.tmp 2)=.pointer (some ⟨b2,0,none⟩))(h3:a.eval (.tmp 3)=.pointer (some ⟨b3,0,none⟩))(h4:a.eval (.tmp 4)=.pointer (some ⟨g,0,none⟩))(h5:a.eval (.tmp 5)=.pointer (some ⟨b5,0,none⟩))(h6:a.eval (.tmp 6)=.pointer (some ⟨b6,0,none⟩))(hS:AkS W g v l b5 b6 w k n xr m ve)(hP:∀ a' w',SzD a' 83->a'.eval (.tmp 2)=.pointer (some ⟨b2,0,none⟩)->a'.eval (.tmp 3)=.pointer (some ⟨b3,0,none⟩)->a'.eval (.tmp 4)=.pointer (some ⟨g,0,none⟩)->a'.eval (.tmp 5)=.pointer (some ⟨b5,0,none⟩)->a'.eval (.tmp 6)=.pointer (some ⟨b6,0,none⟩)->AkS W g v l b5 b6 w' k n xr { m with lt:=0 } ve->K a' w'):(Z1 0 (Zj (Z2 1 (Z1 12 (Z3 Tryz.f20))))).wp Tryz.prog (Exit.then K Q) a w:=by
 obtain ⟨t,rfl⟩:=hF.opened;clear hF;rw [Z40]
 try dsimp only
 rw [show t 2=_ from h2,show t 3=_ from h3,show t 4=_ from h4,show t 5=_ from h5,show t 6=_ from h6];clear h2 h3 h4 h5 h6;have m5:w.cell? ⟨b6,5,none⟩=some (.int .i64 m.lt):=hS.mb.cell 5;have f5:w.frozen? ⟨b6,5,none⟩=false:=hS.mb.free 5;have HS:Hid (AkS W g v l b5 b6 w k n xr m ve):=hS;clear hS
 conv=>arg 2;whnf
 go_wp2_with fail
 exact hP _ _ ⟨rfl,rfl⟩ rfl rfl rfl rfl rfl (HS.out.set 5 (by omega) _ rfl)
theorem da15 {W:World}{g b2 b3 b5 b6 k:Nat}{v:Value}{l:List Int}{n:Nd}{xr:RV}{m:Mg}{ve:Value}{Q:Exit->Act->World->Prop}{K:Act->World->Prop}{a:Act}{w:World}(hF:SzD a 83)(h2:a.eval (.tmp 2)=.pointer (some ⟨b2,0,none⟩))(h3:a.eval (.tmp 3)=.pointer (some ⟨b3,0,none⟩))(h4:a.eval (.tmp 4)=.pointer (some ⟨g,0,none⟩))(h5:a.eval (.tmp 5)=.pointer (some ⟨b5,0,none⟩))(h6:a.eval (.tmp 6)=.pointer (some ⟨b6,0,none⟩))(hS:AkS W g v l b5 b6 w k n xr m ve)(hP:∀ a' w',SzD a' 83->a'.eval (.tmp 2)=.pointer (some ⟨b2,0,none⟩)->a'.eval (.tmp 3)=.pointer (some ⟨b3,0,none⟩)->a'.eval (.tmp 4)=.pointer (some ⟨g,0,none⟩)->a'.eval (.tmp 5)=.pointer (some ⟨b5,0,none⟩)->a'.eval (.tmp 6)=.pointer (some ⟨b6,0,none⟩)->AkS W g v l b5 b6 w' k n xr { m with li:=0 } ve->K a' w'):(Z2 1 (Zj (Z2 1 (Z1 12 (Z3 Tryz.f20))))).wp Tryz.prog (Exit.then K Q) a w:=by
 obtain ⟨t,rfl⟩:=hF.opened;clear hF;rw [Z40]
 try dsimp only
 rw [show t 2=_ from h2,show t 3=_ from h3,show t 4=_ from h4,show t 5=_ from h5,show t 6=_ from h6];clear h2 h3 h4 h5 h6;have m4:w.cell? ⟨b6,4,none⟩=some (.int .i64 m.li):=hS.mb.cell 4;have f4:w.frozen? ⟨b6,4,none⟩=false:=hS.mb.free 4;have HS:Hid (AkS W g v l b5 b6 w k n xr m ve):=hS;clear hS
 conv=>arg 2;whnf
 go_wp2_with fail
 exact hP _ _ ⟨rfl,rfl⟩ rfl rfl rfl rfl rfl (HS.out.set 4 (by omega) _ rfl)
theorem da16 {W:World}{g b2 b3 b5 b6 k:Nat}{v:Value}{l:List Int}{n:Nd}{xr:RV}{m:Mg}{ve:Value}(hL:l.length<=1048576)(hk:k<=890000000){Q:Exit->Act->World->Prop}{K:Act->World->Prop}{a:Act}{w:World}(hF:SzD a 83)(h2:a.eval (.tmp 2)=.pointer (some ⟨b2,0,none⟩))(h3:a.eval (.tmp 3)=.pointer (some ⟨b3,0,none⟩))(h4:a.eval (.tmp 4)=.pointer (some ⟨g,0,none⟩))(h5:a.eval (.tmp 5)=.pointer (some ⟨b5,0,none⟩))(h6:a.eval (.tmp 6)=.pointer (some ⟨b6,0,none⟩))(hS:AkS W g v l b5 b6 w k n xr m ve)(hP:∀ a' w',SzD a' 83->a'.eval (.tmp 2)=.pointer (some ⟨b2,0,none⟩)->a'.eval (.tmp 3)=.pointer (some ⟨b3,0,none⟩)->a'.eval (.tmp 4)=.pointer (some ⟨g,0,none⟩)->a'.eval (.tmp 5)=.pointer (some ⟨b5,0,none⟩)->a'.eval (.tmp 6)=.pointer (some ⟨b6,0,none⟩)->a'.eval (.tmp 64)=.bool (decide (Z5 l k 3=0))->AkS W g v l b5 b6 w' (k+1) n xr m ve->K a' w'):(Z1 0 (Z1 13 (Z3 Tryz.f20))).wp Tryz.prog (Exit.then K Q) a w:=by
 obtain ⟨t,rfl⟩:=hF.opened;clear hF;rw [Z40]
 try dsimp only
 rw [show t 2=_ from h2,show t 3=_ from h3,show t 4=_ from h4,show t 5=_ from h5,show t 6=_ from h6];clear h2 h3 h4 h5 h6;have HS:Hid (AkS W g v l b5 b6 w k n xr m ve):=hS;clear hS;obtain ⟨p,hp⟩:∃ p,p=Z5 l k 3:=⟨_,rfl⟩;have Hp:Hid (p=Z5 l k 3):=hp;rw [<-hp] at hP;have bp:p<3:=by rw [hp];exact Zf _ _ _ (by omega)
 clear hp
 conv=>arg 2;whnf
 go_wp2_with (go_at_call 53;go_loud (refine (HS.out.pick1 3 hL (by omega) (by omega) (by omega)).mono ?_;rw [<-Hp.out];rintro r w9 ⟨rfl,hd⟩;have HS9:Hid (AkS W g v l b5 b6 w9 (k+1) n xr m ve):=hd;clear hd))
 exact hP _ _ ⟨rfl,rfl⟩ rfl rfl rfl rfl rfl (by simp [Act.eval,beq0]) HS9.out
theorem da17 {W:World}{g b2 b3 b5 b6 k:Nat}{v:Value}{l:List Int}{n:Nd}{xr:RV}{m:Mg}{ve:Value}(hL:l.length<=1048576)(hk:k<=890000000)(htm:0<=n.tm/\n.tm<=1073741824){Q:Exit->Act->World->Prop}{K:Act->World->Prop}{a:Act}{w:World}(hF:SzD a 83)(h2:a.eval (.tmp 2)=.pointer (some ⟨b2,0,none⟩))(h3:a.eval (.tmp 3)=.pointer (some ⟨b3,0,none⟩))(h4:a.eval (.tmp 4)=.pointer (some ⟨g,0,none⟩))(h5:a.eval (.tmp 5)=.pointer (some ⟨b5,0,none⟩))(h6:a.eval (.tmp 6)=.pointer (some ⟨b6,0,none⟩))(hS:AkS W g v l b5 b6 w k n xr m ve)(hP:∀ a' w',SzD a' 83->a'.eval (.tmp 2)=.pointer (some ⟨b2,0,none⟩)->a'.eval (.tmp 3)=.pointer (some ⟨b3,0,none⟩)->a'.eval (.tmp 4)=.pointer (some ⟨g,0,none⟩)->a'.eval (.tmp 5)=.pointer (some ⟨b5,0,none⟩)->a'.eval (.tmp 6)=.pointer (some ⟨b6,0,none⟩)->AkS W g v l b5 b6 w' (k+1) n xr { m with tm:=min (n.tm+1+((Z5 l k 3:Nat):Int)) 1073741824 } ve->K a' w'):(Z1 0 (Zj (Z2 1 (Z1 13 (Z3 Tryz.f20))))).wp Tryz.prog (Exit.then K Q) a w:=by
 obtain ⟨p,hp⟩:∃ p,p=Z5 l k 3:=⟨_,rfl⟩;have Hp:Hid (p=Z5 l k 3):=hp;rw [<-hp] at hP;have bp:p<3:=by rw [hp];exact Zf _ _ _ (by omega)
 clear hp;obtain ⟨A1,hA1⟩:∃ q,q=min (n.tm+1+(p:Int)) 1073741824:=⟨_,rfl⟩;have H1:Hid (A1=min (n.tm+1+(p:Int)) 1073741824):=hA1;rw [<-hA1] at hP;clear hA1
 conv=>arg 2;whnf
 refine Xg (fun a0=>a0.tmps.size=83/\a0.eval (.tmp 4)=.pointer (some ⟨g,0,none⟩)/\a0.eval (.tmp 5)=.pointer (some ⟨b5,0,none⟩)/\a0.eval (.tmp 6)=.pointer (some ⟨b6,0,none⟩)) (fun a0 aF w'=>∃ x:Nat->Value,aF=frame a0 [65,66,67,68,69,70,71] x/\(AkS W g v l b5 b6 w' (k+1) n xr { m with tm:=A1 } ve)) ?_ ⟨hF.1,h4,h5,h6⟩ ?_
 ·rintro a0 ⟨hsz0,e4,e5,e6⟩
  refine Y7 (by kernel_rfl) (fun L aF w'=>∃ x:Nat->Value,aF=frame a0 [65,66,67,68,69,70,71] x/\(St3 (fun W_=>AkS W g v l b5 b6 W_ k n xr m ve) (fun W_=>AkS W g v l b5 b6 W_ (k+1) n xr m ve) (fun W_=>AkS W g v l b5 b6 W_ (k+1) n xr { m with tm:=A1 } ve)) (L.getD 3 false) (L.getD 7 false) w'/\(L.getD 0 false=true->x 65=.pointer (some ⟨b5,4,none⟩))/\(L.getD 1 false=true->x 66=.int .i64 n.tm)/\(L.getD 2 false=true->x 67=.int .i64 (n.tm+1))/\(L.getD 3 false=true->x 68=.int .i64 (p:Int))/\(L.getD 4 false=true->x 69=.int .i64 (n.tm+1+(p:Int))/\L.getD 3 false=true)/\(L.getD 5 false=true->x 70=.int .i64 A1/\L.getD 3 false=true)/\(L.getD 6 false=true->x 71=.pointer (some ⟨b6,3,none⟩))/\(L.getD 7 false=true->True)) ?_ ?_ ?_
  ·refine ⟨_,Yk a0 [65,66,67,68,69,70,71],?_,fun h=>(Zl h).elim,fun h=>(Zl h).elim,fun h=>(Zl h).elim,fun h=>(Zl h).elim,fun h=>(Zl h).elim,fun h=>(Zl h).elim,fun h=>(Zl h).elim,fun h=>(Zl h).elim⟩
   rw [Z05,Z05];exact hS.drew
  ·rintro L a w' i hsL hi ⟨x,rfl,hS,h0,h1,h2,h3,h4,h5,h6,h7⟩
   have hlt:∀ j,j<8->j<L.size:=fun j hj=>by rw [hsL];exact hj
   have hsl:∀ j,j<83->j<a0.tmps.size:=fun j hj=>by rw [hsz0];exact hj
   have hiL:i<8:=(Zx hsL hi).1;have hLz:L.size=8:=hsL;have hcb54:w'.cell? ⟨b5,4,none⟩=some (.int .i64 n.tm):=by refine St3.any (P:=fun W_=>W_.cell? ⟨b5,4,none⟩=some (.int .i64 n.tm)) ?_ ?_ ?_ hS <;> intro W_ h <;> exact (AkS.ndb h).cell 4
   rcases (show i=0∨i=1∨i=2∨i=3∨i=4∨i=5∨i=6∨i=7 by omega) with rfl | rfl | rfl | rfl | rfl | rfl | rfl | rfl
   ·skip
    have hz:=hlt 0 (by decide);have ev5:(frame a0 [65,66,67,68,69,70,71] x).tmps[5]?.getD undef=.pointer (some ⟨b5,0,none⟩):=by have h:=(Zc a0 [65,66,67,68,69,70,71] x 5 rfl).trans e5;simpa [Act.eval] using h
    refine Z8 rfl rfl (Zd (v:=.pointer (some ⟨b5,4,none⟩)) ?_ ?_)
    ·obtain ⟨aa,haa⟩:∃ aa,aa=frame a0 [65,66,67,68,69,70,71] x:=⟨_,rfl⟩
     rw [<-haa] at ev5 ⊢;clear haa;go_simp
    exact ⟨_,Z9 _ _ _ 65 _ rfl,(by rw [Zp hz (by decide),Zp hz (by decide)];exact hS),fun h=>Zb _ _ _,fun h=>ke2 h1 hz h,fun h=>ke2 h2 hz h,fun h=>ke2 h3 hz h,fun h=>⟨(Z6 _ _ _ _ (by decide)).trans (h4 (kb h hz)).1,Zh (h4 (kb h hz)).2 hz⟩,fun h=>⟨(Z6 _ _ _ _ (by decide)).trans (h5 (kb h hz)).1,Zh (h5 (kb h hz)).2 hz⟩,fun h=>ke2 h6 hz h,fun h=>trivial⟩
   ·have d0:=h0 (Z7 hi (by decide))
    have hz:=hlt 1 (by decide);have ev65:(frame a0 [65,66,67,68,69,70,71] x).tmps[65]?.getD undef=.pointer (some ⟨b5,4,none⟩):=by have h:=(Z4 a0 [65,66,67,68,69,70,71] x 65 rfl (hsl 65 (by decide))).trans d0;simpa [Act.eval] using h
    refine Z8 rfl rfl (Zd (v:=.int .i64 n.tm) ?_ ?_)
    ·obtain ⟨aa,haa⟩:∃ aa,aa=frame a0 [65,66,67,68,69,70,71] x:=⟨_,rfl⟩
     rw [<-haa] at ev65 ⊢;clear haa;go_simp
    exact ⟨_,Z9 _ _ _ 66 _ rfl,(by rw [Zp hz (by decide),Zp hz (by decide)];exact hS),fun h=>ke2 h0 hz h,fun h=>Zb _ _ _,fun h=>ke2 h2 hz h,fun h=>ke2 h3 hz h,fun h=>⟨(Z6 _ _ _ _ (by decide)).trans (h4 (kb h hz)).1,Zh (h4 (kb h hz)).2 hz⟩,fun h=>⟨(Z6 _ _ _ _ (by decide)).trans (h5 (kb h hz)).1,Zh (h5 (kb h hz)).2 hz⟩,fun h=>ke2 h6 hz h,fun h=>trivial⟩
   ·have d1:=h1 (Z7 hi (by decide))
    have hz:=hlt 2 (by decide);have ev66:(frame a0 [65,66,67,68,69,70,71] x).tmps[66]?.getD undef=.int .i64 n.tm:=by have h:=(Z4 a0 [65,66,67,68,69,70,71] x 66 rfl (hsl 66 (by decide))).trans d1;simpa [Act.eval] using h
    refine Z8 rfl rfl (Zd (v:=.int .i64 (n.tm+1)) ?_ ?_)
    ·obtain ⟨aa,haa⟩:∃ aa,aa=frame a0 [65,66,67,68,69,70,71] x:=⟨_,rfl⟩
     rw [<-haa] at ev66 ⊢;clear haa;go_simp;rw [IntKind.wrap_i64];omega
    exact ⟨_,Z9 _ _ _ 67 _ rfl,(by rw [Zp hz (by decide),Zp hz (by decide)];exact hS),fun h=>ke2 h0 hz h,fun h=>ke2 h1 hz h,fun h=>Zb _ _ _,fun h=>ke2 h3 hz h,fun h=>⟨(Z6 _ _ _ _ (by decide)).trans (h4 (kb h hz)).1,Zh (h4 (kb h hz)).2 hz⟩,fun h=>⟨(Z6 _ _ _ _ (by decide)).trans (h5 (kb h hz)).1,Zh (h5 (kb h hz)).2 hz⟩,fun h=>ke2 h6 hz h,fun h=>trivial⟩
   ·skip
    have hz:=hlt 3 (by decide);have ev4:=(Zc a0 [65,66,67,68,69,70,71] x 4 rfl).trans e4;refine Z8 rfl rfl (Y4 (N:=53) rfl (fun _ _=>by go_simp) #[.pointer (some ⟨g,0,none⟩),.int .i64 3] (by simp only [List.map_toArray,List.map_cons,List.map_nil,ev4,Z0w]) ?_);have hb3:L.getD 3 false=false:=by have h9:=(Zx hsL hi).2;rw [Array.getD_eq_getD_getElem?,h9];rfl
    rw [hb3] at hS;obtain ⟨hb7,hS0⟩:=hS.fst;refine Calls.mono (AkS.pick1 hS0 3 hL (by omega) (by omega) (by omega)) ?_;rw [<-Hp.out];rintro e w2 ⟨rfl,hd⟩;refine ⟨_,rfl,?_⟩;exact ⟨_,Z9 _ _ _ 68 _ rfl,(by rw [Yo hz,Zp hz (by decide),hb7];exact hd),fun h=>ke2 h0 hz h,fun h=>ke2 h1 hz h,fun h=>ke2 h2 hz h,fun h=>Zb _ _ _,fun h=>⟨(Z6 _ _ _ _ (by decide)).trans (h4 (kb h hz)).1,Zh (h4 (kb h hz)).2 hz⟩,fun h=>⟨(Z6 _ _ _ _ (by decide)).trans (h5 (kb h hz)).1,Zh (h5 (kb h hz)).2 hz⟩,fun h=>ke2 h6 hz h,fun h=>trivial⟩
   ·have d2:=h2 (Z7 hi (by decide))
    have d3:=h3 (Z7 hi (by decide));have hz:=hlt 4 (by decide);have ev67:(frame a0 [65,66,67,68,69,70,71] x).tmps[67]?.getD undef=.int .i64 (n.tm+1):=by have h:=(Z4 a0 [65,66,67,68,69,70,71] x 67 rfl (hsl 67 (by decide))).trans d2;simpa [Act.eval] using h
    have ev68:(frame a0 [65,66,67,68,69,70,71] x).tmps[68]?.getD undef=.int .i64 (p:Int):=by have h:=(Z4 a0 [65,66,67,68,69,70,71] x 68 rfl (hsl 68 (by decide))).trans d3;simpa [Act.eval] using h
    refine Z8 rfl rfl (Zd (v:=.int .i64 (n.tm+1+(p:Int))) ?_ ?_)
    ·obtain ⟨aa,haa⟩:∃ aa,aa=frame a0 [65,66,67,68,69,70,71] x:=⟨_,rfl⟩
     rw [<-haa] at ev67 ev68 ⊢;clear haa;go_simp;rw [IntKind.wrap_i64];omega
    exact ⟨_,Z9 _ _ _ 69 _ rfl,(by rw [Zp hz (by decide),Zp hz (by decide)];exact hS),fun h=>ke2 h0 hz h,fun h=>ke2 h1 hz h,fun h=>ke2 h2 hz h,fun h=>ke2 h3 hz h,fun h=>⟨Zb _ _ _,Zh (Z7 hi (j:=3) (by decide)) hz⟩,fun h=>⟨(Z6 _ _ _ _ (by decide)).trans (h5 (kb h hz)).1,Zh (h5 (kb h hz)).2 hz⟩,fun h=>ke2 h6 hz h,fun h=>trivial⟩
   ·have d4:=h4 (Z7 hi (by decide))
    have hz:=hlt 5 (by decide);have ev69:=(Z4 a0 [65,66,67,68,69,70,71] x 69 rfl (hsl 69 (by decide))).trans d4.1;refine Z8 rfl rfl (Y4 (N:=55) rfl (fun _ _=>by go_simp) #[.int .i64 (n.tm+1+(p:Int)),.int .i64 1073741824] (by simp only [List.map_toArray,List.map_cons,List.map_nil,ev69,Z0w]) ?_);refine Calls.mono (Xf _ _ _) ?_;rw [<-H1.out];rintro e w2 ⟨rfl,rfl⟩;refine ⟨_,rfl,?_⟩;exact ⟨_,Z9 _ _ _ 70 _ rfl,(by rw [Zp hz (by decide),Zp hz (by decide)];exact hS),fun h=>ke2 h0 hz h,fun h=>ke2 h1 hz h,fun h=>ke2 h2 hz h,fun h=>ke2 h3 hz h,fun h=>⟨(Z6 _ _ _ _ (by decide)).trans (h4 (kb h hz)).1,Zh (h4 (kb h hz)).2 hz⟩,fun h=>⟨Zb _ _ _,Zh d4.2 hz⟩,fun h=>ke2 h6 hz h,fun h=>trivial⟩
   ·skip
    have hz:=hlt 6 (by decide);have ev6:(frame a0 [65,66,67,68,69,70,71] x).tmps[6]?.getD undef=.pointer (some ⟨b6,0,none⟩):=by have h:=(Zc a0 [65,66,67,68,69,70,71] x 6 rfl).trans e6;simpa [Act.eval] using h
    refine Z8 rfl rfl (Zd (v:=.pointer (some ⟨b6,3,none⟩)) ?_ ?_)
    ·obtain ⟨aa,haa⟩:∃ aa,aa=frame a0 [65,66,67,68,69,70,71] x:=⟨_,rfl⟩
     rw [<-haa] at ev6 ⊢;clear haa;go_simp
    exact ⟨_,Z9 _ _ _ 71 _ rfl,(by rw [Zp hz (by decide),Zp hz (by decide)];exact hS),fun h=>ke2 h0 hz h,fun h=>ke2 h1 hz h,fun h=>ke2 h2 hz h,fun h=>ke2 h3 hz h,fun h=>⟨(Z6 _ _ _ _ (by decide)).trans (h4 (kb h hz)).1,Zh (h4 (kb h hz)).2 hz⟩,fun h=>⟨(Z6 _ _ _ _ (by decide)).trans (h5 (kb h hz)).1,Zh (h5 (kb h hz)).2 hz⟩,fun h=>Zb _ _ _,fun h=>trivial⟩
   ·have d5:=h5 (Z7 hi (by decide))
    have d6:=h6 (Z7 hi (by decide));have hz:=hlt 7 (by decide);have hb7:L.getD 7 false=false:=by have h9:=(Zx hsL hi).2;rw [Array.getD_eq_getD_getElem?,h9];rfl
    have evp:=(Z4 a0 [65,66,67,68,69,70,71] x 71 rfl (hsl 71 (by decide))).trans d6;have evs:=(Z4 a0 [65,66,67,68,69,70,71] x 70 rfl (hsl 70 (by decide))).trans d5.1;have ha3:L.getD 3 false=true:=d5.2;rw [ha3,hb7] at hS;refine Z8 rfl rfl (Z27 (.tmp 71) (.tmp 70) rfl evp evs ((AkS.mb hS).cell 3) ((AkS.mb hS).free 3) rfl ?_);exact ⟨_,rfl,(by rw [Zp hz (by decide),ha3,Yo hz];exact AkS.set hS 3 (by omega) _ rfl),fun h=>ku2 h0 hz h,fun h=>ku2 h1 hz h,fun h=>ku2 h2 hz h,fun h=>ku2 h3 hz h,fun h=>⟨(h4 (kb h hz)).1,Zh (h4 (kb h hz)).2 hz⟩,fun h=>⟨(h5 (kb h hz)).1,Zh (h5 (kb h hz)).2 hz⟩,fun h=>ku2 h6 hz h,fun h=>trivial⟩
  ·rintro L a w' hsL hr ⟨x,rfl,hS,h0,h1,h2,h3,h4,h5,h6,h7⟩
   have hall:=Yq hsL hr (by decide);replace h0:=h0 (hall 0 (by decide));replace h1:=h1 (hall 1 (by decide));replace h2:=h2 (hall 2 (by decide));replace h3:=h3 (hall 3 (by decide));replace h4:=h4 (hall 4 (by decide));replace h5:=h5 (hall 5 (by decide));replace h6:=h6 (hall 6 (by decide));replace h7:=h7 (hall 7 (by decide));rw [hall 3 (by decide),hall 7 (by decide)] at hS;exact ⟨rfl,x,rfl,hS⟩
 ·rintro a' w' ⟨x,rfl,hFin⟩
  exact hP _ _ (hF.frame _ _) ((Zc a [65,66,67,68,69,70,71] x 2 rfl).trans h2) ((Zc a [65,66,67,68,69,70,71] x 3 rfl).trans h3) ((Zc a [65,66,67,68,69,70,71] x 4 rfl).trans h4) ((Zc a [65,66,67,68,69,70,71] x 5 rfl).trans h5) ((Zc a [65,66,67,68,69,70,71] x 6 rfl).trans h6) hFin
theorem da18 {W:World}{g b2 b3 b5 b6 k:Nat}{v:Value}{l:List Int}{n:Nd}{xr:RV}{m:Mg}{ve:Value}(hlg:n.log.length<=4096){Q:Exit->Act->World->Prop}{K:Act->World->Prop}{a:Act}{w:World}(hF:SzD a 83)(h2:a.eval (.tmp 2)=.pointer (some ⟨b2,0,none⟩))(h3:a.eval (.tmp 3)=.pointer (some ⟨b3,0,none⟩))(h4:a.eval (.tmp 4)=.pointer (some ⟨g,0,none⟩))(h5:a.eval (.tmp 5)=.pointer (some ⟨b5,0,none⟩))(h6:a.eval (.tmp 6)=.pointer (some ⟨b6,0,none⟩))(hS:AkS W g v l b5 b6 w k n xr m ve)(hP:∀ a' w',SzD a' 83->a'.eval (.tmp 2)=.pointer (some ⟨b2,0,none⟩)->a'.eval (.tmp 3)=.pointer (some ⟨b3,0,none⟩)->a'.eval (.tmp 4)=.pointer (some ⟨g,0,none⟩)->a'.eval (.tmp 5)=.pointer (some ⟨b5,0,none⟩)->a'.eval (.tmp 6)=.pointer (some ⟨b6,0,none⟩)->AkS W g v l b5 b6 w' k n xr { m with li:=min ((n.log.length:Int)+1) 4096 } ve->K a' w'):(Z1 1 (Zj (Z2 1 (Z1 13 (Z3 Tryz.f20))))).wp Tryz.prog (Exit.then K Q) a w:=by
 obtain ⟨t,rfl⟩:=hF.opened;clear hF;rw [Z40]
 try dsimp only
 rw [show t 2=_ from h2,show t 3=_ from h3,show t 4=_ from h4,show t 5=_ from h5,show t 6=_ from h6];clear h2 h3 h4 h5 h6;obtain ⟨ra,rc,hvl⟩:=hS.nd.own.log.shape;have n12:w.cell? ⟨b5,12,none⟩=some (.slice ra n.log.length rc):=by rw [<-hvl];exact hS.ndb.cell 12
 clear hvl;obtain ⟨N,hN⟩:∃ N,N=n.log.length:=⟨_,rfl⟩;rw [<-hN] at n12 hP hlg;have HN:Hid (N=n.log.length):=hN;clear hN;obtain ⟨A1,hA1⟩:∃ q,q=min ((N:Int)+1) 4096:=⟨_,rfl⟩;have H1:Hid (A1=min ((N:Int)+1) 4096):=hA1;rw [<-hA1] at hP;clear hA1;have hw1:IntKind.i64.wrap ((N:Int)+1)=(N:Int)+1:=by rw [IntKind.wrap_i64];omega
 have m4:w.cell? ⟨b6,4,none⟩=some (.int .i64 m.li):=hS.mb.cell 4;have f4:w.frozen? ⟨b6,4,none⟩=false:=hS.mb.free 4;have HS:Hid (AkS W g v l b5 b6 w k n xr m ve):=hS;clear hS
 conv=>arg 2;whnf
 go_wp2_with (go_at_call 55;go_loud (refine (Xf _ _ _).mono ?_;rw [<-H1.out];rintro r w9 ⟨rfl,hw⟩;obtain rfl:=hw.symm;clear hw))
 exact hP _ _ ⟨rfl,rfl⟩ rfl rfl rfl rfl rfl (HS.out.set 4 (by omega) _ rfl)
theorem da19 {W:World}{g b2 b3 b5 b6 k:Nat}{v:Value}{l:List Int}{n:Nd}{xr:RV}{m:Mg}{ve:Value}{Q:Exit->Act->World->Prop}{K:Act->World->Prop}{a:Act}{w:World}(hF:SzD a 83)(h2:a.eval (.tmp 2)=.pointer (some ⟨b2,0,none⟩))(h3:a.eval (.tmp 3)=.pointer (some ⟨b3,0,none⟩))(h4:a.eval (.tmp 4)=.pointer (some ⟨g,0,none⟩))(h5:a.eval (.tmp 5)=.pointer (some ⟨b5,0,none⟩))(h6:a.eval (.tmp 6)=.pointer (some ⟨b6,0,none⟩))(hS:AkS W g v l b5 b6 w k n xr m ve)(hP:∀ a' w',SzD a' 83->a'.eval (.tmp 2)=.pointer (some ⟨b2,0,none⟩)->a'.eval (.tmp 3)=.pointer (some ⟨b3,0,none⟩)->a'.eval (.tmp 4)=.pointer (some ⟨g,0,none⟩)->a'.eval (.tmp 5)=.pointer (some ⟨b5,0,none⟩)->a'.eval (.tmp 6)=.pointer (some ⟨b6,0,none⟩)->AkS W g v l b5 b6 w' k n xr { m with lt:=m.tm } ve->K a' w'):(Z2 2 (Zj (Z2 1 (Z1 13 (Z3 Tryz.f20))))).wp Tryz.prog (Exit.then K Q) a w:=by
 obtain ⟨t,rfl⟩:=hF.opened;clear hF;rw [Z40]
 try dsimp only
 rw [show t 2=_ from h2,show t 3=_ from h3,show t 4=_ from h4,show t 5=_ from h5,show t 6=_ from h6];clear h2 h3 h4 h5 h6;have m3:w.cell? ⟨b6,3,none⟩=some (.int .i64 m.tm):=hS.mb.cell 3;have m5:w.cell? ⟨b6,5,none⟩=some (.int .i64 m.lt):=hS.mb.cell 5;have f5:w.frozen? ⟨b6,5,none⟩=false:=hS.mb.free 5;have HS:Hid (AkS W g v l b5 b6 w k n xr m ve):=hS;clear hS
 conv=>arg 2;whnf
 go_wp2_with fail
 exact hP _ _ ⟨rfl,rfl⟩ rfl rfl rfl rfl rfl (HS.out.set 5 (by omega) _ rfl)
structure AkR (W:World) (D b2 b3 b5 b6:Nat) (n:Nd) (x:RV) (m:Mg) (ve:Value) (b c:Bool) (w:World):Prop where
 nb:Blk w b5 (ndC n x) 36
 own:NdO w W.heap.size n x
 mb:Blk w b6 (msV m ve) 43
 r2:Blk w b2 (cond b (ndC n x) Jr) 36
 r3:Blk w b3 (cond c (msV m ve) Z0d) 43
 bl:Below D W w
 sv:∃ a n c,ve=.slice a n c
 cs:b2<W.heap.size/\b3<W.heap.size/\D<=b2/\D<=b3/\b2≠b3/\W.heap.size<=b5/\W.heap.size<=b6
section
variable {W w:World} {D b2 b3 b5 b6:Nat} {n:Nd} {x:RV} {m:Mg} {ve:Value} {b c:Bool}
theorem AkR.drew (h:AkR W D b2 b3 b5 b6 n x m ve b c w):AkR W D b2 b3 b5 b6 n x m ve b c w.drew:=by
 have hb:Below w.heap.size w w.drew:=(Below.refl _ _).drew;exact ⟨h.nb.below hb h.nb.lt,h.own.keep fun q _ h2=>hb.block q h2,h.mb.below hb h.mb.lt,h.r2.below hb h.r2.lt,h.r3.below hb h.r3.lt,h.bl.drew,h.sv,h.cs⟩
theorem AkR.st2 (h:AkR W D b2 b3 b5 b6 n x m ve b c w):AkR W D b2 b3 b5 b6 n x m ve true c (w.setRow b2 (ndC n x)):=by
 obtain ⟨c1,c2,c3,c4,c5,c6,c7⟩:=h.cs;have hk:∀ q,q≠b2->(w.setRow b2 (ndC n x)).heap[q]? = w.heap[q]?:=fun q hq=>setRow_other _ _ _ _ hq
 exact ⟨h.nb.keep (hk _ (by omega)),h.own.keep fun q h1 h2=>hk q (by omega),h.mb.keep (hk _ (by omega)),h.r2.row _,h.r3.keep (hk _ (by omega)),J0 h.bl c3 _,h.sv,h.cs⟩
theorem AkR.st3 (h:AkR W D b2 b3 b5 b6 n x m ve b c w):AkR W D b2 b3 b5 b6 n x m ve b true (w.setRow b3 (msV m ve)):=by
 obtain ⟨c1,c2,c3,c4,c5,c6,c7⟩:=h.cs;have hk:∀ q,q≠b3->(w.setRow b3 (msV m ve)).heap[q]? = w.heap[q]?:=fun q hq=>setRow_other _ _ _ _ hq
 exact ⟨h.nb.keep (hk _ (by omega)),h.own.keep fun q h1 h2=>hk q (by omega),h.mb.keep (hk _ (by omega)),h.r2.keep (hk _ (by omega)),h.r3.row _,J0 h.bl c4 _,h.sv,h.cs⟩
theorem AkR.one (h:AkR W D b2 b3 b5 b6 n x m ve b c w):(msV m ve).all (·.oneCell')=true:=by
 obtain ⟨a,n,c,hv⟩:=h.sv;unfold msV;rw [hv];simp [Value.oneCell']
theorem results_two {fn:Func}{s s2:Tmp}{ty ty2:TypeId}{tmps:Array Value}{b b2:Nat}{w:World}{C C2:Array Value}{t t2:TypeId}(hr:fn.results=#[.cell s ty,.cell s2 ty2])(ht:tmps.getD s undef=.pointer (some ⟨b,0,none⟩))(ht2:tmps.getD s2 undef=.pointer (some ⟨b2,0,none⟩))
  (hb:Blk w b C t) {d:TypeDesc} (hu:Tryz.prog.underlying ty=some d) (hd:d.isRow=true) {n:Nat} (hi:(Tryz.prog.info? ty).map (·.size)=some n) (hn:n=C.size)
  (hb2:Blk w b2 C2 t2) {d2:TypeDesc} (hu2:Tryz.prog.underlying ty2=some d2) (hd2:d2.isRow=true) {n2:Nat} (hi2:(Tryz.prog.info? ty2).map (·.size)=some n2) (hn2:n2=C2.size):(results fn tmps).run Tryz.prog w=.ok (.tuple #[.agg C,.agg C2]) w:=by
 have e:tmps[s]?.getD undef=.pointer (some ⟨b,0,none⟩):=by rw [<-ht];simp
 have e2:tmps[s2]?.getD undef=.pointer (some ⟨b2,0,none⟩):=by rw [<-ht2];simp
 have hl:=run_loadVar_mid (P:=Tryz.prog) w b 0 ty C.toList d hb.range hu hd (by rw [hi,hn];simp);have hl2:=run_loadVar_mid (P:=Tryz.prog) w b2 0 ty2 C2.toList d2 hb2.range hu2 hd2 (by rw [hi2,hn2];simp);simp [results,hr,e,e2,hl,hl2,asAddr]
end
theorem da20 {W:World}{D b2 b3 b5 b6:Nat}{n:Nd}{xr:RV}{m:Mg}{ve:Value}{Q:Exit->Act->World->Prop}{K:Act->World->Prop}{a:Act}{w:World}(hF:SzD a 83)(h2:a.eval (.tmp 2)=.pointer (some ⟨b2,0,none⟩))(h3:a.eval (.tmp 3)=.pointer (some ⟨b3,0,none⟩))(h5:a.eval (.tmp 5)=.pointer (some ⟨b5,0,none⟩))(h6:a.eval (.tmp 6)=.pointer (some ⟨b6,0,none⟩))(hS:AkR W D b2 b3 b5 b6 n xr m ve false false w)(hP:∀ a' w',SzD a' 83->a'.eval (.tmp 2)=.pointer (some ⟨b2,0,none⟩)->a'.eval (.tmp 3)=.pointer (some ⟨b3,0,none⟩)->AkR W D b2 b3 b5 b6 n xr m ve true true w'->K a' w'):(Z1 14 (Z3 Tryz.f20)).wp Tryz.prog (Exit.then K Q) a w:=by
 conv=>arg 2;whnf
 refine Xg (fun a0=>a0.tmps.size=83/\a0.eval (.tmp 2)=.pointer (some ⟨b2,0,none⟩)/\a0.eval (.tmp 3)=.pointer (some ⟨b3,0,none⟩)/\a0.eval (.tmp 5)=.pointer (some ⟨b5,0,none⟩)/\a0.eval (.tmp 6)=.pointer (some ⟨b6,0,none⟩)) (fun a0 aF w'=>∃ x:Nat->Value,aF=frame a0 [81,82] x/\(AkR W D b2 b3 b5 b6 n xr m ve true true w')) ?_ ⟨hF.1,h2,h3,h5,h6⟩ ?_
 ·rintro a0 ⟨hsz0,e2,e3,e5,e6⟩
  refine Y7 (by kernel_rfl) (fun L aF w'=>∃ x:Nat->Value,aF=frame a0 [81,82] x/\(AkR W D b2 b3 b5 b6 n xr m ve) (L.getD 2 false) (L.getD 3 false) w'/\(L.getD 0 false=true->x 81=.agg (ndC n xr))/\(L.getD 1 false=true->x 82=.agg (msV m ve))/\(L.getD 2 false=true->True)/\(L.getD 3 false=true->True)) ?_ ?_ ?_
  ·refine ⟨_,Yk a0 [81,82],?_,fun h=>(Zl h).elim,fun h=>(Zl h).elim,fun h=>(Zl h).elim,fun h=>(Zl h).elim⟩
   rw [Z05,Z05];exact hS.drew
  ·rintro L a w' i hsL hi ⟨x,rfl,hS,h0,h1,h2,h3⟩
   have hlt:∀ j,j<4->j<L.size:=fun j hj=>by rw [hsL];exact hj
   have hsl:∀ j,j<83->j<a0.tmps.size:=fun j hj=>by rw [hsz0];exact hj
   have hiL:i<4:=(Zx hsL hi).1;have hLz:L.size=4:=hsL;rcases (show i=0∨i=1∨i=2∨i=3 by omega) with rfl | rfl | rfl | rfl
   ·skip
    have hz:=hlt 0 (by decide);refine Z8 rfl rfl (Z0f 36 (.tmp 5) rfl (b5) ((Zc a0 [81,82] x 5 rfl).trans e5) (AkR.nb hS) Tryz.underlying36 rfl Z0g rfl ?_);exact ⟨_,Z9 _ _ _ 81 _ rfl,(by rw [Zp hz (by decide),Zp hz (by decide)];exact hS),fun h=>Zb _ _ _,fun h=>ke2 h1 hz h,fun h=>trivial,fun h=>trivial⟩
   ·skip
    have hz:=hlt 1 (by decide);refine Z8 rfl rfl (Z0f 43 (.tmp 6) rfl (b6) ((Zc a0 [81,82] x 6 rfl).trans e6) (AkR.mb hS) Tryz.underlying43 rfl Ys rfl ?_);exact ⟨_,Z9 _ _ _ 82 _ rfl,(by rw [Zp hz (by decide),Zp hz (by decide)];exact hS),fun h=>ke2 h0 hz h,fun h=>Zb _ _ _,fun h=>trivial,fun h=>trivial⟩
   ·have d0:=h0 (Z7 hi (by decide))
    have hz:=hlt 2 (by decide);have hb2:L.getD 2 false=false:=by have h9:=(Zx hsL hi).2;rw [Array.getD_eq_getD_getElem?,h9];rfl
    rw [hb2] at hS;have evp:=(Zc a0 [81,82] x 2 rfl).trans e2;have evs:=(Z4 a0 [81,82] x 81 rfl (hsl 81 (by decide))).trans d0;refine Z8 rfl rfl (Jq 36 (.tmp 2) (.tmp 81) rfl (b2) evp evs (AkR.r2 hS) Z0g rfl rfl (hS.own.one.1) ?_);exact ⟨_,rfl,(by rw [Yo hz,Zp hz (by decide)];exact AkR.st2 hS),fun h=>ku2 h0 hz h,fun h=>ku2 h1 hz h,fun h=>trivial,fun h=>trivial⟩
   ·have d1:=h1 (Z7 hi (by decide))
    have hz:=hlt 3 (by decide);have hb3:L.getD 3 false=false:=by have h9:=(Zx hsL hi).2;rw [Array.getD_eq_getD_getElem?,h9];rfl
    rw [hb3] at hS;have evp:=(Zc a0 [81,82] x 3 rfl).trans e3;have evs:=(Z4 a0 [81,82] x 82 rfl (hsl 82 (by decide))).trans d1;refine Z8 rfl rfl (Jq 43 (.tmp 3) (.tmp 82) rfl (b3) evp evs (AkR.r3 hS) Ys rfl rfl (hS.one) ?_);exact ⟨_,rfl,(by rw [Yo hz,Zp hz (by decide)];exact AkR.st3 hS),fun h=>ku2 h0 hz h,fun h=>ku2 h1 hz h,fun h=>trivial,fun h=>trivial⟩
  ·rintro L a w' hsL hr ⟨x,rfl,hS,h0,h1,h2,h3⟩
   have hall:=Yq hsL hr (by decide);replace h0:=h0 (hall 0 (by decide));replace h1:=h1 (hall 1 (by decide));replace h2:=h2 (hall 2 (by decide));replace h3:=h3 (hall 3 (by decide));rw [hall 2 (by decide),hall 3 (by decide)] at hS;exact ⟨rfl,x,rfl,hS⟩
 ·rintro a' w' ⟨x,rfl,hFin⟩
  exact hP _ _ (hF.frame _ _) ((Zc a [81,82] x 2 rfl).trans h2) ((Zc a [81,82] x 3 rfl).trans h3) hFin
def akN (l:List Int)(D:DnS):Nd:=if Z5 l D.k 2=0/\D.n.ro=0 then { D.n with ld:=1+D.n.id%D.n.sz } else D.n
def akM0 (l:List Int)(n:Nd)(R:FmS):Mg:=⟨1+2*((Z5 l R.k 2:Nat):Int),1+(n.id+(Z5 l (R.k+1) (n.sz.toNat-1):Nat))%n.sz,n.id,R.m.tm,R.m.li,R.m.lt,0,0,0,[]⟩
def akM1 (m:Mg):Mg:=if m.lt=0∨m.li=0 then { { m with lt:=0 } with li:=0 } else m
def akM2 (l:List Int)(k:Nat)(n:Nd)(m:Mg):Mg:=if Z5 l k 3=0 then { { { m with tm:=min (n.tm+1+((Z5 l (k+1) 3:Nat):Int)) 1073741824 } with li:=min ((n.log.length:Int)+1) 4096 } with lt:=min (n.tm+1+((Z5 l (k+1) 3:Nat):Int)) 1073741824 } else m
def akM (l:List Int)(n:Nd)(R:FmS):Mg:=akM2 l (R.k+1+1) n (akM1 (akM0 l n R))
structure AkFr (b2 b3 g b5 b6:Nat) (a:Act):Prop where
 sz:SzD a 83
 e2:a.eval (.tmp 2)=.pointer (some ⟨b2,0,none⟩)
 e3:a.eval (.tmp 3)=.pointer (some ⟨b3,0,none⟩)
 e4:a.eval (.tmp 4)=.pointer (some ⟨g,0,none⟩)
 e5:a.eval (.tmp 5)=.pointer (some ⟨b5,0,none⟩)
 e6:a.eval (.tmp 6)=.pointer (some ⟨b6,0,none⟩)
theorem daTail {W:World}{g b2 b3 b5 b6:Nat}{v:Value}{l:List Int}{n:Nd}{xr:RV}{R:FmS}{ve:Value}{Q:Exit->Act->World->Prop}{a:Act}{w:World}(hL:l.length<=1048576)(hk:R.k<=800000000)(hsz:3<=n.sz/\n.sz<=7)(hid:1<=n.id/\n.id<=n.sz)(htm:0<=n.tm/\n.tm<=1073741824)(hlg:n.log.length<=4096)(hve:∃ a c,ve=.slice a R.m.es.length c)(hF:AkFr b2 b3 g b5 b6 a)(hS:AkS W g v l b5 b6 w R.k n xr R.m ve)(hP:∀ a' w' k',AkFr b2 b3 g b5 b6 a'->AkS W g v l b5 b6 w' k' n xr (akM l n R) (.slice none 0 0)->(Code.seq (Z1 14 (Z3 Tryz.f20)) .ret).wp Tryz.prog Q a' w'):(Z2 5 (Z3 Tryz.f20)).wp Tryz.prog Q a w:=by
 rw [show Z2 5 (Z3 Tryz.f20)=.seq (Z1 5 (Z3 Tryz.f20)) (.seq (Z1 6 (Z3 Tryz.f20)) (.seq (Z1 7 (Z3 Tryz.f20)) (.seq (Z1 8 (Z3 Tryz.f20)) (.seq (Z1 9 (Z3 Tryz.f20)) (.seq (Z1 10 (Z3 Tryz.f20)) (.seq (Z1 11 (Z3 Tryz.f20)) (.seq (Z1 12 (Z3 Tryz.f20)) (.seq (Z1 13 (Z3 Tryz.f20)) (.seq (Z1 14 (Z3 Tryz.f20)) .ret))))))))) from rfl];refine wp_seq_k ?_;intro K1 hK1;refine da6 hL (by omega) hF.sz hF.e2 hF.e3 hF.e4 hF.e5 hF.e6 hS fun a1 w1 f1 p1 q1 r1 t1 y1 s1=>hK1 _ _ ?_
 have F1:AkFr b2 b3 g b5 b6 a1:=⟨f1,p1,q1,r1,t1,y1⟩;refine wp_seq_k ?_;intro K2 hK2;refine da7 F1.sz F1.e2 F1.e3 F1.e4 F1.e5 F1.e6 s1 fun a2 w2 f2 p2 q2 r2 t2 y2 s2=>hK2 _ _ ?_
 have F2:AkFr b2 b3 g b5 b6 a2:=⟨f2,p2,q2,r2,t2,y2⟩;refine wp_seq_k ?_;intro K3 hK3;refine da8 hL (by omega) hsz hid F2.sz F2.e2 F2.e3 F2.e4 F2.e5 F2.e6 s2 fun a3 w3 f3 p3 q3 r3 t3 y3 s3=>hK3 _ _ ?_
 have F3:AkFr b2 b3 g b5 b6 a3:=⟨f3,p3,q3,r3,t3,y3⟩;refine wp_seq_k ?_;intro K4 hK4;refine da9 F3.sz F3.e2 F3.e3 F3.e4 F3.e5 F3.e6 s3 fun a4 w4 f4 p4 q4 r4 t4 y4 s4=>hK4 _ _ ?_
 have F4:AkFr b2 b3 g b5 b6 a4:=⟨f4,p4,q4,r4,t4,y4⟩;refine wp_seq_k ?_;intro K5 hK5;refine da10 F4.sz F4.e2 F4.e3 F4.e4 F4.e5 F4.e6 s4 fun a5 w5 f5 p5 q5 r5 t5 y5 s5=>hK5 _ _ ?_
 have F5:AkFr b2 b3 g b5 b6 a5:=⟨f5,p5,q5,r5,t5,y5⟩;refine wp_seq_k ?_;intro K6 hK6;refine da11 F5.sz F5.e2 F5.e3 F5.e4 F5.e5 F5.e6 s5 fun a6 w6 f6 p6 q6 r6 t6 y6 s6=>hK6 _ _ ?_
 have F6:AkFr b2 b3 g b5 b6 a6:=⟨f6,p6,q6,r6,t6,y6⟩;refine wp_seq_k ?_;intro K7 hK7;refine da12 (by exact hve) F6.sz F6.e2 F6.e3 F6.e4 F6.e5 F6.e6 s6 fun a7 w7 f7 p7 q7 r7 t7 y7 s7=>hK7 _ _ ?_
 have F7:AkFr b2 b3 g b5 b6 a7:=⟨f7,p7,q7,r7,t7,y7⟩;have s7':AkS W g v l b5 b6 w7 (R.k+1+1) n xr (akM0 l n R) (.slice none 0 0):=s7;refine wp_seq_k ?_;intro K8 hK8
 have hmid:∀ a' w',AkFr b2 b3 g b5 b6 a'->AkS W g v l b5 b6 w' (R.k+1+1) n xr (akM1 (akM0 l n R)) (.slice none 0 0)->K8 a' w':=by
  intro a8 w8 F8 s8;refine hK8 _ _ ?_;refine wp_seq_k ?_;intro K9 hK9
  have hend:∀ a' w' k',AkFr b2 b3 g b5 b6 a'->AkS W g v l b5 b6 w' k' n xr (akM l n R) (.slice none 0 0)->K9 a' w':=by
   intro a9 w9 k9 F9 s9;refine hK9 _ _ ?_;exact hP _ _ _ F9 s9
  unfold akM akM2 at hend;rw [show Z1 13 (Z3 Tryz.f20)=.seq (Z1 0 (Z1 13 (Z3 Tryz.f20))) (.cond (.tmp 64) (Zj (Z2 1 (Z1 13 (Z3 Tryz.f20)))) .skip) from rfl];refine wp_seq_k ?_;intro K10 hK10;refine da16 hL (by omega) F8.sz F8.e2 F8.e3 F8.e4 F8.e5 F8.e6 s8 fun a10 w10 f10 p10 q10 r10 t10 y10 u10 s10=>hK10 _ _ ?_
  have F10:AkFr b2 b3 g b5 b6 a10:=⟨f10,p10,q10,r10,t10,y10⟩;refine wp_cond u10 ?_;by_cases h:Z5 l (R.k+1+1) 3=0
  ·rw [if_pos (by simp [h])]
   rw [if_pos h] at hend;rw [show Zj (Z2 1 (Z1 13 (Z3 Tryz.f20)))=.seq (Z1 0 (Zj (Z2 1 (Z1 13 (Z3 Tryz.f20))))) (.seq (Z1 1 (Zj (Z2 1 (Z1 13 (Z3 Tryz.f20))))) (Z2 2 (Zj (Z2 1 (Z1 13 (Z3 Tryz.f20)))))) from rfl];refine wp_seq_k ?_;intro K11 hK11;refine da17 hL (by omega) htm F10.sz F10.e2 F10.e3 F10.e4 F10.e5 F10.e6 s10 fun a11 w11 f11 p11 q11 r11 t11 y11 s11=>hK11 _ _ ?_
   have F11:AkFr b2 b3 g b5 b6 a11:=⟨f11,p11,q11,r11,t11,y11⟩;refine wp_seq_k ?_;intro K12 hK12;refine da18 hlg F11.sz F11.e2 F11.e3 F11.e4 F11.e5 F11.e6 s11 fun a12 w12 f12 p12 q12 r12 t12 y12 s12=>hK12 _ _ ?_
   have F12:AkFr b2 b3 g b5 b6 a12:=⟨f12,p12,q12,r12,t12,y12⟩;refine da19 F12.sz F12.e2 F12.e3 F12.e4 F12.e5 F12.e6 s12 fun a13 w13 f13 p13 q13 r13 t13 y13 s13=>?_
   exact hend _ _ _ ⟨f13,p13,q13,r13,t13,y13⟩ s13
  ·rw [if_neg (by simp [h])]
   rw [if_neg h] at hend;exact wp_skip (hend _ _ _ F10 s10)
 unfold akM1 at hmid;rw [show Z1 12 (Z3 Tryz.f20)=.seq (Z1 0 (Z1 12 (Z3 Tryz.f20))) (.cond (.tmp 60) (Zj (Z2 1 (Z1 12 (Z3 Tryz.f20)))) .skip) from rfl];refine wp_seq_k ?_;intro K9 hK9;refine da13 F7.sz F7.e2 F7.e3 F7.e4 F7.e5 F7.e6 s7' fun a9 w9 f9 p9 q9 r9 t9 y9 u9 s9=>hK9 _ _ ?_
 have F9:AkFr b2 b3 g b5 b6 a9:=⟨f9,p9,q9,r9,t9,y9⟩;refine wp_cond u9 ?_;by_cases h:(akM0 l n R).lt=0∨(akM0 l n R).li=0
 ·rw [if_pos (by simpa using h)]
  rw [if_pos h] at hmid;rw [show Zj (Z2 1 (Z1 12 (Z3 Tryz.f20)))=.seq (Z1 0 (Zj (Z2 1 (Z1 12 (Z3 Tryz.f20))))) (Z2 1 (Zj (Z2 1 (Z1 12 (Z3 Tryz.f20))))) from rfl];refine wp_seq_k ?_;intro K10 hK10;refine da14 F9.sz F9.e2 F9.e3 F9.e4 F9.e5 F9.e6 s9 fun a10 w10 f10 p10 q10 r10 t10 y10 s10=>hK10 _ _ ?_
  have F10:AkFr b2 b3 g b5 b6 a10:=⟨f10,p10,q10,r10,t10,y10⟩;refine da15 F10.sz F10.e2 F10.e3 F10.e4 F10.e5 F10.e6 s10 fun a11 w11 f11 p11 q11 r11 t11 y11 s11=>?_
  exact hmid _ _ ⟨f11,p11,q11,r11,t11,y11⟩ s11
 ·rw [if_neg (by simpa using h)]
  rw [if_neg h] at hmid;exact wp_skip (hmid _ _ F9 s9)
theorem akN_log (l:List Int)(D:DnS):(akN l D).log=D.n.log:=by
 unfold akN;split <;> rfl
theorem dfX_k (l:List Int)(k:Nat)(n:Nd)(hk:k<=500000000)(hn:n.log.length<=4096):(dfX l k n).k<=800000000:=by
 have hm:=(msgD_ok l k).2.2.2.2.2;unfold dfX;split
 ·show (Xi l k).k+1<=_
  omega
 ·have h1:=dfHead_k l ((Xi l k).k+1) n (mgOf (Xi l k))
  generalize Z09 l ((Xi l k).k+1) n (mgOf (Xi l k))=H at *;have hp:=Z3p l H.k n;have ho:=dfOth_ok l (H.k+1+1) n H.m.ki (Yn l H.k n) hp hn;unfold dfRest;generalize J5 l (H.k+1+1) n H.m.ki (Yn l H.k n)=OT at *
  have hg:(Jl l OT.2.2 n OT.2.1 H.m.tm H.m.lt).2<=OT.2.2+1:=by
   unfold Jl;split <;> simp
  generalize Jl l OT.2.2 n OT.2.1 H.m.tm H.m.lt=LG at *;split
  ·unfold dfRep
   split
   ·have:=X7 (n.log.length+2)
    show H.k+1+1+Zm (n.log.length+2)<=_;omega
   ·show H.k+1+1<=_
    omega
  ·split
   ·show H.k+1+1<=_
    omega
   ·split
    ·show (J2 l n OT.1 _ _ _ _).k<=_
     have ht:(Z06 l (LG.2+1) OT.1 H.m.tm).2<=LG.2+2:=by
      unfold Z06;split
      ·split <;> simp
      ·simp
     dsimp only;generalize Z06 l (LG.2+1) OT.1 H.m.tm=TM at *;have he:=Z1g l (TM.2+1) (max LG.1 1) (min (Z5 l TM.2 5) (4096-(OT.2.1.toNat:Int)).toNat);have hl:=Jb l (TM.2+1) (max LG.1 1) (min (Z5 l TM.2 5) (4096-(OT.2.1.toNat:Int)).toNat);have h5:=Zf l TM.2 5 (by omega);generalize Y5 l (TM.2+1) (max LG.1 1) (min (Z5 l TM.2 5) (4096-(OT.2.1.toNat:Int)).toNat)=E at *;have hk:=dfEnts_k l n OT.1 TM.1 OT.2.1.toNat ⟨E.1,max LG.1 1,E.2.1⟩ E.1.length (Nat.le_refl _);refine Nat.le_trans hk ?_;show E.2.1+E.1.length<=_;omega
    ·show LG.2<=_
     omega
theorem drawAsk_any (va:Option Addr)(vc:Nat)(l:List Int)(w:World)(hv:Bs w (.slice va l.length vc) l)(hL:l.length<=1048576) :
  Calls Tryz.prog 20 #[.slice va l.length vc] w fun r w'=>∃ x,r=.returned (.tuple #[.agg (ndC (akN l (dnD l 0 (3+min l.length 400 / 10))) x),.agg (msV (akM l (akN l (dnD l 0 (3+min l.length 400 / 10))) (dfX l ((dnD l 0 (3+min l.length 400 / 10)).k+1) (akN l (dnD l 0 (3+min l.length 400 / 10))))) (.slice none 0 0))])/\NdO w' w.heap.size (akN l (dnD l 0 (3+min l.length 400 / 10))) x/\Below w.heap.size w w':=by
 have hlm:=hv.1;obtain ⟨W,hW⟩:∃ W,W=((w.alloc (.cells Jr 36)).alloc (.cells Z0d 43)).alloc (.cells #[.slice va l.length vc,.int .i64 0] 91):=⟨_,rfl⟩;have hzW:W.heap.size=w.heap.size+3:=by rw [hW];simp
 have HSr:Hid (Src W (w.heap.size+2) (.slice va l.length vc) l 0):=by
  have h9:=Src.start ((w.alloc (.cells Jr 36)).alloc (.cells Z0d 43)) _ l (hv.below (((Below.refl _ _).alloc (Nat.le_refl _) _).alloc (by simp) _)) 91;unfold Hid;rw [hW];simpa using h9
 have HB2:Hid (Blk W w.heap.size Jr 36):=by unfold Hid;rw [hW];exact ((Blk.new _ _ _).alloc _).alloc _
 have HB3:Hid (Blk W (w.heap.size+1) Z0d 43):=by
  unfold Hid;rw [hW];have h9:=(Blk.new (w.alloc (.cells Jr 36)) Z0d 43).alloc (.cells #[.slice va l.length vc,.int .i64 0] 91);simpa using h9
 have HBl:Hid (Below w.heap.size w W):=by unfold Hid;rw [hW];exact (((Below.refl _ _).alloc (Nat.le_refl _) _).alloc (by simp) _).alloc (by simp <;> omega) _
 obtain ⟨m,hm⟩:∃ m,m=min l.length 400:=⟨_,rfl⟩;rw [<-hm];have HSZ:Hid (∀ u,Calls Tryz.prog 52 #[.slice va l.length vc] u fun e w'=>e=.returned (.int .i64 (m:Nat))/\w'=u):=fun u=>by rw [hm];exact l1size_any va l.length vc hlm u
 have hm4:m<=400:=by omega
 obtain ⟨N,hN⟩:∃ N,N=3+m / 10:=⟨_,rfl⟩;rw [<-hN];have hN2:N<=200:=by omega
 have hNe:(3:Int)+(m:Int) / 10=(N:Int):=by omega
 have hkk:=dnD_k l 0 N hN2;have hok:=dnD_ok l 0 N hN2;obtain ⟨D,hD⟩:∃ D,D=dnD l 0 N:=⟨_,rfl⟩;rw [<-hD] at hkk hok ⊢;have HDN:Hid (Calls Tryz.prog 51 #[.pointer (some ⟨w.heap.size+2,0,none⟩),.int .i64 (N:Nat)] W fun r w'=>∃ x,r=.returned (.agg (ndC D.n x))/\NdO w' W.heap.size D.n x/\Src w' (w.heap.size+2) (.slice va l.length vc) l D.k/\W.grownBy w' (some (w.heap.size+2))):=by rw [hD];exact Z3j (w.heap.size+2) W _ l 0 N hL (by omega) hN2 HSr.out
 obtain ⟨n,hn⟩:∃ n,n=akN l D:=⟨_,rfl⟩;rw [<-hn];obtain ⟨R,hR⟩:∃ R,R=dfX l (D.k+1) n:=⟨_,rfl⟩;rw [<-hR];have HR:Hid (R=dfX l (D.k+1) n):=hR;have HN:Hid (n=akN l D):=hn;have HE0:Hid (∀ w' x,NdO w' W.heap.size D.n x->DfE w' (w.heap.size+2) D.n x):=fun w' x h=>DfE.of h hok (by omega)
 have HKK:Hid (D.k<=0+5000):=hkk;have HRk:Hid (R.k<=800000000):=by unfold Hid;rw [hR];exact dfX_k l (D.k+1) n (by omega) (by rw [hn,akN_log];exact (Z1i D.n hok).2)
 clear hm hN hD hok hkk hv hn hR;go_enter Tryz.func20,Tryz.ntmps20;show (Z3 Tryz.f20).wp Tryz.prog _ _ _;rw [show Z3 Tryz.f20=.seq (Z1 0 (Z3 Tryz.f20)) (.seq (Z1 1 (Z3 Tryz.f20)) (.seq (Z1 2 (Z3 Tryz.f20)) (.seq (Z1 3 (Z3 Tryz.f20)) (.seq (Z1 4 (Z3 Tryz.f20)) (Z2 5 (Z3 Tryz.f20)))))) from rfl];refine wp_seq_k ?_;intro K1 hK1;refine da0 (v:=.slice va l.length vc) ⟨rfl,rfl⟩ rfl fun a1 w1 f1 g0 g2 g3 e1=>hK1 _ _ ?_
 refine wp_seq_k ?_;intro K2 hK2;refine da1 (v:=.slice va l.length vc) ⟨_,_,_,rfl⟩ f1 g0 g2 g3 fun a2 w2 f2 i0 i2 i3 i4 e2=>hK2 _ _ ?_
 have e3:w2=W:=by rw [e2,e1,hW]
 subst e3;have e4:w1.heap.size=w.heap.size+2:=by rw [e1];simp
 rw [e4] at i4;clear hW e1 e2 e4;refine wp_seq_k ?_;intro K3 hK3;refine da2 (N:=N) hNe hm4 hN2 f2 HSZ i0 i2 i3 i4 HDN fun a3 w3 x3 w4 f3 j2 j3 j4 j5 e3 ho hs hg=>hK3 _ _ ?_
 subst e3
 have hS:AkN w2 (w.heap.size+2) (.slice va l.length vc) l w4.heap.size (w4.alloc (.cells (ndC D.n x3) 36)) D.k D.n x3:=
  ⟨hs.alloc _,by omega,World.grownBy.trans' hg (World.grownBy_alloc _ _ _),⟨Blk.new _ _ _,ho.keep fun q _ h2=>((Below.refl _ _).alloc (Nat.le_refl _) _).block q h2⟩,hg.size⟩
 have hE:=HE0.out _ _ hS.nd.own;refine wp_seq_k ?_;intro K4 hK4
 have hgo:∀ a' w',SzD a' 83->a'.eval (.tmp 2)=.pointer (some ⟨w.heap.size,0,none⟩)->a'.eval (.tmp 3)=.pointer (some ⟨w.heap.size+1,0,none⟩)->a'.eval (.tmp 4)=.pointer (some ⟨w.heap.size+2,0,none⟩)->a'.eval (.tmp 5)=.pointer (some ⟨w4.heap.size,0,none⟩)->AkN w2 (w.heap.size+2) (.slice va l.length vc) l w4.heap.size w' (D.k+1) n x3->DfE w' (w.heap.size+2) n x3->K4 a' w':=by
  intro a5 w5 f5 k2 k3 k4 k5 s5 hE5;refine hK4 _ _ ?_;refine wp_seq_k ?_;intro K5 hK5
  have HDF:Hid (Calls Tryz.prog 54 #[.pointer (some ⟨w.heap.size+2,0,none⟩),.agg (ndC n x3)] w5 fun r w'=>∃ ve,r=.returned (.agg (msV R.m ve))/\Zv w' w5.heap.size ve R.m.es/\Src w' (w.heap.size+2) (.slice va l.length vc) l R.k/\w5.grownBy w' (some (w.heap.size+2))):=by
   unfold Hid;rw [HR.out];exact l4drawFor_any (w.heap.size+2) w5 _ l (D.k+1) w2.heap.size n x3 hL (by have:=HKK.out;omega) s5.src s5.nd.own hE5
  refine da5 f5 k2 k3 k4 k5 s5 HDF fun a6 w6 ve6 w7 f6 l2 l3 l4 l5 l6 e6 s6 hv6=>hK5 _ _ ?_
  subst e6;have hb7:Below w7.heap.size w7 (w7.alloc (.cells (msV R.m ve6) 43)):=(Below.refl _ _).alloc (Nat.le_refl _) _;have hS6:AkS w2 (w.heap.size+2) (.slice va l.length vc) l w4.heap.size w7.heap.size (w7.alloc (.cells (msV R.m ve6) 43)) R.k n x3 R.m ve6:=⟨s6.below hb7,Blk.new _ _ _,s6.grown.size,by obtain ⟨a,c,h⟩:=hv6;exact ⟨a,_,c,h⟩⟩;refine daTail hL HRk.out hE5.sz hE5.id hE5.tm hE5.lg hv6 ⟨f6,l2,l3,l4,l5,l6⟩ hS6 fun a8 w8 k8 F8 s8=>?_
  have hgr:=s8.nn.grown;refine wp_seq_k ?_;intro K6 hK6
  have hR8:AkR w2 w.heap.size w.heap.size (w.heap.size+1) w4.heap.size w7.heap.size n x3 (akM l n R) (.slice none 0 0) false false w8:=by
   refine ⟨s8.ndb,s8.nd.own,s8.mb,HB2.out.keep (hgr.block _ (by omega) (fun e=>by injection e with e;omega)),HB3.out.keep (hgr.block _ (by omega) (fun e=>by injection e with e;omega)),⟨hgr.os,hgr.tape,hgr.output,hgr.size,fun q hq=>hgr.block q (by omega) (fun e=>by injection e with e;omega)⟩,s8.sv,by omega,by omega,Nat.le_refl _,by omega,by omega,s8.nn.lo5,s8.lo6⟩
  refine da20 F8.sz F8.e2 F8.e3 F8.e5 F8.e6 hR8 fun a9 w9 f9 p9 q9 s9=>hK6 _ _ (wp_ret ?_)
  obtain ⟨t,rfl⟩:=f9.opened;exact bodyPost_ret (results_two Tryz.results20 p9 q9 s9.r2 Tryz.underlying36 rfl Z0g rfl s9.r3 Tryz.underlying43 rfl Ys rfl) rfl ⟨x3,rfl,s9.own.le (by omega),HBl.out.trans s9.bl⟩
 have hNN:=HN.out;unfold akN at hNN;rw [show Z1 3 (Z3 Tryz.f20)=.seq (Z1 0 (Z1 3 (Z3 Tryz.f20))) (.cond (.tmp 20) (Zj (Z2 1 (Z1 3 (Z3 Tryz.f20)))) .skip) from rfl];refine wp_seq_k ?_;intro K5 hK5;refine da3 hL (by have:=HKK.out;omega) f3 j2 j3 j4 j5 hS fun a5 w5 f5 k2 k3 k4 k5 u5 s5=>hK5 _ _ ?_
 refine wp_cond u5 ?_;by_cases h:Z5 l D.k 2=0/\D.n.ro=0
 ·rw [if_pos (by simpa using h)]
  rw [if_pos h] at hNN;subst hNN;refine da4 hE.sz hE.id f5 k2 k3 k4 k5 s5 fun a6 w6 f6 l2 l3 l4 l5 s6=>?_
  exact hgo _ _ f6 l2 l3 l4 l5 s6 ((HE0.out _ _ ⟨s6.nd.own.log,s6.nd.own.gr,s6.nd.own.nx,s6.nd.own.mt,s6.nd.own.se,s6.nd.own.st,s6.nd.own.ap⟩).leader _)
 ·rw [if_neg (by simpa using h)]
  rw [if_neg h] at hNN;subst hNN;exact wp_skip (hgo _ _ f5 k2 k3 k4 k5 s5 (HE0.out _ _ s5.nd.own))
end Go.Proofs.YtmmpoppgabadmaaGreat
namespace Go.Proofs.YtmmpoppgabadmaaGreat
open Go.RowKit Go.Maps
end Go.Proofs.YtmmpoppgabadmaaGreat
namespace Go.Proofs.YtmmpoppgabadmaaGreat
open Go.RowKit Go.Maps
end Go.Proofs.YtmmpoppgabadmaaGreat
namespace Go.Proofs.YtmmpoppgabadmaaGreat
open Go.RowKit Go.Maps
end Go.Proofs.YtmmpoppgabadmaaGreat
