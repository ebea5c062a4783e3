import Derived.Test.YtmmpoppgabadmaaGreatG27
import Derived.Test.YtmmpoppgabadmaaGreatG26
set_option linter.unusedVariables false
set_option linter.unusedSimpArgs false
set_option maxRecDepth 100000
set_option maxHeartbeats 16000000
open Go.Value renaming slice → I,int → Aa,pointer → Ae,agg → Aw,string → Az,oneCell' → Bh
open Go.IntKind renaming i64 → O
open _root_.Option renaming none → Ab,some → Ac
open Go.Proofs.Tryz renaming prog → Ad
open Go renaming Value → Af,World → Ag,Calls → Ar
open Go.Ending renaming returned → Aj
open _root_.Bool renaming and_eq_true → Al
open Go.Obj renaming cells → At
namespace Go.Proofs.YtmmpoppgabadmaaGreat
open Go.Proofs.Tryz
open Go.RowKit
section
theorem nodeN_terms (n:Nd)(h:Yb n=0):∀ e∈n.log,0<=e.t/\e.t<=1073741824:=by
 have f:=(Z03 n h).2.2.1;unfold Yb Z4x at h;split at h
 ·simp at h
 split at h
 ·simp at h
 split at h
 ·simp at h
 split at h
 ·simp at h
 rename_i h4;split at h
 ·simp at h
 rename_i h5;have b:Jq n.tm 1 n.log=true:=by simpa using h5
 obtain ⟨i,d⟩:=Z6q _ n.log 1 b;intro e c;have:=d e c;omega
variable {w:Ag}{B:Nat}
theorem ownI_at {v:Af}{l:List Int}(h:Zc inC 1 3 w B v l)(s:l.length<=1048576){j:Nat}(o:j<l.length):∃ q c,v=I (Ac ⟨q,0,Ab⟩) l.length c/\B<=q/\q<w.heap.size/\w.cell? ⟨q,j,Ab⟩=Ac (Aa O (l.getD j 0)):=by
 obtain ⟨q,c,f⟩:=h.shape';have d:=h.lts q (by rw [f];rfl);have p:=ix_sl (h.sl Z16 (by unfold maxLen;omega));rw [f] at p;obtain ⟨b,r,e,i⟩:=ix_at p j o;injection e with e;injection e with e1 e2;subst e1;subst e2;refine ⟨q,c,f,d.1,d.2,?_⟩;rw [Nat.zero_add] at i;rw [i,Z4f o]
variable {g:Nat}{n:Nd}{x:RV}
theorem DfE.of (e:NdO w B n x)(t:Yb n=0)(hg:g<B):DfE w g n x:=by
 obtain ⟨p,t0,t1,ho,ag,aa,ad,r⟩:=Z03 n t;have i:=(Z4o n t).2;have af:=p.sz1;have ab:=p.sz0;have ah:=p.id0;have ac:=p.id1;refine ⟨by omega,by omega,⟨t0,t1⟩,i,e.log.shape,?_,nodeN_terms n t,?_⟩
 ·intro o
  obtain ⟨a,c,f⟩:=e.log.shape;obtain ⟨q,hq,_,_⟩:=Z1t (k:=0) (by have d:=e.log;rw [f] at d;exact d) rfl o (by unfold maxLen;omega);subst hq;have y:=World.ownsRow.lt e.log.2 q (by rw [f];rfl);refine ⟨q,c,f,y.2,by omega,?_,e.log.1⟩;intro j z;obtain ⟨q2,b,hE,_⟩:=Z1t (k:=j) (by have d:=e.log;rw [f] at d;exact d) rfl z (by unfold maxLen;omega);injection b with b;injection b with b;subst b;exact hE
 ·intro s j z
  unfold Jw at r;rw [if_pos s,Al,Xu] at r;obtain ⟨⟨e1,e2,e3,e4⟩,hp⟩:=r;have d:=Z5o hp j (by omega)
  have u:0<=n.nx.getD j 0/\n.nx.getD j 0<=5000:=by
   unfold Z0y at d;split at d
   ·simp only [Al,beq_iff_eq] at d
    omega
   ·simp only [Al,Zj] at d
    omega
  have h:j<n.nx.length:=by omega
  obtain ⟨q,c,f,h1,h2,h3⟩:=ownI_at e.nx (by omega) h;exact ⟨h,u,q,c,f,h2,by omega,h3⟩
theorem DfE.grown {w':Ag}{B:Nat}(h:DfE w g n x)(f:∀ q,q<w.heap.size->q≠g->w'.heap[q]? = w.heap[q]?)(d:w.heap.size<=w'.heap.size:=by omega):DfE w' g n x:=
 ⟨h.sz,h.id,h.tm,h.lg,h.vl,λhp=>by obtain ⟨q,c,b⟩:=h.lq hp;exact ⟨q,c,b.vl,Nat.lt_of_lt_of_le b.lt d,b.ne,λj hj=>(b.ent j hj).keep (f q b.lt b.ne),b.fit⟩,h.lt,λhro j hj=>by
  obtain ⟨p,o,q,c,r,i,e,s⟩:=h.nx hro j hj;exact ⟨p,o,q,c,r,Nat.lt_of_lt_of_le i d,e,by rw [<-s];unfold World.cell?;rw [f q i e]⟩⟩
def dfRest (l:List Int)(n:Nd)(H:FmS):FmS:=
 if H.m.ki=6 then dfRep l (H.k+1+1) n H.m (Ys l H.k n)
 else if H.m.ki=2∨H.m.ki=4 then ⟨H.m,H.k+1+1⟩
 else if H.m.ki=5 then
  dfAp l (Z1o l (Jv l (H.k+1+1) n H.m.ki (Ys l H.k n)).2.2 n (Jv l (H.k+1+1) n H.m.ki (Ys l H.k n)).2.1 H.m.tm H.m.lt).2 n (Jv l (H.k+1+1) n H.m.ki (Ys l H.k n)).1 { H.m with li:=(Jv l (H.k+1+1) n H.m.ki (Ys l H.k n)).2.1,lt:=(Z1o l (Jv l (H.k+1+1) n H.m.ki (Ys l H.k n)).2.2 n (Jv l (H.k+1+1) n H.m.ki (Ys l H.k n)).2.1 H.m.tm H.m.lt).1 } (Jv l (H.k+1+1) n H.m.ki (Ys l H.k n)).2.1.toNat
 else
  ⟨{ H.m with li:=(Jv l (H.k+1+1) n H.m.ki (Ys l H.k n)).2.1,lt:=(Z1o l (Jv l (H.k+1+1) n H.m.ki (Ys l H.k n)).2.2 n (Jv l (H.k+1+1) n H.m.ki (Ys l H.k n)).2.1 H.m.tm H.m.lt).1,es:=[] },(Z1o l (Jv l (H.k+1+1) n H.m.ki (Ys l H.k n)).2.2 n (Jv l (H.k+1+1) n H.m.ki (Ys l H.k n)).2.1 H.m.tm H.m.lt).2⟩
def dfX (l:List Int)(k:Nat)(n:Nd):FmS:=
 if Z4 l (X8 l k).k 14=0 then ⟨mgOf (X8 l k),(X8 l k).k+1⟩ else dfRest l n (Z1i l ((X8 l k).k+1) n (mgOf (X8 l k)))
theorem dfFrom_ok (l:List Int)(k:Nat)(n:Nd)(b:3<=n.sz/\n.sz<=7):1<=Z2r l k n/\Z2r l k n<=n.sz:=by
 have d:=Int.emod_nonneg (n.id+(Z4 l k (n.sz.toNat-1):Nat)) (show n.sz≠0 by omega);have c:=Int.emod_lt_of_pos (n.id+(Z4 l k (n.sz.toNat-1):Nat)) (show 0<n.sz by omega);have e:=Int.emod_nonneg n.id (show n.sz≠0 by omega);have f:=Int.emod_lt_of_pos n.id (show 0<n.sz by omega);unfold Z2r;simp only [];split <;> omega
theorem dfHead_ok (l:List Int)(k:Nat)(n:Nd)(m:Mg):(1<=(Z1i l k n m).m.tm/\(Z1i l k n m).m.tm<=1073741824)/\(Z1i l k n m).m.lt=0/\(Z1i l k n m).m.fr=Z2r l k n:=by
 refine ⟨?_,rfl,rfl⟩;show 1<=min (max _ 1) 1073741824/\min (max _ 1) 1073741824<=1073741824;omega
theorem Z8d (l:List Int)(k:Nat)(n:Nd):0<=Ys l k n/\Ys l k n<=4096:=by
 unfold Ys;omega
section
variable {w0:Ag} {g b3 b4 b5:Nat} {v:Af} {l:List Int} {n:Nd} {xr:RV} {m:Mg} {ve:Af} {k:Nat} {Q:Exit->Act->Ag->Prop} {a:Act} {w:Ag}
theorem dfRestW {H:FmS}(hL:l.length<=1048576)(s:H.k<=490000000)(d:DfE w0 g n xr)(c:1<=H.m.tm/\H.m.tm<=1073741824)(r:H.m.lt=0)(e:1<=H.m.fr/\H.m.fr<=n.sz)(q:Zo g b3 b4 b5 a)(j:Tv a 9=Aa O (Ys l H.k n))(p:FS w0 w g v l b3 b4 b5 n xr (H.k+1+1) H.m ve)(b:∀ a' w' ve',SzD a' 343->Tv a' 4=Ae (Ac ⟨b4,0,Ab⟩)->FR w0 w' g v l b4 (dfRest l n H).k (dfRest l n H).m ve'->Q .ret a' w'):(Z1 18 (Z3 f54)).wp Ad Q a w:=by
 have f:=Z8d l H.k n;have i:=dfOth_ok l (H.k+1+1) n H.m.ki (Ys l H.k n) f d.lg;have o:=dfLogG_ok l (Jv l (H.k+1+1) n H.m.ki (Ys l H.k n)).2.2 n (Jv l (H.k+1+1) n H.m.ki (Ys l H.k n)).2.1 H.m.tm H.m.lt c (by omega) d.term;unfold dfRest at b;refine dfB18 hL (by omega) d e q j p (λh6=>?_) (λh6 a1 w1 F1 c1 s1=>?_)
 ·rw [if_pos h6] at b
  exact b
 rw [if_neg h6] at b;refine dfB19 F1 c1 s1 (λh2=>?_) (λh2 a2 w2 F2 c2 s2=>?_)
 ·rw [if_pos h2] at b
  exact b
 rw [if_neg h2] at b;refine dfB20 hL (by omega) d F2 c2 s2 λa3 w3 F3 c3 d3 s3=>?_
 generalize hO:Jv l (H.k+1+1) n H.m.ki (Ys l H.k n)=OT at *;refine dfB22 hL (by omega) d c F3 c3 d3 s3 λa4 w4 F4 c4 d4 s4=>?_
 generalize hG:Z1o l OT.2.2 n OT.2.1 H.m.tm H.m.lt=LG at *;refine dfB24 F4 c4 d4 s4 (λh5=>?_) (λh5 a5 w5 F5 c5 d5 s5=>?_)
 ·rw [if_neg h5] at b
  exact b
 ·rw [if_pos (show H.m.ki=5 from h5)] at b
  have h:((OT.2.1.toNat:Nat):Int)=OT.2.1:=by omega
  rw [<-h] at c5;exact dfB25 (m:={ H.m with li:=OT.2.1,lt:=LG.1 }) hL (by omega) d (by omega) c (show 0<=LG.1/\LG.1<=1073741824 by omega) F5 c5 d5 s5 b
end
variable {g:Nat}{Q:Exit->Act->Ag->Prop}{K:Act->Ag->Prop}{a:Act}{w:Ag}
theorem df0 {B:Nat}{n:Nd}{xr:RV}(f:SzD a 343)(i:Tv a 0=Ae (Ac ⟨g,0,Ab⟩))(d:Tv a 1=Aw (ndC n xr))(b:NdO w B n xr)(c:∀ a' w',SzD a' 343->Tv a' 0=Ae (Ac ⟨g,0,Ab⟩)->Tv a' 3=Ae (Ac ⟨w.heap.size,0,Ab⟩)->Tv a' 4=Ae (Ac ⟨w.heap.size+1,0,Ab⟩)->w'=(w.alloc (At (ndC n xr) 36)).alloc (At mg10 43)->K a' w'):(Z2 0 (Z3 f54)).wp Ad (Exit.then K Q) a w:=by
 obtain ⟨t,rfl⟩:=f.opened;clear f;rw [Z3x]
 try dsimp only
 rw [show t 0=_ from i,show t 1=_ from d];clear i d;obtain ⟨y,p,h⟩:=b.log.shape;obtain ⟨j,z,e2⟩:=b.gr.shape;obtain ⟨q,r,e3⟩:=b.nx.shape;obtain ⟨a4,o,e4⟩:=b.mt.shape;obtain ⟨u,c5,e5⟩:=b.se.shape;obtain ⟨s,c6,e6⟩:=b.st.shape;have e:ndC n xr=(n.arrC (I y n.log.length p) (I j n.gr.length z) (I q n.nx.length r) (I a4 n.mt.length o) (I u n.se.length c5) (I s n.st.length c6)):=by unfold ndC;rw [h,e2,e3,e4,e5,e6]
 rw [e] at c ⊢;clear e h e2 e3 e4 e5 e6 b;unfold mg10 msV mg0 at c
 conv=>arg 2;whnf
 go_wp2_with fail
 exact c _ _ ⟨rfl,rfl⟩ rfl rfl rfl rfl
theorem df1 {o:Nat}{e3 e4 v:Af}{l:List Int}{M:Mg}(q:SzD a 343)(y:Tv a 0=Ae (Ac ⟨g,0,Ab⟩))(u:Tv a 3=e3)(p:Tv a 4=e4)(f:Hid (Ar Ad 95 #[Ae (Ac ⟨g,0,Ab⟩)] w λr w'=>∃ ea ec,r=Aj (Aw (msV M (I ea M.es.length ec)))/\Zh w' w.heap.size (I ea M.es.length ec) M.es/\Src w' g v l o/\w.grownBy w' (Ac g)))(z:∀ a' w' ve' w4,SzD a' 343->Tv a' 0=Ae (Ac ⟨g,0,Ab⟩)->Tv a' 3=e3->Tv a' 4=e4->Tv a' 5=Ae (Ac ⟨w4.heap.size,0,Ab⟩)->w'=w4.alloc (At (msV M ve') 43)->Zh w4 w.heap.size ve' M.es->Src w4 g v l o->w.grownBy w4 (Ac g)->K a' w'):(Z2 1 (Z3 f54)).wp Ad (Exit.then K Q) a w:=by
 obtain ⟨t,rfl⟩:=q.opened;clear q;rw [Z3x]
 try dsimp only
 rw [show t 0=_ from y,show t 3=_ from u,show t 4=_ from p];clear y u p
 conv=>arg 2;whnf
 go_wp2_with (first
  |(go_at_call 95;go_loud (refine f.mono ?_;rintro r s ⟨ea,ec,rfl,c,b,d⟩;have h:=Z0 c;have j:=Z0 b;have i:=Z0 d;have e:Hid ((msV M (I ea M.es.length ec)).all (·.oneCell')=true):=(by unfold Hid msV;simp [Bh]);clear c b d))
  |(refine Zn 43 _ _ rfl ?_;go_loud (refine Zt rfl 43 _ _ rfl _ rfl rfl rfl Ju rfl rfl e ?_)))
 exact z _ _ (I ea M.es.length ec) s ⟨rfl,rfl⟩ rfl rfl rfl rfl rfl h j i
theorem l4drawFor_any (g:Nat)(w:Ag)(v:Af)(l:List Int)(k B:Nat)(n:Nd)(x:RV)(hL:l.length<=1048576)(hk:k<=400000000)(hs:Src w g v l k)(hO:NdO w B n x)(hE:DfE w g n x) :
  Ar Ad 54 #[Ae (Ac ⟨g,0,Ab⟩),Aw (ndC n x)] w λr w'=>∃ ve,r=Aj (Aw (msV (dfX l k n).m ve))/\Zh w' w.heap.size ve (dfX l k n).m.es/\Src w' g v l (dfX l k n).k/\w.grownBy w' (Ac g):=by
 have ad:=(msgD_ok l k).2.2.2.2.2;obtain ⟨W,hW⟩:=exq ((w.alloc (At (ndC n x) 36)).alloc (At mg10 43))
 have HD:Hid (Dr w W g v l k [(w.heap.size,ndC n x,36),(w.heap.size+1,mg10,43)]):=by
  unfold Hid;rw [hW];have z:=(Dr.start hs).new (ndC n x) 36 hO.one.2;have h2:=z.new mg10 43 (Zr);simpa using h2
 have o:Hid (Ar Ad 95 #[Ae (Ac ⟨g,0,Ab⟩)] W λr w'=>∃ ea ec,r=Aj (Aw (msV (mgOf (X8 l k)) (I ea (mgOf (X8 l k)).es.length ec)))/\Zh w' W.heap.size (I ea (mgOf (X8 l k)).es.length ec) (mgOf (X8 l k)).es/\Src w' g v l (X8 l k).k/\W.grownBy w' (Ac g)):=l1drawMsg_any g W v l k hL (by omega) HD.src;obtain ⟨R,hR⟩:=exq (dfX l k n);rw [<-hR];have HR:=Z0 hR;have HO:=Z0 hO;have p:=Z0 hE;clear hR hO hE hs;go_enter func54,ntmps54;show (Z3 f54).wp Ad _ _ _;refine sqf (λx=>.seq (Z2 1 x) (.seq (Z2 2 x) (Z1 3 x))) ?_;intro K1 aa;refine df0 ⟨rfl,rfl⟩ rfl rfl HO λa1 w1 f1 p1 q1 r1 e1=>aa _ _ ?_
 have e2:w1=W:=by rw [e1,hW]
 subst e2;refine wp_seq_k ?_;intro K2 s;refine df1 f1 p1 q1 r1 o λa2 w2 ve2 w4 f2 p2 q2 r2 t2 e2 o2 s2 g2=>s _ _ ?_
 subst e2
 have hS:FS w (w4.alloc (At (msV (mgOf (X8 l k)) ve2) 43)) g v l w.heap.size (w.heap.size+1) w4.heap.size n x (X8 l k).k (mgOf (X8 l k)) ve2:=by
  have z:=HD.call s2 g2;have hn:NoU8 (msV (mgOf (X8 l k)) ve2):=by obtain ⟨a,c,hv⟩:=o2.shape;unfold msV;rw [hv];exact Zr
  exact ⟨z.new _ _ hn,(o2.le HD.size).below baq⟩
 have F2:Zo g w.heap.size (w.heap.size+1) w4.heap.size a2:=⟨f2,p2,q2,r2,t2⟩;refine wp_seq_k ?_;intro K3 q;refine sqc ?_;intro K4 u;refine df2 hL (by omega) F2 hS λa3 w3 F3 u3 s3=>u _ _ ?_
 refine wp_cond u3 ?_;have f:=HR.out;unfold dfX at f;by_cases d:Z4 l (X8 l k).k 14=0
 ·rw [if_pos d] at f
  subst f;rw [if_pos (by simp [d])];refine sqf (λx=>.ret) ?_;intro K5 i;refine df3 F3.sz F3.e4 F3.e5 s3 λa' w' j h b=>i _ _ (wp_ret ?_)
  obtain ⟨t,rfl⟩:=j.opened;dsimp only [Exit.then];exact bodyPost_ret (Zl results54 h b.rb underlying43 rfl Ju rfl) rfl ⟨_,rfl,b.es,b.src,b.grown⟩
 ·rw [if_neg d] at f
  rw [if_neg (by simp [d])];refine wp_skip (q _ _ ?_);have e:=dfHead_ok l ((X8 l k).k+1) n (mgOf (X8 l k));have ab:=dfHead_k l ((X8 l k).k+1) n (mgOf (X8 l k));have y:=dfFrom_ok l ((X8 l k).k+1) n p.sz;refine dfHeadW hL (by omega) p F3 s3 λa5 w5 ve5 F5 c5 s5=>?_
  refine dfRestW hL (by omega) p e.1 e.2.1 (e.2.2▸y) F5 c5 s5 ?_;intro a' w' ac j h b;rw [<-f] at b;obtain ⟨t,rfl⟩:=j.opened;exact bodyPost_ret (Zl results54 h b.rb underlying43 rfl Ju rfl) rfl ⟨_,rfl,b.es,b.src,b.grown⟩
end
section
structure AkN (W:Ag) (g:Nat) (v:Af) (l:List Int) (b5:Nat) (w:Ag) (k:Nat) (n:Nd) (x:RV):Prop where
 src:Src w g v l k
 gW:g<W.heap.size
 grown:W.grownBy w (Ac g)
 nd:NdS w W.heap.size b5 n x
 lo5:W.heap.size<=b5
structure AkS (W:Ag) (g:Nat) (v:Af) (l:List Int) (b5 b6:Nat) (w:Ag) (k:Nat) (n:Nd) (x:RV) (m:Mg) (ve:Af):Prop where
 nn:AkN W g v l b5 w k n x
 mb:Blk w b6 (msV m ve) 43
 lo6:W.heap.size<=b6
 sv:∃ a n c,ve=I a n c
theorem msV_no {m:Mg}{ve:Af}(h:∃ a n c,ve=I a n c):NoU8 (msV m ve):=by
 obtain ⟨a,n,c,rfl⟩:=h;exact Zr
variable {W w w':Ag} {g:Nat} {v:Af} {l:List Int} {k k' b5 b6:Nat} {n n':Nd} {x:RV} {m m':Mg} {ve:Af}
theorem AkN.call (h:AkN W g v l b5 w k n x)(b:Src w' g v l k')(a:w.grownBy w' (Ac g)):AkN W g v l b5 w' k' n x:=by
 have d:=h.gW;have c:=h.lo5;exact ⟨b,h.gW,World.grownBy.trans' h.grown a,h.nd.keep λq hq hlt=>a.block q hlt (λe=>by injection e with e;omega),h.lo5⟩
theorem AkN.below (h:AkN W g v l b5 w k n x)(a:Below w.heap.size w w'):AkN W g v l b5 w' k n x:=
 ⟨h.src.below a,h.gW,World.grownBy.trans' h.grown ⟨a.os,a.tape,a.output,a.size,λq hq _=>a.block q hq⟩,h.nd.below a,h.lo5⟩
theorem AkS.call (h:AkS W g v l b5 b6 w k n x m ve)(b:Src w' g v l k')(a:w.grownBy w' (Ac g)):AkS W g v l b5 b6 w' k' n x m ve:=by
 have d:=h.nn.gW;have c:=h.lo6;exact ⟨h.nn.call b a,h.mb.keep (a.block b6 h.mb.lt (λe=>by injection e with e;omega)),h.lo6,h.sv⟩
theorem AkS.drew (h:AkS W g v l b5 b6 w k n x m ve):AkS W g v l b5 b6 w.drew k n x m ve:=⟨h.nn.below (Below.refl _ _).drew,h.mb.below (Below.refl _ _).drew h.mb.lt,h.lo6,h.sv⟩
theorem AkS.nd (h:AkS W g v l b5 b6 w k n x m ve):NdS w W.heap.size b5 n x:=h.nn.nd
theorem AkS.ndb (h:AkS W g v l b5 b6 w k n x m ve):Blk w b5 (ndC n x) 36:=h.nn.nd.blk
theorem AkN.pick1 (h:AkN W g v l b5 w k n x)(q:Nat)(hL:l.length<=1048576:=by assumption)(b:k<=900000000:=by omega)(c:0<q:=by omega)(a:q<=256:=by omega) :
  Ar Ad 53 #[Ae (Ac ⟨g,0,Ab⟩),Aa O q] w λe w'=>e=Aj (Aa O (Z4 l k q:Nat))/\AkN W g v l b5 w' (k+1) n x:=
 (Zk g w v l k q hL b c (by omega) h.src).mono λe w' ⟨h1,h2,h3⟩=>⟨h1,by rw [show Zf q=1 by unfold Zf;rw [if_pos a]] at h2;exact h.call h2 h3⟩
theorem AkS.pick1 (h:AkS W g v l b5 b6 w k n x m ve)(q:Nat)(hL:l.length<=1048576:=by assumption)(b:k<=900000000:=by omega)(c:0<q:=by omega)(a:q<=256:=by omega) :
  Ar Ad 53 #[Ae (Ac ⟨g,0,Ab⟩),Aa O q] w λe w'=>e=Aj (Aa O (Z4 l k q:Nat))/\AkS W g v l b5 b6 w' (k+1) n x m ve:=
 (Zk g w v l k q hL b c (by omega) h.nn.src).mono λe w' ⟨h1,h2,h3⟩=>⟨h1,by rw [show Zf q=1 by unfold Zf;rw [if_pos a]] at h2;exact h.call h2 h3⟩
theorem AkN.setL (h:AkN W g v l b5 w k n x)(y:Int):AkN W g v l b5 (w.setCell ⟨b5,7,Ab⟩ (Aa O y)) k { n with ld:=y } x:=by
 have b:=h.gW;have a:=h.lo5;exact ⟨h.src.setB h.nd.blk (by omega) 7 (by show 7<18;omega) h.nd.own.one.2 _,h.gW,Z0m h.grown h.lo5 _,h.nd.set 7 (by omega) y,h.lo5⟩
theorem AkS.ne (h:AkS W g v l b5 b6 w k n x m ve):b5≠b6:=λe=>by
 have a:=h.ndb;have b:=h.mb;rw [e] at a;unfold Blk at a b;rw [a] at b;simp at b
theorem AkS.put (h:AkS W g v l b5 b6 w k n x m ve)(j:Nat)(c:j<10)(y:Af)(b:Blk (w.setCell ⟨b6,j,Ab⟩ y) b6 (msV m' ve) 43):AkS W g v l b5 b6 (w.setCell ⟨b6,j,Ab⟩ y) k n x m' ve:=by
 have e:=h.nn.gW;have d:=h.lo6;have a:∀ q,q≠b6->(w.setCell ⟨b6,j,Ab⟩ y).heap[q]? = w.heap[q]?:=λq hq=>Below.heap_setCell _ _ _ _ hq
 exact ⟨⟨h.nn.src.setB h.mb (by omega) j c (msV_no h.sv) _,h.nn.gW,Z0m h.nn.grown h.lo6 _,⟨h.ndb.keep (a b5 h.ne),h.nd.own.neB h.mb (by decide) (by decide) a⟩,h.nn.lo5⟩,b,h.lo6,h.sv⟩
theorem AkS.set (h:AkS W g v l b5 b6 w k n x m ve)(j:Nat)(c:j<9)(y:Int)(b:(msV m ve).setIfInBounds j (Aa O y)=msV m' ve):AkS W g v l b5 b6 (w.setCell ⟨b6,j,Ab⟩ (Aa O y)) k n x m' ve:=
 h.put j (by omega) _ (by have a:=h.mb.set j (Aa O y);rw [b] at a;exact a)
theorem AkS.bare (h:AkS W g v l b5 b6 w k n x m ve):AkS W g v l b5 b6 (w.setCell ⟨b6,9,Ab⟩ (I Ab 0 0)) k n x { m with es:=[] } (I Ab 0 0):=by
 have c:=h.nn.gW;have b:=h.lo6;have a:∀ q,q≠b6->(w.setCell ⟨b6,9,Ab⟩ (I Ab 0 0)).heap[q]? = w.heap[q]?:=λq hq=>Below.heap_setCell _ _ _ _ hq
 exact ⟨⟨h.nn.src.setB h.mb (by omega) 9 (by show 9<10;omega) (msV_no h.sv) _,h.nn.gW,Z0m h.nn.grown h.lo6 _,⟨h.ndb.keep (a b5 h.ne),h.nd.own.neB h.mb (by decide) (by decide) a⟩,h.nn.lo5⟩,h.mb.set 9 (I Ab 0 0),h.lo6,⟨_,_,_,rfl⟩⟩
end
section
theorem lst50 (t:Nat->Af):lst t 0 50 = [t 0,t 1,t 2,t 3,t 4,t 5,t 6,t 7,t 8,t 9,t 10,t 11,t 12,t 13,t 14,t 15,t 16,t 17,t 18,t 19,t 20,t 21,t 22,t 23,t 24,t 25,t 26,t 27,t 28,t 29,t 30,t 31,t 32,t 33,t 34,t 35,t 36,t 37,t 38,t 39,t 40,t 41,t 42,t 43,t 44,t 45,t 46,t 47,t 48,t 49]:=rfl
structure Z0c (b3 b4 g b5:Nat) (a:Act):Prop where
 sz:SzD a 50:=by exact ⟨rfl,rfl⟩
 e0:Tv a 0=Ae (Ac ⟨g,0,Ab⟩):=by exact rfl
 e3:Tv a 3=Ae (Ac ⟨b3,0,Ab⟩):=by exact rfl
 e4:Tv a 4=Ae (Ac ⟨b4,0,Ab⟩):=by exact rfl
 e5:Tv a 5=Ae (Ac ⟨b5,0,Ab⟩):=by exact rfl
theorem Z0c.op {b3 b4 g b5:Nat}{a:Act}(h:Z0c b3 b4 g b5 a):∃ t:Nat->Af,a=⟨#[Ae (Ac ⟨g,0,Ab⟩),t 1,t 2,Ae (Ac ⟨b3,0,Ab⟩),Ae (Ac ⟨b4,0,Ab⟩),Ae (Ac ⟨b5,0,Ab⟩),t 6,t 7,t 8,t 9,t 10,t 11,t 12,t 13,t 14,t 15,t 16,t 17,t 18,t 19,t 20,t 21,t 22,t 23,t 24,t 25,t 26,t 27,t 28,t 29,t 30,t 31,t 32,t 33,t 34,t 35,t 36,t 37,t 38,t 39,t 40,t 41,t 42,t 43,t 44,t 45,t 46,t 47,t 48,t 49],[]⟩:=by
 obtain ⟨t,rfl⟩:=h.sz.opened;refine ⟨t,?_⟩;rw [lst50,show t 0=_ from h.e0,show t 3=_ from h.e3,show t 4=_ from h.e4,show t 5=_ from h.e5]
structure Inp where
 ki:Int
 dr:Int
 m:Mg
 cl:Int
 sq:Int
 op:Int
 ky:ByteArray
 vv:ByteArray
 oo:ByteArray
def Z12 (i:Inp)(ve:Af):Array Af:=#[Aa O i.ki,Aa O i.dr,Aa O i.m.ki,Aa O i.m.fr,Aa O i.m.td,Aa O i.m.tm,Aa O i.m.li,Aa O i.m.lt,Aa O i.m.cm,Aa O i.m.ok,Aa O i.m.hi,ve,Aa O i.cl,Aa O i.sq,Aa O i.op,Az i.ky,Az i.vv,Az i.oo]
def inp00:Array Af:=#[Aa O 0,Aa O 0,Aa O 0,Aa O 0,Aa O 0,Aa O 0,Aa O 0,Aa O 0,Aa O 0,Aa O 0,Aa O 0,I Ab 0 0,Aa O 0,Aa O 0,Aa O 0,Az ⟨#[]⟩,Az ⟨#[]⟩,Az ⟨#[]⟩]
section
structure DiS (W:Ag) (g:Nat) (v:Af) (l:List Int) (b3 b4 b5:Nat) (w:Ag) (k:Nat) (n:Nd) (x:RV) (i:Inp) (ve:Af):Prop where
 src:Src w g v l k
 gW:g<W.heap.size
 grown:W.grownBy w (Ac g)
 nb:Blk w b3 (ndC n x) 36
 lo3:W.heap.size<=b3
 ib:Blk w b5 (Z12 i ve) 46
 lo5:W.heap.size<=b5
 cb:Blk w b4 inp00 46
 lo4:W.heap.size<=b4
 ne4:b4≠b5
 sv:∃ a n c,ve=I a n c
variable {W w w':Ag} {g:Nat} {v:Af} {l:List Int} {k k' b3 b4 b5:Nat} {n:Nd} {x:RV} {i i':Inp} {ve:Af}
theorem inpC_no {i:Inp}{ve:Af}(h:∃ a n c,ve=I a n c):NoU8 (Z12 i ve):=by
 obtain ⟨a,n,c,rfl⟩:=h;exact Zr
theorem DiS.call (h:DiS W g v l b3 b4 b5 w k n x i ve)(c:Src w' g v l k')(b:w.grownBy w' (Ac g)):DiS W g v l b3 b4 b5 w' k' n x i ve:=by
 have d:=h.gW;have j:=h.lo3;have f:=h.lo5;exact ⟨c,h.gW,World.grownBy.trans' h.grown b,h.nb.keep (b.block b3 h.nb.lt (λe=>by injection e with e;omega)),h.lo3,h.ib.keep (b.block b5 h.ib.lt (λe=>by injection e with e;omega)),h.lo5,h.cb.keep (b.block b4 h.cb.lt (λe=>by injection e with e;have:=h.lo4;omega)),h.lo4,h.ne4,h.sv⟩
theorem DiS.pick1 (h:DiS W g v l b3 b4 b5 w k n x i ve)(q:Nat)(hL:l.length<=1048576:=by assumption)(c:k<=900000000:=by omega)(d:0<q:=by omega)(b:q<=256:=by omega) :
  Ar Ad 53 #[Ae (Ac ⟨g,0,Ab⟩),Aa O q] w λe w'=>e=Aj (Aa O (Z4 l k q:Nat))/\DiS W g v l b3 b4 b5 w' (k+1) n x i ve:=
 (Zk g w v l k q hL c d (by omega) h.src).mono λe w' ⟨h1,h2,h3⟩=>⟨h1,by rw [show Zf q=1 by unfold Zf;rw [if_pos b]] at h2;exact h.call h2 h3⟩
theorem DiS.ne (h:DiS W g v l b3 b4 b5 w k n x i ve):b3≠b5:=λe=>by
 have b:=h.nb;have c:=h.ib;rw [e] at b;unfold Blk at b c;rw [b] at c;simp at c
theorem DiS.kind (h:DiS W g v l b3 b4 b5 w k n x i ve)(y:Int):DiS W g v l b3 b4 b5 (w.setCell ⟨b5,0,Ab⟩ (Aa O y)) k n x { i with ki:=y } ve:=by
 have c:=h.gW;have d:=h.lo5;have b:∀ q,q≠b5->(w.setCell ⟨b5,0,Ab⟩ (Aa O y)).heap[q]? = w.heap[q]?:=λq hq=>Below.heap_setCell _ _ _ _ hq
 exact ⟨h.src.setB h.ib (by omega) 0 (by show 0<18;omega) (inpC_no h.sv) _,h.gW,Z0m h.grown h.lo5 _,h.nb.keep (b b3 h.ne),h.lo3,h.ib.set 0 (Aa O y),h.lo5,h.cb.keep (b b4 h.ne4),h.lo4,h.ne4,h.sv⟩
structure DiN (W:Ag) (g:Nat) (v:Af) (l:List Int) (b3 b4:Nat) (w:Ag) (k:Nat) (n:Nd) (x:RV):Prop where
 src:Src w g v l k
 gW:g<W.heap.size
 grown:W.grownBy w (Ac g)
 nb:Blk w b3 (ndC n x) 36
 lo3:W.heap.size<=b3
 cb:Blk w b4 inp00 46
 lo4:W.heap.size<=b4
theorem DiN.pick1 (h:DiN W g v l b3 b4 w k n x)(q:Nat)(hL:l.length<=1048576:=by assumption)(d:k<=900000000:=by omega)(f:0<q:=by omega)(c:q<=256:=by omega) :
  Ar Ad 53 #[Ae (Ac ⟨g,0,Ab⟩),Aa O q] w λe w'=>e=Aj (Aa O (Z4 l k q:Nat))/\DiN W g v l b3 b4 w' (k+1) n x:=
 (Zk g w v l k q hL d f (by omega) h.src).mono λe w' ⟨h1,h2,h3⟩=>⟨h1,by
  rw [show Zf q=1 by unfold Zf;rw [if_pos c]] at h2;have j:=h.gW;have b:=h.lo3;exact ⟨h2,h.gW,World.grownBy.trans' h.grown h3,h.nb.keep (h3.block b3 h.nb.lt (λe=>by injection e with e;omega)),h.lo3,h.cb.keep (h3.block b4 h.cb.lt (λe=>by injection e with e;have:=h.lo4;omega)),h.lo4⟩⟩
theorem DiN.new (h:DiN W g v l b3 b4 w k n x)(i:Inp)(sv:∃ a n c,ve=I a n c):DiS W g v l b3 b4 w.heap.size (w.alloc (At (Z12 i ve) 46)) k n x i ve:=by
 have b:Below w.heap.size w (w.alloc (At (Z12 i ve) 46)):=baq;exact ⟨h.src.below b,h.gW,World.grownBy.trans' h.grown ⟨b.os,b.tape,b.output,b.size,λq hq _=>b.block q hq⟩,h.nb.below b h.nb.lt,h.lo3,Blk.new _ _ _,h.grown.size,h.cb.below b h.cb.lt,h.lo4,(λe=>by have:=h.cb.lt;omega),sv⟩
def inp0 (d:Int):Inp:=⟨2,d,mg0,0,0,0,⟨#[]⟩,⟨#[]⟩,⟨#[]⟩⟩
end
theorem Z20:(Tryz.prog.info? 46).map (·.size)=Ac 18:=by kernel_rfl
variable {W w:Ag}{g b3 b4 b5 k:Nat}{v ve:Af}{l:List Int}{n:Nd}{xr:RV}{i:Inp}{Q:Exit->Act->Ag->Prop}{K:Act->Ag->Prop}{a:Act}
theorem di2 (hL:l.length<=1048576)(s:k<=890000000)(f:Z0c b3 b4 g b5 a)(e:DiS W g v l b3 b4 b5 w k n xr i ve)(d:∀ a' w',Z0c b3 b4 g b5 a'->Tv a' 6=Aa O (Z4 l k 9:Nat)->DiS W g v l b3 b4 b5 w' (k+1) n xr i ve->K a' w'):(Z2 2 (Z3 f65)).wp Ad (Exit.then K Q) a w:=by
 obtain ⟨t,rfl⟩:=f.op;clear f;obtain ⟨p,b⟩:=exq (Z4 l k 9);have j:=Z0 b;rw [<-b] at d
 clear b;have h:=Z0 e;clear e
 conv=>arg 2;whnf
 go_wp2_with (first | (go_at_call 53;go_loud (refine (h.pick1 9).mono ?_;rw [<-j.out];rintro r m ⟨rfl,hd⟩;have c:=Z0 hd;clear hd)))
 exact d _ _ {} rfl c
variable {q:Nat}
theorem di3 (d:Z0c b3 b4 g b5 a)(c:Tv a 6=Aa O (q:Nat))(b:DiS W g v l b3 b4 b5 w k n xr i ve)(e:∀ a' w',Z0c b3 b4 g b5 a'->Tv a' 6=Aa O (q:Nat)->Tv a' 14=.bool (decide (q<3))->DiS W g v l b3 b4 b5 w' k n xr i ve->K a' w'):(Z2 0 (Z2 3 (Z3 f65))).wp Ad (Exit.then K Q) a w:=by
 obtain ⟨t,rfl⟩:=d.op;clear d;rw [show t 6=_ from c];clear c;have f:=Z0 b;clear b;have hd:decide ((q:Int)<3)=decide (q<3):=by simp <;> omega
 conv=>arg 2;whnf
 go_wp2_with fail
 exact e _ _ {} rfl (by simp [Act.eval] <;> omega) f
theorem di5 (d:Z0c b3 b4 g b5 a)(c:Tv a 6=Aa O (q:Nat))(b:DiS W g v l b3 b4 b5 w k n xr i ve)(e:∀ a' w',Z0c b3 b4 g b5 a'->Tv a' 6=Aa O (q:Nat)->Tv a' 17=.bool (decide (q=3))->DiS W g v l b3 b4 b5 w' k n xr i ve->K a' w'):(Z2 0 (Yf (Z1 1 (Z2 3 (Z3 f65))))).wp Ad (Exit.then K Q) a w:=by
 obtain ⟨t,rfl⟩:=d.op;clear d;rw [show t 6=_ from c];clear c;have f:=Z0 b;clear b
 conv=>arg 2;whnf
 go_wp2_with fail
 exact e _ _ {} rfl (by by_cases h:q=3 <;> simp [Act.eval,h] <;> omega) f
theorem di4 (c:Z0c b3 b4 g b5 a)(b:DiS W g v l b3 b4 b5 w k n xr i ve)(d:∀ a' w',Z0c b3 b4 g b5 a'->DiS W g v l b3 b4 b5 w' k n xr { i with ki:=1 } ve->K a' w'):(Za (Z1 1 (Z2 3 (Z3 f65)))).wp Ad (Exit.then K Q) a w:=by
 obtain ⟨t,rfl⟩:=c.op;clear c;have j:=b.ib.cell 0;have f:=b.ib.free 0;have e:=Z0 b;clear b
 conv=>arg 2;whnf
 go_wp2_with fail
 exact d _ _ {} (e.kind 1)
theorem di6 (c:Z0c b3 b4 g b5 a)(b:DiS W g v l b3 b4 b5 w k n xr i ve)(d:∀ a' w',Z0c b3 b4 g b5 a'->DiS W g v l b3 b4 b5 w' k n xr { i with ki:=3 } ve->K a' w'):(Z2 0 (Za (Z1 1 (Yf (Z1 1 (Z2 3 (Z3 f65))))))).wp Ad (Exit.then K Q) a w:=by
 obtain ⟨t,rfl⟩:=c.op;clear c;have j:=b.ib.cell 0;have f:=b.ib.free 0;have e:=Z0 b;clear b
 conv=>arg 2;whnf
 go_wp2_with fail
 exact d _ _ {} (e.kind 3)
theorem di8 (hL:l.length<=1048576)(u:k<=890000000)(f:Z0c b3 b4 g b5 a)(e:DiS W g v l b3 b4 b5 w k n xr i ve)(d:∀ a' w',Z0c b3 b4 g b5 a'->Tv a' 24=.bool (decide (Z4 l k 6=0))->DiS W g v l b3 b4 b5 w' (k+1) n xr i ve->K a' w'):(Z2 2 (Za (Z1 1 (Yf (Z1 1 (Z2 3 (Z3 f65))))))).wp Ad (Exit.then K Q) a w:=by
 obtain ⟨t,rfl⟩:=f.op;clear f;obtain ⟨p,b⟩:=exq (Z4 l k 6);have j:=Z0 b;rw [<-b] at d
 clear b;have h:=Z0 e;clear e
 conv=>arg 2;whnf
 go_wp2_with (first | (go_at_call 53;go_loud (refine (h.pick1 6).mono ?_;rw [<-j.out];rintro r o ⟨rfl,hd⟩;have c:=Z0 hd;clear hd)))
 exact d _ _ {} (by by_cases m:p=0 <;> simp [Act.eval,m]) c
theorem di0 {x:RV}{B:Nat}(f:SzD a 50)(j:Tv a 0=Ae (Ac ⟨g,0,Ab⟩))(d:Tv a 1=Aw (ndC n x))(b:NdO w B n x)(c:∀ a' w',SzD a' 50->Tv a' 0=Ae (Ac ⟨g,0,Ab⟩)->Tv a' 3=Ae (Ac ⟨w.heap.size,0,Ab⟩)->Tv a' 4=Ae (Ac ⟨w.heap.size+1,0,Ab⟩)->w'=(w.alloc (At (ndC n x) 36)).alloc (At inp00 46)->K a' w'):(Z2 0 (Z3 f65)).wp Ad (Exit.then K Q) a w:=by
 obtain ⟨t,rfl⟩:=f.opened;clear f;rw [lst50]
 try dsimp only
 rw [show t 0=_ from j,show t 1=_ from d];clear j d;obtain ⟨a0,u,e0⟩:=b.log.shape;obtain ⟨y,m,h⟩:=b.gr.shape;obtain ⟨o,z,e2⟩:=b.nx.shape;obtain ⟨p,r,e3⟩:=b.mt.shape;obtain ⟨a4,p4,e4⟩:=b.se.shape;obtain ⟨s,p5,e5⟩:=b.st.shape;have e:ndC n x=(n.arrC (I a0 n.log.length u) (I y n.gr.length m) (I o n.nx.length z) (I p n.mt.length r) (I a4 n.se.length p4) (I s n.st.length p5)):=by unfold ndC;rw [e0,h,e2,e3,e4,e5]
 rw [e] at c ⊢;clear e b e0 h e2 e3 e4 e5;unfold inp00 at c
 conv=>arg 2;whnf
 go_wp2_with fail
 exact c _ _ ⟨rfl,rfl⟩ rfl rfl rfl rfl
theorem di1 (hL:l.length<=1048576)(hk:k<=890000000)(h:SzD a 50)(s:Tv a 0=Ae (Ac ⟨g,0,Ab⟩))(o:Tv a 3=Ae (Ac ⟨b3,0,Ab⟩))(f:Tv a 4=Ae (Ac ⟨b4,0,Ab⟩))(m:DiN W g v l b3 b4 w k n xr)(j:∀ a' w' b5,SzD a' 50->Tv a' 0=Ae (Ac ⟨g,0,Ab⟩)->Tv a' 3=Ae (Ac ⟨b3,0,Ab⟩)->Tv a' 4=Ae (Ac ⟨b4,0,Ab⟩)->Tv a' 5=Ae (Ac ⟨b5,0,Ab⟩)->DiS W g v l b3 b4 b5 w' (k+1) n xr (inp0 ((Z4 l k 200:Nat)-50)) (I Ab 0 0)->K a' w'):(Z2 1 (Z3 f65)).wp Ad (Exit.then K Q) a w:=by
 obtain ⟨t,rfl⟩:=h.opened;clear h;rw [lst50]
 try dsimp only
 rw [show t 0=_ from s,show t 3=_ from o,show t 4=_ from f];clear s o f;obtain ⟨p,b⟩:=exq (Z4 l k 200);have y:=Z0 b;rw [<-b] at j;have z:p<200:=b▸Z6 _ _ _ (by omega)
 clear b;have u:=Z0 m;clear m;have hw:IntKind.i64.wrap ((p:Int)-50)=(p:Int)-50:=wry
 have d:Hid ((Z12 (inp0 ((p:Int)-50)) (I Ab 0 0)).all (·.oneCell')=true):=by unfold Hid Z12;simp [Bh]
 conv=>arg 2;whnf
 go_wp2_with (first | (go_at_call 53;go_loud (refine (u.pick1 200).mono ?_;rw [<-y.out];rintro r c ⟨rfl,hd⟩;have e:Hid (DiS W g v l b3 b4 c.heap.size (c.alloc (At (Z12 (inp0 ((p:Int)-50)) (I Ab 0 0)) 46)) (k+1) n xr (inp0 ((p:Int)-50)) (I Ab 0 0)):=hd.new _ ⟨_,_,_,rfl⟩;clear hd)) | (refine Zn 46 _ _ rfl ?_;go_loud (refine Zt rfl 46 _ _ rfl _ rfl rfl rfl Z20 rfl rfl d ?_)))
 exact j _ _ c.heap.size ⟨rfl,rfl⟩ rfl rfl rfl rfl e
end
structure AkR (W:Ag) (D b2 b3 b5 b6:Nat) (n:Nd) (x:RV) (m:Mg) (ve:Af) (b c:Bool) (w:Ag):Prop where
 nb:Blk w b5 (ndC n x) 36
 own:NdO w W.heap.size n x
 mb:Blk w b6 (msV m ve) 43
 r2:Blk w b2 (cond b (ndC n x) Z32) 36
 r3:Blk w b3 (cond c (msV m ve) mg10) 43
 bl:Below D W w
 sv:∃ a n c,ve=I a n c
 cs:b2<W.heap.size/\b3<W.heap.size/\D<=b2/\D<=b3/\b2≠b3/\W.heap.size<=b5/\W.heap.size<=b6
section
variable {W w:Ag} {D b2 b3 b5 b6:Nat} {n:Nd} {x:RV} {m:Mg} {ve:Af} {b c:Bool}
theorem AkR.drew (h:AkR W D b2 b3 b5 b6 n x m ve b c w):AkR W D b2 b3 b5 b6 n x m ve b c w.drew:=by
 have a:Below w.heap.size w w.drew:=(Below.refl _ _).drew;exact ⟨h.nb.below a h.nb.lt,h.own.keep λq _ h2=>a.block q h2,h.mb.below a h.mb.lt,h.r2.below a h.r2.lt,h.r3.below a h.r3.lt,h.bl.drew,h.sv,h.cs⟩
theorem AkR.one (h:AkR W D b2 b3 b5 b6 n x m ve b c w):(msV m ve).all (·.oneCell')=true:=by
 obtain ⟨a,n,c,d⟩:=h.sv;unfold msV;rw [d];simp [Bh]
end
end Go.Proofs.YtmmpoppgabadmaaGreat
