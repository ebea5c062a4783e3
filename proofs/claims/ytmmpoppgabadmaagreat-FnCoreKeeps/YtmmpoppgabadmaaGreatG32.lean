import Derived.Test.YtmmpoppgabadmaaGreatG23
import Derived.Test.YtmmpoppgabadmaaGreatG31
set_option linter.unusedVariables false
set_option linter.unusedSimpArgs false
set_option maxRecDepth 100000
set_option maxHeartbeats 16000000
open Go.Value renaming slice → I,int → Aa,pointer → Ae,agg → Aw,string → Az
open Go.IntKind renaming i64 → O
open _root_.Option renaming none → Ab,some → Ac
open Go.Proofs.Tryz renaming prog → Ad
open Go renaming Value → Af,World → Ag,Calls → Ar,wp_seq_k → A0,wp_skip → Bz,wp_block → Cd
open Go.RowKit renaming Below → Ai
open Go.Ending renaming returned → Aj
open Go.RowKit.Below renaming refl → An
open _root_.Nat renaming le_refl → Ao,le_trans → Ap,zero_le → Bb,lt_of_lt_of_le → Bk,lt_or_ge → B1
open Go.World.ownsRow renaming lt → Aq
open Go.Obj renaming cells → At
open Go.Operand renaming tmp → Ay
open Go.Act renaming eval → Bi
namespace Go.Proofs.YtmmpoppgabadmaaGreat
open Go.Proofs.Tryz
open Go.RowKit
def Z19 (n:Nd)(i:Inp):Rn:=Z2j n i.dr i.ki i.m i.cl i.sq i.op i.ky i.vv i.oo
structure InAt (w:Ag) (i:Inp) (ve:Af):Prop where
 ok:InOk i
 es:Es w ve i.m.es
 lo:∀ k,ve.ownBlock=Ac k->k<w.heap.size
 sh:∃ a c,ve=I a i.m.es.length c/\i.m.es.length<=c
section
variable {w:Ag} {B:Nat} {n:Nd} {x:RV} {i:Inp} {ve:Af}
theorem sStepV (a:Yb n=0)(p:NdO w B n x)(hi:InAt w i ve):Ar Ad 9 #[Aw (ndC n x),Aw (Z12 i ve)] w λe w'=>∃ X,e=Aj (Aw (saC (Z19 n i) X))/\J0 w' w.heap.size (Z19 n i) X/\Ai w.heap.size w w':=by
 obtain ⟨z1,z2,z3,z4,z5,z6⟩:=Z06 n a;obtain ⟨a1,z,c,l,a5,j,q,r,c3,c4,v,g,f,e2,e3,e4,e5,e6,h⟩:=p.laid a;obtain ⟨⟨d,k,o,s,t⟩,y,b,ea,ec,rfl,u⟩:=hi;unfold ndC Z12 Z19;rw [f,e2,e3,e4,e5,e6];exact sStepNode_ok n i.m i.ki i.dr i.cl i.sq i.op i.ky i.vv i.oo a1 z c l a5 j ea q r c3 c4 v g ec w h.log h.gr h.nx h.mt h.se h.st (by omega) (by omega) (by omega) (by omega) (by omega) (by omega) y b (by omega) (by omega) (by omega) o s t a
theorem iStepV (a:Yb n=0)(q:NdO w B n x)(hi:InAt w i ve):Ar Ad 12 #[Aw (ndC n x),Aw (Z12 i ve)] w λe w'=>∃ X,e=Aj (Aw (saC (Z19 n i) X))/\J0 w' w.heap.size (Z19 n i) X/\Ai w.heap.size w w':=by
 obtain ⟨z1,z2,z3,z4,z5,z6⟩:=Z06 n a;obtain ⟨a1,z,f,o,a5,k,r,s,c3,c4,v,j,g,e2,e3,e4,e5,e6,h⟩:=q.laid a;obtain ⟨⟨d,l,p,t,u⟩,y,b,ea,ec,rfl,c⟩:=hi;unfold ndC Z12 Z19;rw [g,e2,e3,e4,e5,e6];exact (iStepNode_ok n i.m i.ki i.dr i.cl i.sq i.op i.ky i.vv i.oo a1 z f o a5 k ea r s c3 c4 v j ec w h.log h.gr h.nx h.mt h.se h.st (by omega) (by omega) (by omega) (by omega) (by omega) (by omega) y b (by omega) (by omega) (by omega) p t u c a).mono λe w' ⟨X,h1,h2,_,h4⟩=>⟨X,h1,h2,h4⟩
theorem l4stepV (c:Yb n=0)(y:NdO w B n x)(hi:InAt w i ve):Ar Ad 32 #[Aw (ndC n x),Aw (Z12 i ve)] w λe w'=>∃ X,e=Aj (Aw (saC (Z19 n i) X))/\J0 w' w.heap.size (Z19 n i) X/\Ai w.heap.size w w':=by
 obtain ⟨z1,z2,z3,z4,z5,z6⟩:=Z06 n c;obtain ⟨a1,a2,o,u,a5,s,z,c2,c3,c4,c5,q,p,e2,e3,e4,e5,e6,h⟩:=y.laid c;obtain ⟨⟨d,t,v,hv,ho⟩,he,j,ea,ec,rfl,aa⟩:=hi;obtain ⟨a,r,t1,f,k,g,hg,l⟩:=Z03 n c;unfold ndC Z12 Z19 Z2j;rw [p,e2,e3,e4,e5,e6,if_pos c];refine (Z87 n i.m i.ki i.dr i.cl i.sq i.op i.ky i.vv i.oo a1 a2 o u a5 s ea z c2 c3 c4 c5 q ec w h z1 (by omega) (by omega) (by omega) (by omega) (by omega) he j (by omega) a (by omega) (by omega) r t1 f k (λhr=>?_) (λhr=>?_) g v hv ho).mono λe w' ⟨b,X,h1,h2,h4⟩=>⟨X,h1,h2.ans,h4⟩
 ·exact (Z2z n hr (by have:=a.sz0;omega) a.nw0 l).1
 ·exact (Z2z n hr (by have:=a.sz0;omega) a.nw0 l).2
theorem l4copyV (a:Yb n=0)(d:NdO w B n x):Ar Ad 64 #[Aw (ndC n x)] w λe w'=>∃ X,e=Aj (Aw (ndC n X))/\NdO w' w.heap.size n X/\Ai w.heap.size w w':=by
 obtain ⟨z1,z2,m,q,p,y⟩:=Z06 n a;obtain ⟨t,s,f,k,z,j,l,o,v,u,r,g,b,e2,e3,e4,e5,e6,h⟩:=d.laid a;have c:=Z8e n _ _ _ _ _ _ w h z1 (by omega) (by omega) (by omega) (by omega) (by omega);unfold ndC;rw [b,e2,e3,e4,e5,e6];exact c.mono λe w' ⟨u1,u2,u3,u4,u5,u6,k1,k2,k3,k4,k5,k6,k7,k8,k9⟩=>⟨⟨u1,u2,u3,u4,u5,u6,u6,[]⟩,k1,⟨k2,k3,k4,k5,k6,k7,k8⟩,k9⟩
theorem Z3w (a:Yb n=0)(i:Inp):KpR n (Z19 n i):=step_keeps a _ _ _ _ _ _ _ _ _
theorem stepI_ok (a:Yb n=0)(i:Inp):Yb (Z19 n i).n=0:=(Jm _).2 (Z3w a i).k.ok
theorem J0.ndoV {r:Rn}(h:J0 w B r x):NdO w B r.n x:=⟨h.log,h.gr,h.nx,h.mt,h.se,h.st,h.ap⟩
end
section
def Z0h (s:List Int)(id y:Int):Nat->List Int
 | 0=>s
 | j+1=>if (j:Int)+1=id then Z0h s id y j else (Z0h s id y j).set j y
theorem Z29 (s:List Int)(id y:Int):∀ k,(Z0h s id y k).length=s.length
 | 0=>rfl
 | k+1=>by
  rw [Z0h];split
  ·exact Z29 s id y k
  ·rw [List.length_set];exact Z29 s id y k
theorem Z5x (s:List Int)(id y:Int)(j:Nat):∀ k,(Z0h s id y k).getD j 0=s.getD j 0∨((j:Int)+1≠id/\(Z0h s id y k).getD j 0=y)
 | 0=>.inl rfl
 | k+1=>by
  rw [Z0h];split
  ·exact Z5x s id y j k
  ·rename_i hc
   rw [Z0w];split
   ·rename_i h2
    exact .inr ⟨by rw [<-h2.1];exact hc,rfl⟩
   ·exact Z5x s id y j k
theorem setK_all (s:List Int)(id y:Int)(j:Nat)(d:j<s.length)(a:(j:Int)+1≠id):∀ k,j<k->(Z0h s id y k).getD j 0=y
 | 0,h=>by omega
 | k+1,h=>by
  rw [Z0h];by_cases e:j=k
  ·rw [if_neg (by rw [<-e];exact a),Z0w,if_pos ⟨e.symm,by rw [Z29];omega⟩]
  ·have b:=setK_all s id y j d a k (by omega)
   split
   ·exact b
   ·rw [Z0w,if_neg (λq=>e q.1.symm)];exact b
def nsC (n:Nd)(d:Int):Nd:={ n with nw:=1000,hd:=990,dl:=1000+d }
def nsR (n:Nd):Nd:=if n.ro=3 then { n with se:=Z0h n.se n.id 995 n.sz.toNat,st:=Z0h n.st n.id 996 n.sz.toNat } else n
def nsN (l:List Int)(D:DnS):DnS:=
 if 1000<D.n.nw/\Z4 l D.k 2=0 then ⟨nsR (nsC D.n (Z4 l (D.k+1) D.n.el.toNat:Nat)),D.k+1+Zf D.n.el.toNat⟩ else ⟨D.n,if 1000<D.n.nw then D.k+1 else D.k⟩
variable {n:Nd}
theorem nsR_ok {d:Int}(h:Ya n)(hd:0<=d/\d<n.el):Ya (nsR (nsC n d)):=by
 have r:=h.el;by_cases b:n.ro=3
 ·obtain ⟨f,o⟩:=h.l1 b
  have e:nsR (nsC n d)={ nsC n d with se:=Z0h n.se n.id 995 n.sz.toNat,st:=Z0h n.st n.id 996 n.sz.toNat }:=if_pos b;rw [e];refine ⟨h.sz,h.id,h.el,h.bt,h.tm,h.vo,h.vt,h.ro,h.ld,h.r0,h.r1,h.r2,h.r3,h.len,h.pw,h.en,h.cm,by show (0:Int)<=1000/\(1000:Int)<=1099511627776;omega,by show 0<=1000+d/\1000+d<=1000+2*n.el;omega,by show (0:Int)<=990/\(990:Int)<=1000;omega,h.g0,h.g1,λq=>absurd b q,λ_=>⟨⟨f.1,f.2.1,by show ((Z0h n.se n.id 995 n.sz.toNat).length:Int)=n.sz;rw [Z29];exact f.2.2.1,by show ((Z0h n.st n.id 996 n.sz.toNat).length:Int)=n.sz;rw [Z29];exact f.2.2.2⟩,λj hj=>?_⟩⟩;have m:(j:Int)<n.sz:=hj;obtain ⟨-,-,l3,l4⟩:=f;have a:=o j m;unfold Z41 at a ⊢;show if (j:Int)+1=n.id then _/\_/\(Z0h n.se n.id 995 n.sz.toNat).getD j 0=0/\(Z0h n.st n.id 996 n.sz.toNat).getD j 0=0 else _/\_/\(0<=(Z0h n.se n.id 995 n.sz.toNat).getD j 0/\(Z0h n.se n.id 995 n.sz.toNat).getD j 0<=1000)/\(0<=(Z0h n.st n.id 996 n.sz.toNat).getD j 0/\(Z0h n.st n.id 996 n.sz.toNat).getD j 0<=1000)
  by_cases e2:(j:Int)+1=n.id
  ·rw [if_pos e2] at a ⊢
   refine ⟨a.1,a.2.1,?_,?_⟩
   ·rcases Z5x n.se n.id 995 j n.sz.toNat with h8 | h8
    ·rw [h8];exact a.2.2.1
    ·exact absurd e2 h8.1
   ·rcases Z5x n.st n.id 996 j n.sz.toNat with h8 | h8
    ·rw [h8];exact a.2.2.2
    ·exact absurd e2 h8.1
  ·rw [if_neg e2] at a ⊢
   rw [setK_all n.se n.id 995 j (by omega) e2 _ (by omega),setK_all n.st n.id 996 j (by omega) e2 _ (by omega)];exact ⟨a.1,a.2.1,by omega,by omega⟩
 ·have e:nsR (nsC n d)=nsC n d:=if_neg b
  rw [e];exact ⟨h.sz,h.id,h.el,h.bt,h.tm,h.vo,h.vt,h.ro,h.ld,h.r0,h.r1,h.r2,h.r3,h.len,h.pw,h.en,h.cm,by show (0:Int)<=1000/\(1000:Int)<=1099511627776;omega,by show 0<=1000+d/\1000+d<=1000+2*n.el;omega,by show (0:Int)<=990/\(990:Int)<=1000;omega,h.g0,h.g1,h.l0,λq=>absurd q b⟩
theorem nsN_ok (l:List Int)(D:DnS)(h:Yb D.n=0):Yb (nsN l D).n=0/\(nsN l D).k<=D.k+10:=by
 have a:=(Jm _).1 h;have b:=a.el;have d:=Z48 D.n.el.toNat;unfold nsN;split
 ·have e:=Z6 l (D.k+1) D.n.el.toNat
  exact ⟨(Jm _).2 (nsR_ok a (by omega)),by show D.k+1+Zf D.n.el.toNat<=_;omega⟩
 ·exact ⟨h,by show (if 1000<D.n.nw then D.k+1 else D.k)<=_;split <;> omega⟩
structure ScS where
 n:Nd
 k:Nat
 L:List Inp
def nsS (l:List Int)(n:Nd)(k:Nat):Nat->ScS
 | 0=>⟨n,k,[]⟩
 | j+1=>⟨(Z19 (nsS l n k j).n (diX l (nsS l n k j).k (nsS l n k j).n).i).n,(diX l (nsS l n k j).k (nsS l n k j).n).k,(nsS l n k j).L ++ [(diX l (nsS l n k j).k (nsS l n k j).n).i]⟩
theorem termAt_ok (h:Ya n)(q:Nat):0<=Zy n.log q/\Zy n.log q<=1073741824:=by
 have b:=h.tm;unfold Zy;split
 ·omega
 ·rcases B1 (q-1) n.log.length with hq | hq
  ·have a:=h.en _ (List.getElem_mem hq)
   simp only [List.getElem?_eq_getElem hq];show 0<=(n.log[q-1]).t/\(n.log[q-1]).t<=_;omega
  ·simp only [List.getElem?_eq_none hq]
   show (0:Int)<=0/\(0:Int)<=_;omega
theorem nsS_ok (l:List Int)(n:Nd)(k:Nat)(h:Yb n=0):∀ j,Yb (nsS l n k j).n=0/\(nsS l n k j).k<=k+4000*j/\(nsS l n k j).L.length=j/\∀ i∈(nsS l n k j).L,InOk i
 | 0=>⟨h,Ao _,rfl,λi hi=>by cases hi⟩
 | j+1=>by
  obtain ⟨b,o,e,m⟩:=nsS_ok l n k h j;have a:=(Jm _).1 b;obtain ⟨f,d⟩:=diX_ok l (nsS l n k j).k (nsS l n k j).n a.len (termAt_ok a);refine ⟨stepI_ok b _,?_,?_,?_⟩
  ·exact Ap d (by omega)
  ·exact List.length_append.trans (by rw [e];rfl)
  ·intro i hi
   rcases List.mem_append.1 hi with hi | hi
   ·exact m i hi
   ·rw [List.mem_singleton] at hi;rw [hi];exact f
structure Oi where
 i:Inp
 a:Option Addr
 c:Nat
def Oi.v (p:Oi):Af:=I p.a p.i.m.es.length p.c
def oiC (p:Oi):List Af:=(Z12 p.i p.v).toList
theorem oiLaw:GLaw oiC 18 46 62:={
 und:=underlying62
 info:=by
  obtain ⟨f,hi,b,d,e⟩:=info_parts (show (Tryz.prog.info? 46).map (λi=>(i.zero,i.size,i.bytes))=Ac (Ac (Aw inp00),18,184) by kernel_rfl);exact ⟨f,_,_,hi,b,d,e,rfl,by decide⟩
 pos:=by decide
 len:=λ_=>rfl
 one:=λa u hu=>by
  simp only [oiC,Oi.v,Z12,List.mem_cons,List.not_mem_nil,or_false] at hu;rcases hu with rfl | rfl | rfl | rfl | rfl | rfl | rfl | rfl | rfl | rfl | rfl | rfl | rfl | rfl | rfl | rfl | rfl | rfl <;> rfl }
section
variable {W w w' w1 w2 w3:Ag} {g b5 b11 k k':Nat} {v:Af} {l:List Int} {n n':Nd} {x x':RV} {IV IV':Af} {L:List Oi} {i:Inp} {ve:Af}
structure NsA (W w:Ag) (g b5:Nat) (v:Af) (l:List Int) (k:Nat) (n:Nd) (x:RV):Prop where
 dr:Dr W w g v l k []
 nd:NdS w W.heap.size b5 n x
 lo:W.heap.size<=b5
theorem NsA.call (h:NsA W w g b5 v l k n x)(d:Src w' g v l k')(a:w.grownBy w' (Ac g)):NsA W w' g b5 v l k' n x:=by
 have f:=h.dr.gl;have b:=h.lo;exact ⟨h.dr.call d a,h.nd.keep λq hq hlt=>a.block q hlt (λe=>by injection e with e;omega),h.lo⟩
theorem NsA.below (h:NsA W w g b5 v l k n x)(a:Ai w.heap.size w w'):NsA W w' g b5 v l k n x:=⟨h.dr.below a,h.nd.below a,h.lo⟩
theorem NsA.pickN (h:NsA W w g b5 v l k n x)(q:Nat)(hL:l.length<=1048576:=by assumption)(a:k<=900000000:=by omega)(b:0<q:=by omega)(d:q<=4294967296:=by omega) :
  Ar Ad 53 #[Ae (Ac ⟨g,0,Ab⟩),Aa O q] w λe w'=>e=Aj (Aa O (Z4 l k q:Nat))/\NsA W w' g b5 v l (k+Zf q) n x:=
 (Zk g w v l k q hL a b d h.dr.src).mono λe w' ⟨h1,h2,h3⟩=>⟨h1,h.call h2 h3⟩
theorem NsA.set (h:NsA W w g b5 v l k n x)(j:Nat)(d:j<12)(y:Int:=by rfl)(a:(ndC n x).setIfInBounds j (Aa O y)=ndC n' x:=by rfl)(b:n'.log=n.log:=by rfl)(e2:n'.gr=n.gr:=by rfl)(e3:n'.nx=n.nx:=by rfl)(e4:n'.mt=n.mt:=by rfl)(e5:n'.se=n.se:=by rfl)(e6:n'.st=n.st:=by rfl):NsA W (w.setCell ⟨b5,j,Ab⟩ (Aa O y)) g b5 v l k n' x:=
 ⟨h.dr.storeO h.lo _,h.nd.set j d y a b e2 e3 e4 e5 e6,h.lo⟩
variable {q:Nat}
theorem NdS.rowSet {B j:Nat}{u:Af}{s:List Int}(h:NdS w B b5 n x)(m:u∈[x.vg,x.vn,x.vm,x.vs,x.vt])(d:Zc inC 1 3 w B u s)(a:u.ownBlock=Ac q)(y:Int):(∀ p,p≠q->(w.setCell ⟨q,j,Ab⟩ (Aa O y)).heap[p]? = w.heap[p]?)/\q≠b5/\B<=q/\Blk (w.setCell ⟨q,j,Ab⟩ (Aa O y)) b5 (ndC n x) 36/\Zh (w.setCell ⟨q,j,Ab⟩ (Aa O y)) B x.vl n.log:=by
 have b:∀ p,p≠q->(w.setCell ⟨q,j,Ab⟩ (Aa O y)).heap[p]? = w.heap[p]?:=λp hp=>Below.heap_setCell _ _ _ _ hp
 have f:=Zm d h.blk (by decide) q a;exact ⟨b,f,(d.lts q a).1,h.blk.keep (b b5 f.symm),h.own.log.block λp e=>b p λe'=>Yq h.own.log.g d (by decide) p e (by rw [e'];exact a)⟩
variable {c:Nat}
theorem NsA.seSet (h:NsA W w g b5 v l k n x)(d:x.vs=I (Ac ⟨q,0,Ab⟩) n.se.length c)(j:Nat)(hj:j<n.se.length)(y:Int):NsA W (w.setCell ⟨q,j,Ab⟩ (Aa O y)) g b5 v l k { n with se:=n.se.set j y } x:=by
 have m:x.vs.ownBlock=Ac q:=by rw [d];rfl
 obtain ⟨r,hn,b,t,z⟩:=h.nd.rowSet (j:=j) (by simp) h.nd.own.se m y;have a:∀ {u:Af} {s:List Int},Zc inC 1 3 w W.heap.size u s->Yd u x.vs->Zc inC 1 3 (w.setCell ⟨q,j,Ab⟩ (Aa O y)) W.heap.size u s:=λho ha=>ho.block λp e=>r p λe'=>ha p e (by rw [e'];exact m)
 have o:Zc inC 1 3 (w.setCell ⟨q,j,Ab⟩ (Aa O y)) W.heap.size x.vs (n.se.set j y):=by
  have f:=h.nd.own.se;rw [d] at f ⊢;exact Z37 f j hj y
 exact ⟨h.dr.storeO b _,⟨t,z,a h.nd.own.gr (Z5 h.nd.own.ap 0 3),a h.nd.own.nx (Z5 h.nd.own.ap 1 3),a h.nd.own.mt (Z5 h.nd.own.ap 2 3),o,a h.nd.own.st (Z5 h.nd.own.ap 3 4).symm,h.nd.own.ap⟩,h.lo⟩
theorem NsA.stSet (h:NsA W w g b5 v l k n x)(d:x.vt=I (Ac ⟨q,0,Ab⟩) n.st.length c)(j:Nat)(hj:j<n.st.length)(y:Int):NsA W (w.setCell ⟨q,j,Ab⟩ (Aa O y)) g b5 v l k { n with st:=n.st.set j y } x:=by
 have m:x.vt.ownBlock=Ac q:=by rw [d];rfl
 obtain ⟨r,hn,b,t,z⟩:=h.nd.rowSet (j:=j) (by simp) h.nd.own.st m y;have a:∀ {u:Af} {s:List Int},Zc inC 1 3 w W.heap.size u s->Yd u x.vt->Zc inC 1 3 (w.setCell ⟨q,j,Ab⟩ (Aa O y)) W.heap.size u s:=λho ha=>ho.block λp e=>r p λe'=>ha p e (by rw [e'];exact m)
 have o:Zc inC 1 3 (w.setCell ⟨q,j,Ab⟩ (Aa O y)) W.heap.size x.vt (n.st.set j y):=by
  have f:=h.nd.own.st;rw [d] at f ⊢;exact Z37 f j hj y
 exact ⟨h.dr.storeO b _,⟨t,z,a h.nd.own.gr (Z5 h.nd.own.ap 0 4),a h.nd.own.nx (Z5 h.nd.own.ap 1 4),a h.nd.own.mt (Z5 h.nd.own.ap 2 4),a h.nd.own.se (Z5 h.nd.own.ap 3 4),o,h.nd.own.ap⟩,h.lo⟩
structure NsB (W w1 w:Ag) (g b5:Nat) (v:Af) (l:List Int) (k:Nat) (n:Nd) (x:RV) (IV:Af) (L:List Oi):Prop where
 a:NsA W w g b5 v l k n x
 z1:W.heap.size<=w1.heap.size
 b1:b5<w1.heap.size
 zw:w1.heap.size<=w.heap.size
 kp:∀ q,q<w1.heap.size->q≠g->q≠b5->w.heap[q]? = w1.heap[q]?
 ins:Zc oiC 18 46 w w1.heap.size IV L
 es:∀ p∈L,Zh w w1.heap.size p.v p.i.m.es
theorem NsB.keep (h:NsB W w1 w g b5 v l k n x IV L)(f:NsA W w' g b5 v l k' n' x')(j:w.heap.size<=w'.heap.size)(b:∀ q,q<w.heap.size->q≠g->q≠b5->w'.heap[q]? = w.heap[q]?):NsB W w1 w' g b5 v l k' n' x' IV L:=by
 have o:=h.a.dr.gl;have m:=h.z1;have d:=h.b1;exact ⟨f,h.z1,h.b1,Ap h.zw j,λq h1 h2 h3=>(b q (Bk h1 h.zw) h2 h3).trans (h.kp q h1 h2 h3),h.ins.block λq e=>b q (h.ins.lts q e).2 (by have:=(h.ins.lts q e).1;omega) (by have:=(h.ins.lts q e).1;omega),λp hp=>(h.es p hp).block λq e=>b q (Aq (h.es p hp).2 q e).2 (by have:=(Aq (h.es p hp).2 q e).1;omega) (by have:=(Aq (h.es p hp).2 q e).1;omega)⟩
structure NsC (W w1 w:Ag) (g b5 b11:Nat) (v:Af) (l:List Int) (k:Nat) (n:Nd) (x:RV) (IV:Af) (L:List Oi) (i:Inp) (ve:Af):Prop where
 b:NsB W w1 w g b5 v l k n x IV L
 ib:Blk w b11 (Z12 i ve) 46
 il:w1.heap.size<=b11
 es:Zh w w1.heap.size ve i.m.es
theorem NsB.below (h:NsB W w1 w g b5 v l k n x IV L)(b:Ai w.heap.size w w'):NsB W w1 w' g b5 v l k n x IV L:=h.keep (h.a.below b) b.size λq h1 _ _=>b.block q h1
theorem NsB.call (h:NsB W w1 w g b5 v l k n x IV L)(d:Src w' g v l k')(b:w.grownBy w' (Ac g)):NsB W w1 w' g b5 v l k' n x IV L:=h.keep (h.a.call d b) b.size λq h1 h2 _=>b.block q h1 (λe=>h2 (by injection e))
theorem NsB.draw (h:NsB W w1 w g b5 v l k n x IV L)(f:Zh w2 w.heap.size ve i.m.es)(d:Src w2 g v l k')(j:w.grownBy w2 (Ac g)):NsC W w1 (w2.alloc (At (Z12 i ve) 46)) g b5 w2.heap.size v l k' n x IV L i ve/\IV.ownBlock≠Ac w2.heap.size:=by
 have a:Ai w2.heap.size w2 (w2.alloc (At (Z12 i ve) 46)):=(An _ _).alloc (Ao _) _;have b:=h.call d j;exact ⟨⟨b.below a,Blk.new _ _ _,b.zw,(f.le h.zw).below a⟩,λe=>by have:=(b.ins.lts _ e).2;omega⟩
theorem NsC.inAt (h:NsC W w1 w g b5 b11 v l k n x IV L i ve)(a:InOk i):InAt w i ve:=by
 have b:=a.es;refine ⟨a,h.es.es (by unfold maxLen;omega),λq e=>(Aq h.es.2 q e).2,?_⟩;rcases h.es.2.2 with ⟨e1,e2⟩ | ⟨q,cap,cur,e1,_,_,e2,_⟩
 ·exact ⟨Ab,0,by rw [e1,e2],by omega⟩
 ·exact ⟨_,_,e1,e2⟩
theorem NsC.app {a:Option Addr}(h:NsC W w1 w g b5 b11 v l k n x IV L i (I a i.m.es.length c))(aa:IV.ownBlock≠Ac b11)(o:Ai w.heap.size w w2)(ho:Zc oiC 18 46 w3 w1.heap.size IV' (L ++ [⟨i,a,c⟩]))(hg:Ye w2 IV w3 IV'):NsC W w1 w3 g b5 b11 v l k n x IV' (L ++ [⟨i,a,c⟩]) i (I a i.m.es.length c):=by
 have d:=h.b.below o;have hz:=o.size;have z:=h.ib.lt;have j:∀ q,q<w2.heap.size->IV.ownBlock≠Ac q->w3.heap[q]? = w2.heap[q]?:=λq h1 h3=>hg.block h1 h3
 have t:∀ {u:Af} {s:List Ent} {B:Nat},Zh w2 B u s->Zh w3 B u s:=λhu=>hu.block λq e=>j q (Aq hu.2 q e).2 λe'=>Yq hu.g d.ins (by decide) q e e'
 have r:∀ {u:Af} {s:List Int} {B:Nat},Zc inC 1 3 w2 B u s->Zc inC 1 3 w3 B u s:=λhu=>hu.block λq e=>j q (hu.lts q e).2 λe'=>Yq hu d.ins (by decide) q e e'
 have h5:IV.ownBlock≠Ac b5:=λe=>by have:=(d.ins.lts _ e).1;have:=d.b1;omega
 have f:=d.a.nd.own;have hA:NsA W w3 g b5 v l k n x:=⟨d.a.dr.grew hg (λq e=>Ap d.z1 (d.ins.lts q e).1) (λy hy=>by cases hy),⟨d.a.nd.blk.keep (j b5 d.a.nd.blk.lt h5),t f.log,r f.gr,r f.nx,r f.mt,r f.se,r f.st,f.ap⟩,d.a.lo⟩;refine ⟨⟨hA,d.z1,d.b1,Ap d.zw hg.g.size,λq q1 q2 q3=>(j q (Bk q1 d.zw) (λe=>by have:=(d.ins.lts _ e).1;omega)).trans (d.kp q q1 q2 q3),ho,λp hp=>?_⟩,(h.ib.below o z).keep (j b11 (by omega) aa),h.il,t (h.es.below o)⟩;rcases List.mem_append.1 hp with hp | hp
 ·exact t (d.es p hp)
 ·rw [List.mem_singleton] at hp
  rw [hp];exact t (h.es.below o)
theorem NsC.step {R:Rn}{X:RV}(h:NsC W w1 w g b5 b11 v l k n x IV L i ve)(f:J0 w2 w.heap.size R X)(m:Ai w.heap.size w w2):NsB W w1 (w2.setRow b5 (ndC R.n X)) g b5 v l k R.n X IV L:=by
 have d:=h.b.below m;have j:∀ q,q≠b5->(w2.setRow b5 (ndC R.n X)).heap[q]? = w2.heap[q]?:=λq hq=>setRow_other _ _ _ _ hq
 have e:Ai W.heap.size w2 (w2.setRow b5 (ndC R.n X)):=Yz (An _ _) d.a.lo _;exact d.keep ⟨d.a.dr.belowB e (Ao _) (λy hy=>by cases hy),NdS.row d.a.nd.blk rfl (f.ndoV.le (Ap h.b.z1 h.b.zw)),d.a.lo⟩ e.size λq _ _ q3=>j q q3
end
end
section
theorem Jl (t:Nat->Af):lst t 0 82 = [t 0,t 1,t 2,t 3,t 4,t 5,t 6,t 7,t 8,t 9,t 10,t 11,t 12,t 13,t 14,t 15,t 16,t 17,t 18,t 19,t 20,t 21,t 22,t 23,t 24,t 25,t 26,t 27,t 28,t 29,t 30,t 31,t 32,t 33,t 34,t 35,t 36,t 37,t 38,t 39,t 40,t 41,t 42,t 43,t 44,t 45,t 46,t 47,t 48,t 49,t 50,t 51,t 52,t 53,t 54,t 55,t 56,t 57,t 58,t 59,t 60,t 61,t 62,t 63,t 64,t 65,t 66,t 67,t 68,t 69,t 70,t 71,t 72,t 73,t 74,t 75,t 76,t 77,t 78,t 79,t 80,t 81]:=rfl
structure Z0b (v0 e2:Af) (g b5:Nat) (a:Act):Prop where
 sz:SzD a 82:=by exact ⟨rfl,rfl⟩
 e0:Tv a 0=v0:=by exact rfl
 e2:Tv a 2=e2:=by exact rfl
 e4:Tv a 4=Ae (Ac ⟨g,0,Ab⟩):=by exact rfl
 e5:Tv a 5=Ae (Ac ⟨b5,0,Ab⟩):=by exact rfl
variable {v0 e2:Af}{g b5:Nat}{a:Act}
theorem Z0b.op (h:Z0b v0 e2 g b5 a):∃ t:Nat->Af,a=⟨#[v0,t 1,e2,t 3,Ae (Ac ⟨g,0,Ab⟩),Ae (Ac ⟨b5,0,Ab⟩),t 6,t 7,t 8,t 9,t 10,t 11,t 12,t 13,t 14,t 15,t 16,t 17,t 18,t 19,t 20,t 21,t 22,t 23,t 24,t 25,t 26,t 27,t 28,t 29,t 30,t 31,t 32,t 33,t 34,t 35,t 36,t 37,t 38,t 39,t 40,t 41,t 42,t 43,t 44,t 45,t 46,t 47,t 48,t 49,t 50,t 51,t 52,t 53,t 54,t 55,t 56,t 57,t 58,t 59,t 60,t 61,t 62,t 63,t 64,t 65,t 66,t 67,t 68,t 69,t 70,t 71,t 72,t 73,t 74,t 75,t 76,t 77,t 78,t 79,t 80,t 81],[]⟩:=by
 obtain ⟨t,rfl⟩:=h.sz.opened;refine ⟨t,?_⟩;rw [Jl,show t 0=_ from h.e0,show t 2=_ from h.e2,show t 4=_ from h.e4,show t 5=_ from h.e5]
variable {v:Af}{Q:Exit->Act->Ag->Prop}{K:Act->Ag->Prop}{w:Ag}
theorem ns0 (b:SzD a 82)(c:Tv a 0=v)(d:∀ a' w',SzD a' 82->Tv a' 0=v->Tv a' 2=Ae (Ac ⟨w.heap.size,0,Ab⟩)->w'=w.alloc (At Z32 36)->K a' w'):(Z2 0 (Z3 f25)).wp Ad (Exit.then K Q) a w:=by
 obtain ⟨t,rfl⟩:=b.opened;clear b;rw [Jl]
 try dsimp only
 rw [show t 0=_ from c];clear c
 conv=>arg 2;whnf
 go_wp2_with fail
 exact d _ _ ⟨rfl,rfl⟩ rfl rfl rfl
theorem ns1 (p:∃ b n c,v=I b n c)(d:SzD a 82)(f:Tv a 0=v)(e:Tv a 2=e2)(o:∀ a' w',SzD a' 82->Tv a' 0=v->Tv a' 2=e2->Tv a' 4=Ae (Ac ⟨w.heap.size,0,Ab⟩)->w'=w.alloc (At #[v,Aa O 0] 91)->K a' w'):(Z2 1 (Z3 f25)).wp Ad (Exit.then K Q) a w:=by
 obtain ⟨t,rfl⟩:=d.opened;clear d;rw [Jl]
 try dsimp only
 rw [show t 0=_ from f,show t 2=_ from e];clear f e;obtain ⟨b,n,c,rfl⟩:=p
 conv=>arg 2;whnf
 go_wp2_with fail
 exact o _ _ ⟨rfl,rfl⟩ rfl rfl rfl rfl
variable {va:Option Addr}{ln vc m N:Nat}{l:List Int}
theorem ns2 {e4:Af}{D:DnS}(aa:(3:Int)+(m:Int) / 10=(N:Int))(ad:m<=400)(ab:N<=200)(q:Hid (∀ u,Ar Ad 52 #[I va ln vc] u λe w'=>e=Aj (Aa O (m:Nat))/\w'=u))(z:SzD a 82)(h0:Tv a 0=I va ln vc)(h2:Tv a 2=e2)(h4:Tv a 4=e4)(s:Hid (Ar Ad 51 #[e4,Aa O (N:Nat)] w λr w'=>∃ x,r=Aj (Aw (ndC D.n x))/\NdO w' w.heap.size D.n x/\Src w' g v l D.k/\w.grownBy w' (Ac g)))(hP:∀ a' w' x' w4,SzD a' 82->Tv a' 0=I va ln vc->Tv a' 2=e2->Tv a' 4=e4->Tv a' 5=Ae (Ac ⟨w4.heap.size,0,Ab⟩)->w'=w4.alloc (At (ndC D.n x') 36)->NdO w4 w.heap.size D.n x'->Src w4 g v l D.k->w.grownBy w4 (Ac g)->K a' w'):(Z2 2 (Z3 f25)).wp Ad (Exit.then K Q) a w:=by
 obtain ⟨t,rfl⟩:=z.opened;clear z;rw [Jl]
 try dsimp only
 rw [show t 0=_ from h0,show t 2=_ from h2,show t 4=_ from h4];clear h0 h2 h4
 conv=>arg 2;whnf
 go_wp2_with (first
  |(go_at_call 52;refine (q _).mono ?_;rintro r w1 ⟨rfl,ac⟩;subst w1)
  |(go_at_call 51;go_loud (refine s.mono ?_;rintro r w2 ⟨x2,rfl,b,c,d⟩;have p:=Z0 b;have y:=Z0 c;have o:=Z0 d;have f:=Z0 b.one.1;clear b c d))
  |(refine Zn 36 (Ay 5) _ rfl ?_;go_loud (refine Zt rfl 36 (Ay 5) _ rfl (w2.heap.size) rfl rfl rfl Y1 rfl rfl f ?_)))
 exact hP _ _ x2 w2 ⟨rfl,rfl⟩ rfl rfl rfl rfl rfl p y o
variable {W:Ag}{k:Nat}{n:Nd}{x:RV}
theorem ns3 (hL:l.length<=1048576)(hk:k<=800000000)(o:Z0b v0 e2 g b5 a)(f:NsA W w g b5 v l k n x)(b:∀ a' w',Z0b v0 e2 g b5 a'->Tv a' 25=.bool (decide (1000<n.nw/\Z4 l k 2=0))->NsA W w' g b5 v l (if 1000<n.nw then k+1 else k) n x->K a' w'):(Z2 0 (Z2 3 (Z3 f25))).wp Ad (Exit.then K Q) a w:=by
 obtain ⟨t,rfl⟩:=o.op;clear o;have s:w.cell? ⟨b5,9,Ab⟩=Ac (Aa O n.nw):=f.nd.blk.cell 9;have q:=Z0 f;clear f;obtain ⟨p,d⟩:=exq (Z4 l k 2);have y:=Z0 d;rw [<-d] at b;clear d;obtain ⟨nw,c⟩:=exq (n.nw);rw [<-c] at b s;clear c
 conv=>arg 2;whnf
 by_cases g1:1000<nw
 ·rw [if_pos g1] at b
  go_wp2_with (go_at_call 53;go_loud (refine (q.pickN 2).mono ?_;rw [<-y.out];rintro r u ⟨rfl,hd⟩;have e:Hid (NsA W u g b5 v l (k+1) n x):=hd;clear hd))
  exact b _ _ {} (by by_cases z:p=0 <;> simp [Bi,g1,z]) e
 ·rw [if_neg g1] at b
  go_wp2_with fail
  exact b _ _ {} (by simp [Bi,g1] <;> omega) q
theorem ns4 (c:Z0b v0 e2 g b5 a)(b:NsA W w g b5 v l k n x)(d:∀ a' w',Z0b v0 e2 g b5 a'->NsA W w' g b5 v l k { n with nw:=1000 } x->K a' w'):(Z2 0 (Za (Z1 1 (Z2 3 (Z3 f25))))).wp Ad (Exit.then K Q) a w:=by
 obtain ⟨t,rfl⟩:=c.op;clear c;have o:w.cell? ⟨b5,9,Ab⟩=Ac (Aa O n.nw):=b.nd.blk.cell 9;have f:=b.nd.blk.free 9;have e:=Z0 b;clear b
 conv=>arg 2;whnf
 go_wp2_with fail
 exact d _ _ {} (e.set 9 (by omega) _)
theorem ns5 (c:Z0b v0 e2 g b5 a)(b:NsA W w g b5 v l k n x)(d:∀ a' w',Z0b v0 e2 g b5 a'->NsA W w' g b5 v l k { n with hd:=990 } x->K a' w'):(Z2 1 (Za (Z1 1 (Z2 3 (Z3 f25))))).wp Ad (Exit.then K Q) a w:=by
 obtain ⟨t,rfl⟩:=c.op;clear c;have f:w.cell? ⟨b5,11,Ab⟩=Ac (Aa O n.hd):=b.nd.blk.cell 11;have e:=b.nd.blk.free 11;have o:=Z0 b;clear b
 conv=>arg 2;whnf
 go_wp2_with fail
 exact d _ _ {} (o.set 11 (by omega) _)
theorem ns6 (hL:l.length<=1048576)(hk:k<=800000000)(o:2<=n.el/\n.el<=1000)(s:Z0b v0 e2 g b5 a)(q:NsA W w g b5 v l k n x)(f:∀ a' w',Z0b v0 e2 g b5 a'->NsA W w' g b5 v l (k+Zf n.el.toNat) { n with dl:=1000+(Z4 l k n.el.toNat:Nat) } x->K a' w'):(Z2 2 (Za (Z1 1 (Z2 3 (Z3 f25))))).wp Ad (Exit.then K Q) a w:=by
 obtain ⟨t,rfl⟩:=s.op;clear s;have z:w.cell? ⟨b5,2,Ab⟩=Ac (Aa O n.el):=q.nd.blk.cell 2;have HS:=Z0 q;clear q;obtain ⟨E,e⟩:=exq (n.el.toNat);have b:n.el=(E:Int):=by omega
 rw [b] at z;rw [<-e] at f;have u:0<E/\E<=1000:=by omega
 clear e b o;obtain ⟨p,c⟩:=exq (Z4 l k E);have Hp:=Z0 c;rw [<-c] at f;have bp:p<E:=by rw [c];exact Z6 _ _ _
 clear c;have hw:IntKind.i64.wrap (1000+(p:Int))=1000+(p:Int):=wry
 conv=>arg 2;whnf
 go_wp2_with (go_at_call 53;go_loud (refine (HS.pickN E).mono ?_;rw [<-Hp.out];rintro r w9 ⟨rfl,hd⟩;have d:=Z0 hd;have aa:w9.cell? ⟨b5,10,Ab⟩=Ac (Aa O n.dl):=hd.nd.blk.cell 10;have y:=hd.nd.blk.free 10;clear hd))
 exact f _ _ {} (d.set 10 (by omega) _)
theorem ns7 (c:Z0b v0 e2 g b5 a)(b:NsA W w g b5 v l k n x)(d:∀ a' w',Z0b v0 e2 g b5 a'->Tv a' 35=.bool (decide (n.ro=3))->NsA W w' g b5 v l k n x->K a' w'):(Z2 0 (Z1 3 (Za (Z1 1 (Z2 3 (Z3 f25)))))).wp Ad (Exit.then K Q) a w:=by
 obtain ⟨t,rfl⟩:=c.op;clear c;have n6:w.cell? ⟨b5,6,Ab⟩=Ac (Aa O n.ro):=b.nd.blk.cell 6;have f:=Z0 b;clear b
 conv=>arg 2;whnf
 go_wp2_with fail
 exact d _ _ {} (by by_cases e:n.ro=3 <;> simp [Bi,e]) f
theorem ns8 (b:Z0b v0 e2 g b5 a)(c:NsA W w g b5 v l k n x)(d:∀ a' w',Z0b v0 e2 g b5 a'->Tv a' 6=Aa O 1->NsA W w' g b5 v l k n x->K a' w'):(Z2 0 (Za (Z1 1 (Z1 3 (Za (Z1 1 (Z2 3 (Z3 f25)))))))).wp Ad (Exit.then K Q) a w:=by
 obtain ⟨t,rfl⟩:=b.op;clear b;have e:=Z0 c;clear c
 conv=>arg 2;whnf
 go_wp2_with fail
 exact d _ _ {} rfl e
variable {j:Nat}
theorem ns9 (p:j<=100)(c:Z0b v0 e2 g b5 a)(d:Tv a 6=Aa O ((j:Int)+1))(b:NsA W w g b5 v l k n x)(e:∀ a' w',Z0b v0 e2 g b5 a'->Tv a' 6=Aa O ((j:Int)+1)->Tv a' 39=.bool (decide ((j:Int)+1<=n.sz))->NsA W w' g b5 v l k n x->K a' w'):(Z2 0 (Z2 0 (Zp (Zb (Z1 1 (Za (Z1 1 (Z1 3 (Za (Z1 1 (Z2 3 (Z3 f25)))))))))))).wp Ad (Exit.then K Q) a w:=by
 obtain ⟨t,rfl⟩:=c.op;clear c;rw [show t 6=_ from d];clear d;have o:w.cell? ⟨b5,1,Ab⟩=Ac (Aa O n.sz):=b.nd.blk.cell 1;have f:=Z0 b;clear b
 conv=>arg 2;whnf
 go_wp2_with fail
 exact e _ _ {} rfl rfl f
theorem ns11 (q:j<=100)(c:Z0b v0 e2 g b5 a)(d:Tv a 6=Aa O ((j:Int)+1))(b:NsA W w g b5 v l k n x)(e:∀ a' w',Z0b v0 e2 g b5 a'->Tv a' 6=Aa O ((j:Int)+1)->Tv a' 45=.bool (decide ((j:Int)+1≠n.id))->NsA W w' g b5 v l k n x->K a' w'):(Z2 0 (Zb (Z2 1 (Zp (Zb (Z1 1 (Za (Z1 1 (Z1 3 (Za (Z1 1 (Z2 3 (Z3 f25))))))))))))).wp Ad (Exit.then K Q) a w:=by
 obtain ⟨t,rfl⟩:=c.op;clear c;rw [show t 6=_ from d];clear d;have p:w.cell? ⟨b5,0,Ab⟩=Ac (Aa O n.id):=b.nd.blk.cell 0;have o:=Z0 b;clear b
 conv=>arg 2;whnf
 go_wp2_with fail
 exact e _ _ {} rfl (by by_cases f:(j:Int)+1=n.id <;> simp [Bi,f]) o
theorem ns12 (hj:j<=100)(b:j<n.se.length)(f:Z0b v0 e2 g b5 a)(r:Tv a 6=Aa O ((j:Int)+1))(d:NsA W w g b5 v l k n x)(hP:∀ a' w',Z0b v0 e2 g b5 a'->Tv a' 6=Aa O ((j:Int)+1)->NsA W w' g b5 v l k { n with se:=n.se.set j 995 } x->K a' w'):(Z2 0 (Za (Z1 1 (Zb (Z2 1 (Zp (Zb (Z1 1 (Za (Z1 1 (Z1 3 (Za (Z1 1 (Z2 3 (Z3 f25))))))))))))))).wp Ad (Exit.then K Q) a w:=by
 obtain ⟨t,rfl⟩:=f.op;clear f;rw [show t 6=_ from r];clear r;obtain ⟨q,c,e,_,cj,fj⟩:=Jg d.nd.own.se j b;have u:=Z0 (d.seSet e j b 995);have cv:w.cell? ⟨b5,16,Ab⟩=Ac (I (Ac ⟨q,0,Ab⟩) n.se.length c):=by rw [<-e];exact d.nd.blk.cell 16
 obtain ⟨N,o⟩:=exq (n.se.length);rw [<-o] at cv;have aa:(j:Int)<(N:Int):=by omega
 have z:IntKind.i64.wrap ((j:Int)+1-1)=(j:Int):=wry
 have s:=wrx (j:Int)
 obtain ⟨y,p⟩:=exq (n.se[j]);rw [<-p] at cj;clear d e p o b
 conv=>arg 2;whnf
 go_wp2_with fail
 exact hP _ _ {} rfl u
theorem ns13 (hj:j<=100)(b:j<n.st.length)(f:Z0b v0 e2 g b5 a)(r:Tv a 6=Aa O ((j:Int)+1))(d:NsA W w g b5 v l k n x)(hP:∀ a' w',Z0b v0 e2 g b5 a'->Tv a' 6=Aa O ((j:Int)+1)->NsA W w' g b5 v l k { n with st:=n.st.set j 996 } x->K a' w'):(Z1 1 (Za (Z1 1 (Zb (Z2 1 (Zp (Zb (Z1 1 (Za (Z1 1 (Z1 3 (Za (Z1 1 (Z2 3 (Z3 f25))))))))))))))).wp Ad (Exit.then K Q) a w:=by
 obtain ⟨t,rfl⟩:=f.op;clear f;rw [show t 6=_ from r];clear r;obtain ⟨q,c,e,_,cj,fj⟩:=Jg d.nd.own.st j b;have u:=Z0 (d.stSet e j b 996);have cv:w.cell? ⟨b5,17,Ab⟩=Ac (I (Ac ⟨q,0,Ab⟩) n.st.length c):=by rw [<-e];exact d.nd.blk.cell 17
 obtain ⟨N,o⟩:=exq (n.st.length);rw [<-o] at cv;have aa:(j:Int)<(N:Int):=by omega
 have z:IntKind.i64.wrap ((j:Int)+1-1)=(j:Int):=wry
 have s:=wrx (j:Int)
 obtain ⟨y,p⟩:=exq (n.st[j]);rw [<-p] at cj;clear d e p o b
 conv=>arg 2;whnf
 go_wp2_with fail
 exact hP _ _ {} rfl u
theorem ns10 (o:j<=100)(b:Z0b v0 e2 g b5 a)(d:Tv a 6=Aa O ((j:Int)+1))(c:NsA W w g b5 v l k n x)(e:∀ a' w',Z0b v0 e2 g b5 a'->Tv a' 6=Aa O ((j:Int)+1+1)->NsA W w' g b5 v l k n x->K a' w'):(Z1 2 (Zp (Zb (Z1 1 (Za (Z1 1 (Z1 3 (Za (Z1 1 (Z2 3 (Z3 f25))))))))))).wp Ad (Exit.then K Q) a w:=by
 obtain ⟨t,rfl⟩:=b.op;clear b;rw [show t 6=_ from d];clear d;have f:=Z0 c;clear c
 conv=>arg 2;whnf
 go_wp2_with fail
 exact e _ _ {} rfl f
theorem ns14 (h0:Yb n=0)(y:Z0b v0 e2 g b5 a)(u:NsA W w g b5 v l k n x)(hP:∀ a' w' b7 x7,Z0b v0 e2 g b5 a'->Tv a' 7=Ae (Ac ⟨b7,0,Ab⟩)->Ai w.heap.size w w'->NdS w' w.heap.size b7 n x7->w.heap.size<=b7->K a' w'):(Z2 4 (Z3 f25)).wp Ad (Exit.then K Q) a w:=by
 obtain ⟨t,rfl⟩:=y.op;clear y;have HD:=Z0 (l4copyV h0 u.nd.own);have c:=Z0 u.nd.blk;have b:Hid (18=(ndC n x).size):=rfl;have z:=Z0 trivial;clear u h0;obtain ⟨CN,e⟩:=exq (ndC n x);rw [<-e] at c HD b;clear e
 conv=>arg 2;whnf
 go_wp2_with (first
  |(have p:=z;refine Zd 36 (Ay 5) rfl ?_;clear p;refine Z7 rfl 36 (Ay 5) rfl b5 rfl c underlying36 rfl Y1 b ?_;clear z)
  |(go_at_call 64;go_loud (refine HD.mono ?_;rintro r d ⟨X,rfl,s,f⟩;have HN:Hid (NdS (d.alloc (At (ndC n X) 36)) w.heap.size d.heap.size n X):=⟨Blk.new _ _ _,s.keep λq _ h2=>((An _ _).alloc (Ao _) _).block q h2⟩;have HB:Hid (Ai w.heap.size w (d.alloc (At (ndC n X) 36))):=f.alloc f.size _;have HZ:=Z0 f.size;have o:=Z0 s.one.1;clear s f))
  |(refine Zn 36 (Ay 7) _ rfl ?_;go_loud (refine Zt rfl 36 (Ay 7) _ rfl (d.heap.size) rfl rfl rfl Y1 rfl rfl o ?_)))
 exact hP _ _ d.heap.size X {} rfl HB HN HZ
variable {e7:Af}
theorem ns15 (b:Z0b v0 e2 g b5 a)(c:Tv a 7=e7)(d:∀ a' w',Z0b v0 e2 g b5 a'->Tv a' 7=e7->Tv a' 8=I (Ac ⟨w.heap.size,0,Ab⟩) 0 0->w'=w.alloc (At #[] 46)->K a' w'):(Z2 5 (Z3 f25)).wp Ad (Exit.then K Q) a w:=by
 obtain ⟨t,rfl⟩:=b.op;clear b;rw [show t 7=_ from c];clear c
 conv=>arg 2;whnf
 go_wp2_with fail
 exact d _ _ {} rfl rfl rfl
variable {w1:Ag}{IV:Af}{L:List Oi}
theorem ns16 (hL:l.length<=1048576)(hk:k<=800000000)(aa:(4:Int)+(m:Int) / 10=(N:Int))(ad:m<=400)(ab:4<=N/\N<=44)(o:Hid (∀ u,Ar Ad 52 #[I va ln vc] u λe w'=>e=Aj (Aa O (m:Nat))/\w'=u))(q:SzD a 82)(h0:Tv a 0=I va ln vc)(h2:Tv a 2=e2)(h4:Tv a 4=Ae (Ac ⟨g,0,Ab⟩))(s:Tv a 5=Ae (Ac ⟨b5,0,Ab⟩))(z:Tv a 7=e7)(y:Tv a 8=IV)(hS:NsB W w1 w g b5 v l k n x IV L)(hP:∀ a' w',SzD a' 82->Tv a' 2=e2->Tv a' 4=Ae (Ac ⟨g,0,Ab⟩)->Tv a' 5=Ae (Ac ⟨b5,0,Ab⟩)->Tv a' 7=e7->Tv a' 8=IV->Tv a' 9=Aa O ((3+Z4 l k N:Nat):Int)->NsB W w1 w' g b5 v l (k+1) n x IV L->K a' w'):(Z2 6 (Z3 f25)).wp Ad (Exit.then K Q) a w:=by
 obtain ⟨t,rfl⟩:=q.opened;clear q;rw [Jl]
 try dsimp only
 rw [show t 0=_ from h0,show t 2=_ from h2,show t 4=_ from h4,show t 5=_ from s,show t 7=_ from z,show t 8=_ from y];clear h0 h2 h4 s z y;have HS:=Z0 hS;clear hS;obtain ⟨p,d⟩:=exq (Z4 l k N);have Hp:=Z0 d;rw [<-d] at hP;have bp:p<N:=by rw [d];exact Z6 _ _ _
 clear d;have hw:IntKind.i64.wrap (3+(p:Int))=3+(p:Int):=wry
 conv=>arg 2;whnf
 go_wp2_with (first | (go_at_call 52;refine (o _).mono ?_;rintro r w8 ⟨rfl,ac⟩;subst w8) | (go_at_call 53;go_loud (refine (Zk g _ v l k N hL (by omega) (by omega) (by omega) HS.a.dr.src).mono ?_;rw [<-Hp.out,show Zf N=1 by unfold Zf;rw [if_pos (by omega)]];rintro r w9 ⟨rfl,c,b⟩;have f:=Z0 (HS.call c b);clear c b)))
 exact hP _ _ ⟨rfl,rfl⟩ rfl rfl rfl rfl rfl (by simp [Bi]) f
variable {M:Nat}
theorem ns17 (b:SzD a 82)(f:Tv a 2=e2)(p:Tv a 4=Ae (Ac ⟨g,0,Ab⟩))(c:Tv a 5=Ae (Ac ⟨b5,0,Ab⟩))(d:Tv a 7=e7)(o:Tv a 8=IV)(e:Tv a 9=Aa O (M:Nat))(q:∀ a' w',SzD a' 82->Tv a' 2=e2->Tv a' 4=Ae (Ac ⟨g,0,Ab⟩)->Tv a' 5=Ae (Ac ⟨b5,0,Ab⟩)->Tv a' 7=e7->Tv a' 8=IV->Tv a' 9=Aa O (M:Nat)->Tv a' 10=Aa O ((0:Nat):Int)->w'=w->K a' w'):(Z2 0 (Z2 7 (Z3 f25))).wp Ad (Exit.then K Q) a w:=by
 obtain ⟨t,rfl⟩:=b.opened;clear b;rw [Jl]
 try dsimp only
 rw [show t 2=_ from f,show t 4=_ from p,show t 5=_ from c,show t 7=_ from d,show t 8=_ from o,show t 9=_ from e];clear f p c d o e
 conv=>arg 2;whnf
 go_wp2_with fail
 exact q _ _ ⟨rfl,rfl⟩ rfl rfl rfl rfl rfl rfl rfl rfl
variable {i:Nat}
theorem ns18 (c:SzD a 82)(o:Tv a 2=e2)(q:Tv a 4=Ae (Ac ⟨g,0,Ab⟩))(d:Tv a 5=Ae (Ac ⟨b5,0,Ab⟩))(e:Tv a 7=e7)(p:Tv a 8=IV)(f:Tv a 9=Aa O (M:Nat))(b:Tv a 10=Aa O (i:Nat))(r:∀ a' w',SzD a' 82->Tv a' 2=e2->Tv a' 4=Ae (Ac ⟨g,0,Ab⟩)->Tv a' 5=Ae (Ac ⟨b5,0,Ab⟩)->Tv a' 7=e7->Tv a' 8=IV->Tv a' 9=Aa O (M:Nat)->Tv a' 10=Aa O (i:Nat)->Tv a' 67=.bool (decide (i<M))->w'=w->K a' w'):(Z2 0 (Z2 0 (Zp (Zb (Z1 1 (Z2 7 (Z3 f25))))))).wp Ad (Exit.then K Q) a w:=by
 obtain ⟨t,rfl⟩:=c.opened;clear c;rw [Jl]
 try dsimp only
 rw [show t 2=_ from o,show t 4=_ from q,show t 5=_ from d,show t 7=_ from e,show t 8=_ from p,show t 9=_ from f,show t 10=_ from b];clear o q d e p f b
 conv=>arg 2;whnf
 go_wp2_with fail
 exact r _ _ ⟨rfl,rfl⟩ rfl rfl rfl rfl rfl rfl rfl (by simp [Bi]) rfl
theorem ns19 (hi:i<=1000)(c:SzD a 82)(o:Tv a 2=e2)(q:Tv a 4=Ae (Ac ⟨g,0,Ab⟩))(d:Tv a 5=Ae (Ac ⟨b5,0,Ab⟩))(e:Tv a 7=e7)(p:Tv a 8=IV)(f:Tv a 9=Aa O (M:Nat))(b:Tv a 10=Aa O (i:Nat))(r:∀ a' w',SzD a' 82->Tv a' 2=e2->Tv a' 4=Ae (Ac ⟨g,0,Ab⟩)->Tv a' 5=Ae (Ac ⟨b5,0,Ab⟩)->Tv a' 7=e7->Tv a' 8=IV->Tv a' 9=Aa O (M:Nat)->Tv a' 10=Aa O ((i+1:Nat):Int)->w'=w->K a' w'):(Z1 2 (Zp (Zb (Z1 1 (Z2 7 (Z3 f25)))))).wp Ad (Exit.then K Q) a w:=by
 obtain ⟨t,rfl⟩:=c.opened;clear c;rw [Jl]
 try dsimp only
 rw [show t 2=_ from o,show t 4=_ from q,show t 5=_ from d,show t 7=_ from e,show t 8=_ from p,show t 9=_ from f,show t 10=_ from b];clear o q d e p f b;have s:IntKind.i64.wrap ((i:Int)+1)=((i+1:Nat):Int):=wry
 conv=>arg 2;whnf
 go_wp2_with fail
 exact r _ _ ⟨rfl,rfl⟩ rfl rfl rfl rfl rfl rfl rfl rfl
variable {e9 e10:Af}
theorem ns20 {R:InK}(hR:R=diX l k n)(h0:Yb n=0)(hL:l.length<=1048576)(hk:k<=90000000)(z:SzD a 82)(h2:Tv a 2=e2)(h4:Tv a 4=Ae (Ac ⟨g,0,Ab⟩))(h5:Tv a 5=Ae (Ac ⟨b5,0,Ab⟩))(h7:Tv a 7=e7)(h8:Tv a 8=IV)(h9:Tv a 9=e9)(d:Tv a 10=e10)(b:NsB W w1 w g b5 v l k n x IV L)(hP:∀ a' w' b11 ve',SzD a' 82->Tv a' 2=e2->Tv a' 4=Ae (Ac ⟨g,0,Ab⟩)->Tv a' 5=Ae (Ac ⟨b5,0,Ab⟩)->Tv a' 7=e7->Tv a' 8=IV->Tv a' 9=e9->Tv a' 10=e10->Tv a' 11=Ae (Ac ⟨b11,0,Ab⟩)->NsC W w1 w' g b5 b11 v l R.k n x IV L R.i ve'->IV.ownBlock≠Ac b11->K a' w'):(Z2 0 (Zb (Z2 1 (Zp (Zb (Z1 1 (Z2 7 (Z3 f25)))))))).wp Ad (Exit.then K Q) a w:=by
 obtain ⟨t,rfl⟩:=z.opened;clear z;rw [Jl]
 try dsimp only
 rw [show t 2=_ from h2,show t 4=_ from h4,show t 5=_ from h5,show t 7=_ from h7,show t 8=_ from h8,show t 9=_ from h9,show t 10=_ from d];clear h2 h4 h5 h7 h8 h9 d;have HD:Hid (Ar Ad 65 #[Ae (Ac ⟨g,0,Ab⟩),Aw (ndC n x)] w (DiP w g v l R)):=by rw [hR];exact Z7e g w v l k W.heap.size n x hL (by omega) b.a.dr.src b.a.nd.own h0 b.a.dr.gl
 have o:=Z0 b.a.nd.blk;have f:Hid (18=(ndC n x).size):=rfl;have G1:=Z0 trivial;have HS:=Z0 b;clear b h0 hR;obtain ⟨CN,p⟩:=exq (ndC n x);rw [<-p] at o HD f;clear p
 conv=>arg 2;whnf
 go_wp2_with (first
  |(have u:=G1;refine Zd 36 (Ay 5) rfl ?_;clear u;refine Z7 rfl 36 (Ay 5) rfl b5 rfl o underlying36 rfl Y1 f ?_;clear G1)
  |(go_at_call 65;go_loud (refine HD.mono ?_;rintro r w2 ⟨q,rfl,y,hs,hg⟩;have HN:=Z0 (HS.draw y hs hg);have s:Hid ((Z12 R.i q).all (·.oneCell')=true):=(by obtain ⟨a,c,e⟩:=y.shape;rw [e];unfold Hid Z12;simp [Value.oneCell']);clear y hs hg))
  |(refine Zn 46 (Ay 11) _ rfl ?_;go_loud (refine Zt rfl 46 (Ay 11) _ rfl (w2.heap.size) rfl rfl rfl Z20 rfl rfl s ?_)))
 exact hP _ _ w2.heap.size q ⟨rfl,rfl⟩ rfl rfl rfl rfl rfl rfl rfl rfl HN.1 HN.2
variable {b11:Nat}
theorem ns21 {i:Inp}{c:Option Addr}{c9:Nat}(hF:SzD a 82)(h2:Tv a 2=e2)(h4:Tv a 4=Ae (Ac ⟨g,0,Ab⟩))(h5:Tv a 5=Ae (Ac ⟨b5,0,Ab⟩))(h7:Tv a 7=e7)(h8:Tv a 8=IV)(h9:Tv a 9=e9)(e:Tv a 10=e10)(q:Tv a 11=Ae (Ac ⟨b11,0,Ab⟩))(o:NsC W w1 w g b5 b11 v l k n x IV L i (I c i.m.es.length c9))(d:IV.ownBlock≠Ac b11)(f:L.length<=100)(hP:∀ a' w' IV',SzD a' 82->Tv a' 2=e2->Tv a' 4=Ae (Ac ⟨g,0,Ab⟩)->Tv a' 5=Ae (Ac ⟨b5,0,Ab⟩)->Tv a' 7=e7->Tv a' 8=IV'->Tv a' 9=e9->Tv a' 10=e10->Tv a' 11=Ae (Ac ⟨b11,0,Ab⟩)->NsC W w1 w' g b5 b11 v l k n x IV' (L ++ [⟨i,c,c9⟩]) i (I c i.m.es.length c9)->K a' w'):(Z2 1 (Zb (Z2 1 (Zp (Zb (Z1 1 (Z2 7 (Z3 f25)))))))).wp Ad (Exit.then K Q) a w:=by
 obtain ⟨t,rfl⟩:=hF.opened;clear hF;rw [Jl]
 try dsimp only
 rw [show t 2=_ from h2,show t 4=_ from h4,show t 5=_ from h5,show t 7=_ from h7,show t 8=_ from h8,show t 9=_ from h9,show t 10=_ from e,show t 11=_ from q];clear h2 h4 h5 h7 h8 h9 e q;have HS:=Z0 o;have u:Hid (Blk w b11 #[Aa O i.ki,Aa O i.dr,Aa O i.m.ki,Aa O i.m.fr,Aa O i.m.td,Aa O i.m.tm,Aa O i.m.li,Aa O i.m.lt,Aa O i.m.cm,Aa O i.m.ok,Aa O i.m.hi,I c i.m.es.length c9,Aa O i.cl,Aa O i.sq,Aa O i.op,Az i.ky,Az i.vv,Az i.oo] 46):=o.ib;have z:=Z0 f;have aa:=Z0 d;have r:=Z0 o.b.ins;have HZ:=Z0 o.b.zw;have G1:=Z0 trivial;clear o d f
 conv=>arg 2;whnf
 go_wp2_with (first
  |(have y:=G1;refine Zd 46 (Ay 11) rfl ?_;clear y;refine Z7 rfl 46 (Ay 11) rfl b11 rfl u underlying46 rfl Z20 rfl ?_;clear G1)
  |(at_builtin;go_loud (refine Yl oiLaw rfl (Ay 72) (Ay 74) rfl ⟨i,c,c9⟩ (Zc.below r ((An _ _).alloc (Ao _) _)) rfl w.heap.size 1 (Z04 w (oiC ⟨i,c,c9⟩) 46) rfl (by have:=z.out;omega) (by have:=HZ.out;simp;omega) ?_;intro v2 w2 p s;have HN:=Z0 (HS.app aa ((An _ _).alloc (Ao _) _) p s);clear p s)))
 exact hP _ _ v2 ⟨rfl,rfl⟩ rfl rfl rfl rfl rfl rfl rfl rfl HN
theorem field_saN (R:Rn)(X:RV)(w:Ag):(Instr.field 39 (Aw (saC R X)) 2).run Ad w=.ok (Aw (ndC R.n X)) w:=by
 simp [saC,ndC,Instr.field,part,underlying39,go_sem,asAgg]
theorem ns22 {i:Inp}{ve:Af}{R:Rn}(hR:R=Z19 n i)(h0:Yb n=0)(aa:InOk i)(hF:SzD a 82)(h2:Tv a 2=e2)(h4:Tv a 4=Ae (Ac ⟨g,0,Ab⟩))(h5:Tv a 5=Ae (Ac ⟨b5,0,Ab⟩))(h7:Tv a 7=e7)(h8:Tv a 8=IV)(h9:Tv a 9=e9)(p:Tv a 10=e10)(y:Tv a 11=Ae (Ac ⟨b11,0,Ab⟩))(o:NsC W w1 w g b5 b11 v l k n x IV L i ve)(hP:∀ a' w' x',SzD a' 82->Tv a' 2=e2->Tv a' 4=Ae (Ac ⟨g,0,Ab⟩)->Tv a' 5=Ae (Ac ⟨b5,0,Ab⟩)->Tv a' 7=e7->Tv a' 8=IV->Tv a' 9=e9->Tv a' 10=e10->NsB W w1 w' g b5 v l k R.n x' IV L->K a' w'):(Z1 2 (Zb (Z2 1 (Zp (Zb (Z1 1 (Z2 7 (Z3 f25)))))))).wp Ad (Exit.then K Q) a w:=by
 obtain ⟨t,rfl⟩:=hF.opened;clear hF;rw [Jl]
 try dsimp only
 rw [show t 2=_ from h2,show t 4=_ from h4,show t 5=_ from h5,show t 7=_ from h7,show t 8=_ from h8,show t 9=_ from h9,show t 10=_ from p,show t 11=_ from y];clear h2 h4 h5 h7 h8 h9 p y;have HD:Hid (Ar Ad 32 #[Aw (ndC n x),Aw (Z12 i ve)] w λe w'=>∃ X,e=Aj (Aw (saC R X))/\J0 w' w.heap.size R X/\Ai w.heap.size w w'):=by rw [hR];exact l4stepV h0 o.b.a.nd.own (o.inAt aa)
 have HS:=Z0 o;have c:=Z0 o.ib;have s:Hid (18=(Z12 i ve).size):=rfl;have u:=Z0 o.b.a.nd.blk;have q:Hid (18=(ndC n x).size):=rfl;have G1:=Z0 trivial;have G2:=Z0 trivial;clear o hR h0 aa;obtain ⟨CN,z⟩:=exq (ndC n x);rw [<-z] at u HD q;clear z;obtain ⟨CI,d⟩:=exq (Z12 i ve);rw [<-d] at c HD s;clear d
 conv=>arg 2;whnf
 go_wp2_with (first
  |(have f:=G1;refine Zd 36 (Ay 5) rfl ?_;clear f;refine Z7 rfl 36 (Ay 5) rfl b5 rfl u underlying36 rfl Y1 q ?_;clear G1)
  |(have f:=G2;refine Zd 46 (Ay 11) rfl ?_;clear f;refine Z7 rfl 46 (Ay 11) rfl b11 rfl c underlying46 rfl Z20 s ?_;clear G2)
  |(go_at_call 32;go_loud (refine HD.mono ?_;rintro r w2 ⟨X2,rfl,ha,hb⟩;have HN:=Z0 (HS.step ha hb);have ac:=Z0 (HS.b.a.nd.blk.below hb HS.b.a.nd.blk.lt);have ab:=Z0 ha.ndoV.one.1;have ad:=field_saN R X2;clear ha hb))
  |(refine Zn 36 (Ay 5) _ rfl ?_;go_loud (refine Zg rfl 36 (Ay 5) _ rfl b5 rfl rfl ac Y1 rfl rfl ab ?_)))
 exact hP _ _ X2 ⟨rfl,rfl⟩ rfl rfl rfl rfl rfl rfl rfl HN
theorem ns23 {c e:Nat}(r:SzD a 82)(z:Tv a 2=Ae (Ac ⟨c,0,Ab⟩))(u:Tv a 7=Ae (Ac ⟨e,0,Ab⟩))(h8:Tv a 8=IV)(d:Blk w e (ndC n x) 36)(b:Blk w c Z32 36)(y:(ndC n x).all (·.oneCell')=true)(hP:∀ a' w',SzD a' 82->Tv a' 2=Ae (Ac ⟨c,0,Ab⟩)->Tv a' 3=IV->w'=w.setRow c (ndC n x)->K a' w'):(Z2 8 (Z3 f25)).wp Ad (Exit.then K Q) a w:=by
 obtain ⟨t,rfl⟩:=r.opened;clear r;rw [Jl]
 try dsimp only
 rw [show t 2=_ from z,show t 7=_ from u,show t 8=_ from h8];clear z u h8;have q:=Z0 d;have o:=Z0 b;have p:=Z0 y;have s:=Z0 trivial;clear d b y
 conv=>arg 2;whnf
 go_wp2_with (first
  |(have f:=s;refine Zd 36 (Ay 7) rfl ?_;clear f;refine Z7 rfl 36 (Ay 7) rfl e rfl q underlying36 rfl Y1 rfl ?_;clear s)
  |(refine Zn 36 (Ay 2) _ rfl ?_;go_loud (refine Zg rfl 36 (Ay 2) _ rfl c rfl rfl o Y1 rfl rfl p ?_)))
 exact hP _ _ ⟨rfl,rfl⟩ rfl rfl rfl
end
variable {K:Act->Ag->Prop}{Q:Exit->Act->Ag->Prop}{a:Act}{w:Ag}
theorem wp_inB {c:Code}{m:Nat}(h:c.wp Ad (Exit.then K λ_ _ _=>False) a w):c.wp Ad (Exit.inBlock m (Exit.then K Q)) a w:=
 wp_mono h λe a' w' h=>by
  cases e with
  | normal=>exact h
  | exit id=>exact h.elim
  | goto l=>exact h.elim
  | ret=>exact h.elim
  | panic ch=>exact h.elim
  | outgrown=>exact h.elim
theorem results_blk2N {i:Func}{s c:Tmp}{ty:TypeId}{tmps:Array Af}{b:Nat}{C:Array Af}{t:TypeId}{u:Af}(m:i.results=#[.cell s ty,.tmp c])(o:tmps.getD s undef=Ae (Ac ⟨b,0,Ab⟩))(f:tmps.getD c undef=u)
  (j:Blk w b C t) {d:TypeDesc} (q:Tryz.prog.underlying ty=Ac d) (hd:d.isRow=true) {n:Nat} (hi:(Tryz.prog.info? ty).map (·.size)=Ac n) (p:n=C.size):(results i tmps).run Ad w=.ok (.tuple #[Aw C,u]) w:=by
 have e:tmps[s]?.getD undef=Ae (Ac ⟨b,0,Ab⟩):=by rw [<-o];simp
 have e2:tmps[c]?.getD undef=u:=by rw [<-f];simp
 have r:=run_loadVar_mid (P:=Ad) w b 0 ty C.toList d j.range q hd (by rw [hi,p];simp);simp [results,m,e,e2,r,asAddr]
structure NsFq (e2 e7:Af) (g b5 M:Nat) (a:Act):Prop where
 sz:SzD a 82:=by exact ⟨rfl,rfl⟩
 e2:Tv a 2=e2:=by exact rfl
 e4:Tv a 4=Ae (Ac ⟨g,0,Ab⟩):=by exact rfl
 e5:Tv a 5=Ae (Ac ⟨b5,0,Ab⟩):=by exact rfl
 e7:Tv a 7=e7:=by exact rfl
 e9:Tv a 9=Aa O (M:Nat):=by exact rfl
variable {W:Ag}{g b5 k:Nat}{v v0 e2:Af}{l:List Int}{n:Nd}{x:RV}
theorem nsLoop1 {N:Nat}(ab:n.sz=(N:Int))(hN:N<=7)(z:n.se.length=N)(aa:n.st.length=N)(y:Z0b v0 e2 g b5 a)(h6:Tv a 6=Aa O 1)(hS:NsA W w g b5 v l k n x)(hP:∀ a' w',Z0b v0 e2 g b5 a'->NsA W w' g b5 v l k { n with se:=Z0h n.se n.id 995 N,st:=Z0h n.st n.id 996 N } x->K a' w'):(Z1 1 (Za (Z1 1 (Z1 3 (Za (Z1 1 (Z2 3 (Z3 f25)))))))).wp Ad (Exit.then K Q) a w:=by
 rw [show Z1 1 (Za (Z1 1 (Z1 3 (Za (Z1 1 (Z2 3 (Z3 f25)))))))=.block 0 (.loop (Zp (Zb (Z1 1 (Za (Z1 1 (Z1 3 (Za (Z1 1 (Z2 3 (Z3 f25))))))))))) from rfl];refine Cd ?_;refine wp_loop (λa w=>∃ j:Nat,j<=N/\Z0b v0 e2 g b5 a/\Tv a 6=Aa O ((j:Int)+1)/\NsA W w g b5 v l k { n with se:=Z0h n.se n.id 995 j,st:=Z0h n.st n.id 996 j } x) (λa _=>N+1-(RowKit.intOf (Tv a 6)).toNat) ⟨0,Bb _,y,h6,hS⟩ ?_;rintro a1 w1 ⟨j,hj,F1,t,s1⟩;refine sqf (λx=>.seq (.block 1 (Zb (Z2 1 x))) (Z1 2 x)) ?_;intro K1 s;refine sqf (λx=>.cond (Ay 39) .skip (.exit 0)) ?_;intro K2 o;refine ns9 (j:=j) (by omega) F1 t s1 λa2 w2 F2 v2 u2 s2=>o _ _ ?_
 have d:Tv a2 39=.bool (decide ((j:Int)+1<=n.sz)):=u2;rcases B1 j N with hlt | hge
 ·refine wp_cond_true (d.trans (by rw [decide_eq_true (by omega)])) (Bz (s _ _ ?_))
  refine A0 ?_;intro K3 q;refine Cd ?_
  have b:∀ a' w',Z0b v0 e2 g b5 a'->Tv a' 6=Aa O ((j:Int)+1)->NsA W w' g b5 v l k { n with se:=Z0h n.se n.id 995 (j+1),st:=Z0h n.st n.id 996 (j+1) } x->K3 a' w':=by
   intro u w3 e f i;refine q _ _ ?_;refine ns10 (j:=j) (by omega) e f i λa4 w4 F4 v4 s4=>?_
   refine ⟨⟨j+1,hlt,F4,by rw [v4];rfl,s4⟩,?_⟩;rw [v4,t];simp only [RowKit.intOf];omega
  refine sqc ?_;intro K4 m;refine ns11 (j:=j) (by omega) F2 v2 s2 λu w3 e f u3 i=>m _ _ ?_
  have p:Tv u 45=.bool (decide ((j:Int)+1≠n.id)):=u3;refine wp_cond p ?_;rw [Z0h,Z0h] at b;by_cases c:(j:Int)+1=n.id
  ·rw [if_neg (by simp [c])]
   rw [if_pos c,if_pos c] at b;exact Bz (b _ _ e f i)
  ·rw [if_pos (by simp [c])]
   rw [if_neg c,if_neg c] at b;refine sqf (Z1 1) ?_;intro K5 r;refine ns12 (j:=j) (by omega) (by show j<(Z0h n.se n.id 995 j).length;rw [Z29];omega) e f i λa4 w4 F4 v4 s4=>r _ _ ?_
   exact wp_inB (ns13 (j:=j) (by omega) (by show j<(Z0h n.st n.id 996 j).length;rw [Z29];omega) F4 v4 s4 λa5 w5 F5 v5 s5=>b _ _ F5 v5 s5)
 ·have he:j=N:=by omega
  subst he;refine wp_cond_false (d.trans (by rw [decide_eq_false (by omega)])) (wp_exit ?_);exact hP _ _ F2 s2
theorem nsHead {D:DnS}(hL:l.length<=1048576)(hk:D.k<=700000000)(z:Yb D.n=0)(u:Z0b v0 e2 g b5 a)(y:NsA W w g b5 v l D.k D.n x)(b:∀ a' w',Z0b v0 e2 g b5 a'->NsA W w' g b5 v l (nsN l D).k (nsN l D).n x->K a' w'):(Z2 3 (Z3 f25)).wp Ad (Exit.then K Q) a w:=by
 have c:=(Jm _).1 z;have s:=c.el;have aa:=c.sz;unfold nsN at b;refine sqc ?_;intro K1 t;refine ns3 hL (by omega) u y λa1 w1 F1 u1 s1=>t _ _ ?_
 refine wp_cond u1 ?_;by_cases d:1000<D.n.nw/\Z4 l D.k 2=0
 ·rw [if_pos (by simp [d])]
  rw [if_pos d] at b;rw [if_pos d.1] at s1;refine sqf (λx=>.seq (Z2 1 x) (.seq (Z2 2 x) (Z1 3 x))) ?_;intro K2 j;refine ns4 F1 s1 λa2 w2 F2 s2=>j _ _ ?_
  refine A0 ?_;intro K3 o;refine ns5 F2 s2 λa3 w3 F3 s3=>o _ _ ?_
  refine A0 ?_;intro K4 i;refine ns6 hL (by omega) (by exact s) F3 s3 λa4 w4 F4 s4=>i _ _ ?_
  have p:NsA W w4 g b5 v l (D.k+1+Zf D.n.el.toNat) (nsC D.n (Z4 l (D.k+1) D.n.el.toNat:Nat)) x:=s4;clear s4;generalize hdd:((Z4 l (D.k+1) D.n.el.toNat:Nat):Int)=dd at *;refine sqc ?_;intro K5 q;refine ns7 F4 p λa5 w5 F5 u5 s5=>q _ _ ?_
  have m:Tv a5 35=.bool (decide (D.n.ro=3)):=u5;refine wp_cond m ?_;by_cases f:D.n.ro=3
  ·rw [if_pos (by simp [f])]
   have e:nsR (nsC D.n dd)={ nsC D.n dd with se:=Z0h D.n.se D.n.id 995 D.n.sz.toNat,st:=Z0h D.n.st D.n.id 996 D.n.sz.toNat }:=if_pos f;rw [e] at b;obtain ⟨⟨_,_,l3,l4⟩,_⟩:=c.l1 f;refine sqf (Z1 1) ?_;intro K6 r;refine ns8 F5 s5 λa6 w6 F6 v6 s6=>r _ _ ?_
   refine nsLoop1 (N:=D.n.sz.toNat) (by show D.n.sz=_;omega) (by omega) (by show D.n.se.length=_;omega) (by show D.n.st.length=_;omega) F6 v6 s6 λa7 w7 F7 s7=>?_
   exact b _ _ F7 s7
  ·rw [if_neg (by simp [f])]
   have e:nsR (nsC D.n dd)=nsC D.n dd:=if_neg f;rw [e] at b;exact Bz (b _ _ F5 s5)
 ·rw [if_neg (by simpa using d)]
  rw [if_neg d] at b;exact Bz (b _ _ F1 s1)
theorem nsLoop2 {r:Ag}{M:Nat}{e7 c:Af}(hL:l.length<=1048576)(hk:k<=50000000)(hM:M<=60)(h0:Yb n=0)(z:NsFq e2 e7 g b5 M a)(h8:Tv a 8=c)(o:Tv a 10=Aa O ((0:Nat):Int))(hS:NsB W r w g b5 v l k n x c [])(hP:∀ a' w' x' IV' L',NsFq e2 e7 g b5 M a'->Tv a' 8=IV'->NsB W r w' g b5 v l (nsS l n k M).k (nsS l n k M).n x' IV' L'->L'.map (·.i)=(nsS l n k M).L->K a' w'):(Z1 1 (Z2 7 (Z3 f25))).wp Ad (Exit.then K Q) a w:=by
 rw [show Z1 1 (Z2 7 (Z3 f25))=.block 2 (.loop (Zp (Zb (Z1 1 (Z2 7 (Z3 f25)))))) from rfl];refine Cd ?_;refine wp_loop (λa w=>∃(i:Nat) (x:RV) (c:Af) (L:List Oi),i<=M/\NsFq e2 e7 g b5 M a/\Tv a 8=c/\Tv a 10=Aa O (i:Nat)/\NsB W r w g b5 v l (nsS l n k i).k (nsS l n k i).n x c L/\L.map (·.i)=(nsS l n k i).L) (λa _=>M+1-(RowKit.intOf (Tv a 10)).toNat) ⟨0,x,c,[],Bb _,z,h8,o,hS,rfl⟩ ?_;rintro a1 w' ⟨i,x1,ab,L1,hi,d,g8,e,u,b⟩;obtain ⟨f,nk,nl,aa⟩:=nsS_ok l n k h0 i;have y:L1.length=i:=by rw [<-nl,<-b,List.length_map]
 refine sqf (λx=>.seq (.block 3 (Zb (Z2 1 x))) (Z1 2 x)) ?_;intro K1 t;refine sqf (λx=>.cond (Ay 67) .skip (.exit 2)) ?_;intro K2 m;refine ns18 (i:=i) d.sz d.e2 d.e4 d.e5 d.e7 g8 d.e9 e λa2 w2 f2 p2 q2 r2 t2 y2 z2 v2 u2 e2'=>m _ _ ?_
 subst e2';rcases B1 i M with hlt | hge
 ·refine wp_cond_true (u2.trans (by rw [decide_eq_true hlt])) (Bz (t _ _ ?_))
  refine A0 ?_;intro K3 q;refine Cd ?_;refine sqf (λx=>.seq (Z2 1 x) (Z1 2 x)) ?_;intro K4 j;have hd:=diX_ok l (nsS l n k i).k (nsS l n k i).n ((Jm _).1 f).len (termAt_ok ((Jm _).1 f));refine ns20 (R:=diX l (nsS l n k i).k (nsS l n k i).n) rfl f hL (by omega) f2 p2 q2 r2 t2 y2 z2 v2 u λa3 w3 b11 ve3 f3 p3 q3 r3 t3 y3 z3 v3 x3 s3 ne3=>j _ _ ?_
  obtain ⟨a9,c9,p⟩:=s3.es.shape;rw [p] at s3;refine A0 ?_;intro K5 s;refine ns21 f3 p3 q3 r3 t3 y3 z3 v3 x3 s3 ne3 (by omega) λa4 w4 IV4 f4 p4 q4 r4 t4 y4 z4 v4 x4 s4=>s _ _ ?_
  refine wp_inB (ns22 (R:=Z19 (nsS l n k i).n (diX l (nsS l n k i).k (nsS l n k i).n).i) rfl f hd.1 f4 p4 q4 r4 t4 y4 z4 v4 x4 s4 λa5 w5 x5 f5 p5 q5 r5 t5 y5 z5 v5 s5=>q _ _ ?_);refine ns19 (i:=i) (by omega) f5 p5 q5 r5 t5 y5 z5 v5 λa6 w6 f6 p6 q6 r6 t6 y6 z6 v6 e6=>?_
  subst e6;refine ⟨⟨i+1,x5,IV4,_,hlt,⟨f6,p6,q6,r6,t6,z6⟩,y6,v6,s5,?_⟩,?_⟩
  ·rw [List.map_append,b]
   rfl
  ·rw [v6,e]
   simp only [RowKit.intOf];omega
 ·have he:i=M:=by omega
  subst he;refine wp_cond_false (u2.trans (by rw [decide_eq_false (by omega)])) (wp_exit ?_);exact hP _ _ _ _ _ ⟨f2,p2,q2,r2,t2,z2⟩ y2 u b
def scN (l:List Int):DnS:=nsN l (dnD l 0 (3+min l.length 400 / 10))
def scL (l:List Int):List Inp:=(nsS l (scN l).n ((scN l).k+1) (3+Z4 l (scN l).k (4+min l.length 400 / 10))).L
theorem sc_ok (l:List Int):Yb (scN l).n=0/\(scN l).k<=6000/\(scL l).length<=60/\∀ i∈scL l,InOk i:=by
 have c:=dnD_ok l 0 (3+min l.length 400 / 10) (by omega);have j:=dnD_k l 0 (3+min l.length 400 / 10) (by omega);have b:=nsN_ok l _ c;have o:=Z6 l (scN l).k (4+min l.length 400 / 10);obtain ⟨e,f,m,d⟩:=nsS_ok l (scN l).n ((scN l).k+1) b.1 (3+Z4 l (scN l).k (4+min l.length 400 / 10));exact ⟨b.1,by have:=b.2;unfold scN;omega,by unfold scL;omega,d⟩
theorem Z5d (o:Option Addr)(s:Nat)(l:List Int)(w:Ag)(hv:Bs w (I o l.length s) l)(hL:l.length<=1048576) :
  Ar Ad 25 #[I o l.length s] w λr w'=>∃ x IV L,r=Aj (.tuple #[Aw (ndC (scN l).n x),IV])/\NdO w' w.heap.size (scN l).n x/\Zc oiC 18 46 w' w.heap.size IV L/\L.map (·.i)=scL l/\(∀ p∈L,Zh w' w.heap.size p.v p.i.m.es)/\Ai w.heap.size w w':=by
 have aq:=hv.1;obtain ⟨j,af,_,_⟩:=sc_ok l;obtain ⟨W,z⟩:=exq ((w.alloc (At Z32 36)).alloc (At #[I o l.length s,Aa O 0] 91));have bj:W.heap.size=w.heap.size+2:=by rw [z];simp
 have aa:Hid (Src W (w.heap.size+1) (I o l.length s) l 0):=by
  have h9:=Src.start (w.alloc (At Z32 36)) _ l (hv.below ((An _ _).alloc (Ao _) _)) 91;unfold Hid;rw [z];simpa using h9
 have au:Hid (Blk W w.heap.size Z32 36):=by unfold Hid;rw [z];exact (Blk.new _ _ _).alloc _
 have bb:Hid (Ai w.heap.size w W):=by unfold Hid;rw [z];exact ((An _ _).alloc (Ao _) _).alloc (by simp) _
 obtain ⟨SN,b⟩:=exq (scN l);obtain ⟨SL,c⟩:=exq (scL l);rw [<-b,<-c];rw [<-b] at j af;unfold scN at b;unfold scL at c;rw [show scN l=SN by rw [b];rfl] at c;obtain ⟨m,hm⟩:=exq (min l.length 400);rw [<-hm] at b c;have an:Hid (∀ u,Ar Ad 52 #[I o l.length s] u λe w'=>e=Aj (Aa O (m:Nat))/\w'=u):=λu=>by rw [hm];exact l1size_any o l.length s aq u
 have ak:m<=400:=by omega
 obtain ⟨N,hN⟩:∃ N,N=3+m / 10:=⟨_,rfl⟩;rw [<-hN] at b;have y:N<=200:=by omega
 have ax:(3:Int)+(m:Int) / 10=(N:Int):=by omega
 obtain ⟨N4,al⟩:∃ N,N=4+m / 10:=⟨_,rfl⟩;rw [<-al] at c;have am:4<=N4/\N4<=44:=by omega
 have aj:(4:Int)+(m:Int) / 10=(N4:Int):=by omega
 have aw:=dnD_k l 0 N y;have ab:=dnD_ok l 0 N y;have ac:=Z0 (Z85 (w.heap.size+1) W _ l 0 N hL (by omega) y aa);obtain ⟨D,hD⟩:=exq (dnD l 0 N);rw [<-hD] at aw ab ac b;have az:=Z0 b;have a0:=Z0 c;clear hm hN hD hv b c al;go_enter func25,ntmps25;show (Z3 f25).wp Ad _ _ _;refine sqf (λx=>.seq (Z2 1 x) (.seq (Z2 2 x) (.seq (Z2 3 x) (.seq (Z2 4 x) (.seq (Z2 5 x) (.seq (Z2 6 x) (.seq (.seq (Z2 0 (Z2 7 x)) (Z1 1 (Z2 7 x))) (.seq (Z2 8 x) .ret)))))))) ?_;intro K1 bi;refine ns0 (v:=I o l.length s) ⟨rfl,rfl⟩ rfl λa1 w1 f1 g0 g2 e1=>bi _ _ ?_
 refine A0 ?_;intro K2 bd;refine ns1 (v:=I o l.length s) ⟨_,_,_,rfl⟩ f1 g0 g2 λa2 w2 f2 i0 i2 i4 e2=>bd _ _ ?_
 have e3:w2=W:=by rw [e2,e1,z]
 subst e3;have e4:w1.heap.size=w.heap.size+1:=by rw [e1];simp
 rw [e4] at i4;clear z e1 e2 e4;refine A0 ?_;intro K3 ar;refine ns2 (N:=N) ax ak y an f2 i0 i2 i4 ac λa3 w3 x3 w4 f3 j0 j2 j4 j5 e3 ho hs hg=>ar _ _ ?_
 subst e3;have ae:Ai w4.heap.size w4 (w4.alloc (At (ndC D.n x3) 36)):=(An _ _).alloc (Ao _) _
 have hS:NsA w2 (w4.alloc (At (ndC D.n x3) 36)) (w.heap.size+1) w4.heap.size (I o l.length s) l D.k D.n x3:=
  ⟨((Dr.start aa).call hs hg).below ae,⟨Blk.new _ _ _,ho.keep λq _ h2=>ae.block q h2⟩,hg.size⟩
 refine A0 ?_;intro K4 ao;refine nsHead hL (by omega) ab ⟨f3,j0,j2,j4,j5⟩ hS λa5 w5 F5 s5=>ao _ _ ?_
 rw [<-az.out] at s5;refine A0 ?_;intro K5 bg;refine ns14 j F5 s5 λa6 w6 b7 x7 F6 k7 hb6 n6 lo6=>bg _ _ ?_
 have s6:=s5.below hb6;refine A0 ?_;intro K6 a4;refine ns15 F6 k7 λa7 w7 F7 l7 l8 e7=>a4 _ _ ?_
 have f:Ai w6.heap.size w6 w7:=by rw [e7];exact (An _ _).alloc (Ao _) _
 have s7:NsB w2 w6 w7 (w.heap.size+1) w4.heap.size (I o l.length s) l SN.k SN.n x3 (I (Ac ⟨w6.heap.size,0,Ab⟩) 0 0) []:=
  ⟨s6.below f,s6.dr.size,s6.nd.blk.lt,f.size,λq h1 _ _=>f.block q h1,by rw [e7];exact Zc.made oiC 18 46 w6 w6.heap.size (Ao _),λp hp=>by cases hp⟩
 refine A0 ?_;intro K7 av;refine ns16 (N:=N4) hL (by omega) aj ak am an F7.sz F7.e0 F7.e2 F7.e4 F7.e5 l7 l8 s7 λa8 w8 f8 m2 m4 m5 m7 m8 m9 s8=>av _ _ ?_
 refine A0 ?_;intro K8 ba;refine A0 ?_;intro K9 be;refine ns17 f8 m2 m4 m5 m7 m8 m9 λa9 w9 f9 n2 n4 n5 n7 n8 n9 n10 e9=>be _ _ ?_
 subst e9;have bo:=Z6 l SN.k N4;refine nsLoop2 hL (by omega) (by omega) j ⟨f9,n2,n4,n5,n7,n9⟩ n8 n10 s8 λa10 w10 x10 IV L F10 o8 s10 hm10=>ba _ _ ?_
 have ag:=s10.kp;have bn:=hg.size;have bq:=s5.nd.blk.lt;have bh:=n6.blk.keep (ag b7 n6.blk.lt (by omega) (by omega));have ah:=au.keep (s10.a.dr.grown.block _ (by omega) (λe=>by injection e with e;omega));have ay:=n6.own.keep λq h1 h2=>ag q h2 (by omega) (by omega)
 refine A0 ?_;intro bk ad;refine ns23 F10.sz F10.e2 F10.e7 o8 bh ah n6.own.one.1 λa11 w11 f11 r2 r3 e11=>ad _ _ (wp_ret ?_)
 have hk:∀ q,q≠w.heap.size->w11.heap[q]? = w10.heap[q]?:=λq hq=>by rw [e11];exact setRow_other _ _ _ _ hq
 have ai:Blk w11 w.heap.size (ndC SN.n x7) 36:=by rw [e11];exact ah.row _
 have bc:Ai w.heap.size w w11:=by
  rw [e11];refine Yz ?_ (Ao _) _;have d:=s10.a.dr.grown;exact bb.trans ⟨d.os,d.tape,d.output,d.size,λq hq=>d.block q (by omega) (λe=>by injection e with e;omega)⟩
 have bm:=s10.z1;obtain ⟨t,rfl⟩:=f11.opened;refine bodyPost_ret (results_blk2N results25 r2 r3 ai underlying36 rfl Y1 rfl) rfl ⟨x7,IV,L,rfl,?_,?_,?_,?_,bc⟩
 ·exact (ay.keep λq h1 h2=>hk q (by omega)).le (by omega)
 ·exact (s10.ins.block λq e=>hk q (by have:=(s10.ins.lts q e).1;omega)).le (by omega)
 ·rw [hm10,a0.out]
 ·exact λp hp=>((s10.es p hp).block λq e=>hk q (by have:=(Aq (s10.es p hp).2 q e).1;omega)).le (by omega)
end Go.Proofs.YtmmpoppgabadmaaGreat
