import Derived.Test.YtmmpoppgabadmaaGreatG25
set_option linter.unusedVariables false
set_option linter.unusedSimpArgs false
set_option maxRecDepth 100000
set_option maxHeartbeats 16000000
open Go.Value renaming slice → I
namespace Go.Proofs.YtmmpoppgabadmaaGreat
open Go.RowKit
section
theorem Z06 (n:Nd)(h:Yb n=0):n.log.length<=4096/\n.gr.length<=1000/\n.nx.length<=7/\n.mt.length<=7/\n.se.length<=7/\n.st.length<=7:=by
 obtain ⟨c,j,m,l,a,g,i,b⟩:=Z03 n h;have d:=(Z4o n h).2;have k:=c.sz1;have f:=c.sz0;unfold Jw at b;rw [Bool.and_eq_true,Xu] at b;obtain ⟨⟨e,e2,e3,e4⟩,_⟩:=b;refine ⟨d,a,?_,?_,?_,?_⟩
 ·split at e <;> omega
 ·split at e2 <;> omega
 ·split at e3 <;> omega
 ·split at e4 <;> omega
variable {w:World}{B:Nat}
theorem Z5h {v:Value}{l:List Int}(h:Zc inC 1 3 w B v l)(a:l.length<=1048576:=by omega):Ix w v l:=ix_sl (h.sl Z16 (by unfold maxLen;omega))
theorem NdO.laid {n:Nd}{x:RV}(a:NdO w B n x)(p:Yb n=0):∃ i b e l h g d j f c k m,x.vl=I i n.log.length d/\x.vg=I b n.gr.length j/\x.vn=I e n.nx.length f/\x.vm=I l n.mt.length c/\x.vs=I h n.se.length k/\x.vt=I g n.st.length m/\NdAt w n (I i n.log.length d) (I b n.gr.length j) (I e n.nx.length f) (I l n.mt.length c) (I h n.se.length k) (I g n.st.length m):=by
 obtain ⟨z1,r,q,t,u,s⟩:=Z06 n p;obtain ⟨i,d,o⟩:=a.log.shape;obtain ⟨b,j,e2⟩:=a.gr.shape;obtain ⟨e,f,e3⟩:=a.nx.shape;obtain ⟨l,c,e4⟩:=a.mt.shape;obtain ⟨h,k,e5⟩:=a.se.shape;obtain ⟨g,m,e6⟩:=a.st.shape;refine ⟨i,b,e,l,h,g,d,j,f,c,k,m,o,e2,e3,e4,e5,e6,?_,?_,?_,?_,?_,?_⟩
 ·rw [<-o];exact a.log.es (by unfold maxLen;omega)
 ·rw [<-e2];exact Z5h a.gr
 ·rw [<-e3];exact Z5h a.nx
 ·rw [<-e4];exact Z5h a.mt
 ·rw [<-e5];exact Z5h a.se
 ·rw [<-e6];exact Z5h a.st
end
theorem dnLd_k (l:List Int)(h:DnH)(d:DnS)(c:h.sz<=7):(Z34 l h d).k<=d.k+300:=by
 unfold Z34;split
 ·have a:=Z5m l h (X6 d.n.tm d.n.log (Z4 l d.k 4)).length d.n.nw ⟨d.n.nx,d.n.mt,d.n.se,d.n.st,d.k+1+1⟩ h.sz
  refine Nat.le_trans a.2.2.2.2 ?_;dsimp only;omega
 ·omega
theorem dnD_k (l:List Int)(k n:Nat)(i:n<=200):(dnD l k n).k<=k+5000:=by
 have j:=stD_k l k n;obtain ⟨z1,d,_⟩:=dnH_le l (stD l k n).2.2.2;rw [show dnD l k n=Z34 l (dnH l (stD l k n).2.2.2) (Z0d l (dnH l (stD l k n).2.2.2) (Z1x l (dnH l (stD l k n).2.2.2) (stD l k n).1 (Z1a l k n))) from rfl];have e:=dnLd_k l (dnH l (stD l k n).2.2.2) (Z0d l (dnH l (stD l k n).2.2.2) (Z1x l (dnH l (stD l k n).2.2.2) (stD l k n).1 (Z1a l k n))) d;have m:=(dnGr_n l (dnH l (stD l k n).2.2.2) (Z1x l (dnH l (stD l k n).2.2.2) (stD l k n).1 (Z1a l k n))).2.2.2.2.2.2.2;have r:=(dnRo_n l (dnH l (stD l k n).2.2.2) (stD l k n).1 (Z1a l k n)).2.2.2.2.2.2.2.2
 have f:(Z1a l k n).k<=(dn0 l k n).k+50:=by
  unfold Z1a;have c:=Xg ((Z1v l (dnH l (stD l k n).2.2.2).el (Z11 l (dnH l (stD l k n).2.2.2).el (Z0v l (dn0 l k n)))).n.log.length+1);have a:=Xg (min (Z11 l (dnH l (stD l k n).2.2.2).el (Z0v l (dn0 l k n))).n.nw.toNat (2*(dnH l (stD l k n).2.2.2).el)+1);have p:=(dnDl_n l (dnH l (stD l k n).2.2.2).el (Z0v l (dn0 l k n))).2.2.2.2.2.2.2.2;have o:(Z0v l (dn0 l k n)).k<=(dn0 l k n).k+3:=by unfold Z0v;split <;> (dsimp only;omega)
  show (Z1v l (dnH l (stD l k n).2.2.2).el (Z11 l (dnH l (stD l k n).2.2.2).el (Z0v l (dn0 l k n)))).k+_<=_;have h:(Z1v l (dnH l (stD l k n).2.2.2).el (Z11 l (dnH l (stD l k n).2.2.2).el (Z0v l (dn0 l k n)))).k=(Z11 l (dnH l (stD l k n).2.2.2).el (Z0v l (dn0 l k n))).k+Zf (min (Z11 l (dnH l (stD l k n).2.2.2).el (Z0v l (dn0 l k n))).n.nw.toNat (2*(dnH l (stD l k n).2.2.2).el)+1):=rfl;omega
 have q:(dn0 l k n).k<=(stD l k n).2.2.2+30:=by
  have c:=Xg (dnH l (stD l k n).2.2.2).el;have a:(dnH l (stD l k n).2.2.2).k=(stD l k n).2.2.2+1+1+1+1+1:=rfl;show (dnH l (stD l k n).2.2.2).k+Zf (dnH l (stD l k n).2.2.2).el+1<=_;omega
 omega
structure LdS (W:World) (g:Nat) (v:Value) (l:List Int) (b4:Nat) (wr:World) (k:Nat) (n:Nd) (x:RV):Prop where
 src:Src wr g v l k
 grown:W.grownBy wr (some g)
 nd:NdS wr W.heap.size b4 n x
 lo:W.heap.size<=b4
 ok:Yb n=0
variable {W wr:World}{g b:Nat}
theorem Z5s {C:Array Value}{t:TypeId}(h:W.grownBy wr (some g))(d:Blk wr b C t)(c:W.heap.size<=b)(a:Array Value):W.grownBy (wr.setRow b a) (some g):=
 ⟨h.os,h.tape,h.output,by rw [Z5p];exact h.size,λq hq hne=>(setRow_other _ _ _ _ (by omega)).trans (h.block q hq hne)⟩
theorem Z0m {j:Nat}(h:W.grownBy wr (some g))(a:W.heap.size<=b)(y:Value):W.grownBy (wr.setCell ⟨b,j,none⟩ y) (some g):=
 ⟨h.os,h.tape,h.output,by simp [World.setCell];exact h.size,λq hq hne=>(Below.heap_setCell _ _ _ _ (show q≠b by omega)).trans (h.block q hq hne)⟩
theorem LdS.next {w d:World}{b4 k o:Nat}{v:Value}{l:List Int}{n f:Nd}{x i:RV}(h:LdS W g v l b4 w k n x)(s:NdO d w.heap.size f i)(q:Src d g v l o)(m:w.grownBy d (some g))(p:g<W.heap.size)(j:Yb f=0):LdS W g v l b4 (d.setRow b4 (ndC f i)) o f i:=by
 have c:=h.lo;have a:=h.nd.blk.keep (m.block b4 h.nd.blk.lt (λe=>by injection e with e;omega));have r:=World.grownBy.trans' h.grown m;refine ⟨?_,Z5s r a c _,NdS.row a rfl (s.le h.grown.size),c,j⟩;exact q.row a (by omega) h.nd.own.one.2 _
end Go.Proofs.YtmmpoppgabadmaaGreat
