import Derived.Maps.OwnSet
import Derived.Maps.RangeWalk
import Derived.Lib.SlKeysI
import Derived.Test.YtmmpoppgabadmaaGreatG02
import Derived.Deep.RegionHeld3
import Derived.Deep.QuietTactic
set_option linter.unusedVariables false
set_option linter.unusedSimpArgs false
set_option maxRecDepth 100000
set_option maxHeartbeats 16000000
open Go.Value renaming slice → I,int → Aa,pointer → Ae
open Go.IntKind renaming i64 → O
open _root_.Option renaming none → Ab,some → Ac
open Go.Proofs.Tryz renaming prog → Ad
open Go renaming Value → Af,World → Ag,Calls → Ar,results_none → Au,TypeId → Ax
open Go.RowKit renaming Hid → Ah,Below → Ai
open Go.Ending renaming returned → Aj
open Go.RowKit.Below renaming heap_setCell → Ak,refl → An
open Go.Calls renaming mono → Am
open _root_.Nat renaming le_trans → Ap,le_of_lt → Be,lt_of_lt_of_le → Bk
open Go.World.ownsRow renaming lt → Aq
open Go.Exit renaming inBlock → Av
open _root_.List renaming getD_eq_getElem?_getD → Ba,length_append → Bc,mem_singleton → Bd,length_set → Bg
open _root_.Option.some renaming injEq → Bf
namespace Go.Proofs.YtmmpoppgabadmaaGreat
open Go.Proofs.Tryz
open Go.RowKit Go.Maps
open Go.ChangeMaps (setBlock)
open Go.MapKept (heap_set stamped_empty)
def Z2m (v:Af):Option (DataW Af×List MemPlace):=Ac (.held v,[])
theorem law3:Keyed Ad 3:=int_keyed underlying3
variable {x:Int}
theorem key3 (h:(Lit.int O x).wf=true):keyOf Ad 3 (.int O x)=Ac (.int O x):=keyOf_int_mk underlying3 h
theorem wf3 (d : -1000000<=x)(e:x<=1000000):(Lit.int O x).wf=true:=WalkArith.wf_i64 (by omega)
section
variable {γ:Type}
def IMD (vl:γ->Af)(D:DataW Af)(f:Int->Option γ):Prop:=∀ y:Int,Maps.has D (.int O y)=(f y).isSome/\∀ z,D.atKey (.int O y) (.held z)=.held ((f y).elim z vl)
def IM (vl:γ->Af)(w:Ag)(b:Nat)(f:Int->Option γ):Prop:=∃(n:Nat) (D:DataW Af),w.ownsMap Ad 3 Z2m b n D/\IMD vl D f
variable {w:Ag}{b:Nat}{D:DataW Af}
theorem tight3 {n:Nat}(h:w.ownsMap Ad 3 Z2m b n D):w.ownsMap Ad 3 Z2m b (Maps.size D) D:=by
 obtain ⟨es,d,g,F,i,e⟩:=h;refine ⟨es,d,g,F,?_,e⟩;rw [e];simp [Maps.size,length_sorted]
variable {vl:γ->Af} {w:Ag} {b n:Nat} {f:Int->Option γ}
theorem IM.made (w:Ag):IM vl (w.alloc (.map #[] 0)) w.heap.size (λ_=>(Ab:Option γ)):=
 ⟨0,.map [],World.ownsMap_made w _ _ _,λy=>⟨rfl,λz=>rfl⟩⟩
theorem IM.lt (h:IM vl w b f):b<w.heap.size:=let ⟨n,D,h,_⟩:=h;World.ownsMap.lt h
variable {w':Ag}
theorem IM.keep (h:IM vl w b f)(g:w'.heap[b]? = w.heap[b]?):IM vl w' b f:=by
 obtain ⟨n,D,⟨es,d,e,r⟩,i⟩:=h;exact ⟨n,D,⟨es,d,g.trans e,r⟩,i⟩
theorem IM.below (h:IM vl w b f)(d:Ai w.heap.size w w'):IM vl w' b f:=h.keep (d.block b h.lt)
theorem IM.alloc (h:IM vl w b f)(o:Obj):IM vl (w.alloc o) b f:=h.keep (Below.heap_alloc _ _ _ h.lt)
theorem IM.ne_blk {k:Nat}{C:Array Af}{t:Ax}(h:IM vl w b f)(e:Blk w k C t):k≠b:=by
 rintro rfl;obtain ⟨n,D,⟨es,d,g,_⟩,_⟩:=h;unfold Blk at e;rw [e] at g;cases g
theorem IM.obj (h:IM vl w b f):∃ es c,w.heap[b]? = Ac (.map es c):=let ⟨n,D,⟨es,clock,h1,_⟩,_⟩:=h;⟨es,clock,h1⟩
variable {l:List Int}
theorem IM.keys (h:w.ownsMap Ad 3 Z2m b n D)(d:IMD vl D f)(e:l.Nodup)(g:∀ y,y∈l↔(f y).isSome=true):l.Perm (intKeys D):=
 CollectedI.perm (D0:=D) (left:=λ_=>false) ⟨e,λx=>by rw [g x,(d x).1];exact ⟨λh=>⟨h,rfl⟩,λh=>h.1⟩⟩ h law3 underlying3 (λ_=>rfl)
theorem IM.size (h:w.ownsMap Ad 3 Z2m b n D)(i:IMD vl D f)(g:l.Nodup)(d:∀ y,y∈l↔(f y).isSome=true):Maps.size D=l.length:=by
 have e:=(IM.keys h i g d).length_eq;obtain ⟨es,rfl,_⟩:=h.entries law3;rw [e];simp [intKeys,Maps.size]
variable {ops:Array Oper} {rest:List Oper} {o:Oper} {a:Act} {Q:Exit->Act->Ag->Prop}
theorem Z6m (w:Ag)(hg:o.guard=Ab)(m x v:Operand)(t:Ax)(s:o.op=Op.mapUpdate t m x v)(e:Ax)(ht:Tryz.prog.underlying t=Ac (.map 3 e))
  (b:Nat) (u:a.eval m=.map (Ac b)) (h:IM vl w b f) (l:List Int) (hl:l.Nodup) (q:∀ y,y∈l↔(f y).isSome=true) (hn:l.length<1000000) (c:Int) (p:(Lit.int O c).wf=true) (y:γ) (hx:a.eval x=.int O c) (hv:a.eval v=vl y)
  (hK:∀ w',IM vl w' b (λd=>if d=c then Ac y else f d)->w.grownBy w' (Ac b)->wpList Ad ops Q rest (a.put o.dst undef) w'):wpList Ad ops Q (o :: rest) a w:=by
 obtain ⟨n,D,i,k⟩:=h;have hz:=IM.size i k hl q;replace i:=tight3 i;refine wpList_mapUpdate_own w hg m x v t s 3 e law3 ht Z2m b _ D u i (by rw [hz];unfold maxLen;omega) _ _ _ hx hv (key3 p) (.held (vl y)) [] rfl λw' ho hgr=>hK w' ⟨_,_,ho,λd=>?_⟩ hgr
 by_cases g:d=c
 ·subst g
  simp only [if_true];exact ⟨has_put_same i.isMap (law3.key (key3 p)) _,λz=>atKey_put_same i.isMap (law3.key (key3 p)) _ _⟩
 ·have j:Lit.int O d≠Lit.int O c:=λe=>g (by injection e)
  simp only [if_neg g];exact ⟨(has_put_other j _).trans (k d).1,λz=>(atKey_put_other j _ _).trans ((k d).2 z)⟩
theorem wp_imput (w:Ag)(m x v:Operand)(t:Ax)(aa:o.op=Op.mapUpdate t m x v)(e:Ax)(ht:Tryz.prog.underlying t=Ac (.map 3 e))
  (b:Nat) (hm:a.eval m=.map (Ac b)) (h:IM vl w b f) (l:List Int) (hl:l.Nodup) (u:∀ y,y∈l↔(f y).isSome=true) (hn:l.length<1000000) (c:Int) (s:(Lit.int O c).wf=true) (y:γ) (hx:a.eval x=.int O c) (hv:a.eval v=vl y) {K':Act->Ag->Prop}
  (hK:∀ w',IM vl w' b (λd=>if d=c then Ac y else f d)->w.grownBy w' (Ac b)->K' (a.put o.dst undef) w'):o.wp Ad a w K' Q:=by
 obtain ⟨n,D,i,p⟩:=h;have hz:=IM.size i p hl u;replace i:=tight3 i;obtain ⟨w',k,ho,q⟩:=i.update law3 ht (by rw [hz];unfold maxLen;omega) (key3 s) (show Z2m (vl y)=Ac (.held (vl y),[]) from rfl);unfold Oper.wp;simp [execOp,aa,hm,hx,hv,k,Result.andThen];refine hK w' ⟨_,_,ho,λd=>?_⟩ q;by_cases g:d=c
 ·subst g
  simp only [if_true];exact ⟨has_put_same i.isMap (law3.key (key3 s)) _,λz=>atKey_put_same i.isMap (law3.key (key3 s)) _ _⟩
 ·have j:Lit.int O d≠Lit.int O c:=λe=>g (by injection e)
  simp only [if_neg g];exact ⟨(has_put_other j _).trans (p d).1,λz=>(atKey_put_other j _ _).trans ((p d).2 z)⟩
variable {z:Af}{c:Int}
theorem Z58 (w:Ag){t e:Ax}(i:Tryz.prog.underlying t=Ac (.map 3 e))(k:(zeroValue e).run Ad w=.ok z w)(h:IM vl w b f)(j:(Lit.int O c).wf=true)(V:Af)(m:(f c).elim z vl=V) :
  (Instr.lookup t (.map (Ac b)) (.int O c) false).run Ad w=.ok V w:=by
 obtain ⟨n,D,p,q⟩:=h;obtain ⟨v,s,d,g⟩:=p.lookup (zd:=.held z) (zp:=[]) law3 i k rfl (key3 j);rw [(q c).2,m] at g
 obtain rfl:v=V:=by
  simp only [Z2m,Bf,Prod.mk.injEq,DataW.held.injEq] at g;exact g.1
 exact d
theorem run_imlookOk (w:Ag){t e:Ax}(j:Tryz.prog.underlying t=Ac (.map 3 e))(s:(zeroValue e).run Ad w=.ok z w)(h:IM vl w b f)(p:(Lit.int O c).wf=true)(V:Af)(u:(f c).elim z vl=V)(q:Bool)(m:(f c).isSome=q) :
  (Instr.lookup t (.map (Ac b)) (.int O c) true).run Ad w=.ok (.tuple #[V,.bool q]) w:=by
 obtain ⟨n,D,k,i⟩:=h;obtain ⟨v,y,d,g⟩:=k.look_ok (zd:=.held z) (zp:=[]) law3 j s rfl (key3 p);rw [(i c).2,u] at g
 obtain rfl:v=V:=by
  simp only [Z2m,Bf,Prod.mk.injEq,DataW.held.injEq] at g;exact g.1
 rw [(i c).1,m] at d;exact d
theorem wpl_imlook (w:Ag)(p:o.guard=Ab)(m x:Operand)(t:Ax)(g:o.op=Op.lookup t m x false)(e:Ax)(j:Tryz.prog.underlying t=Ac (.map 3 e))(s:(zeroValue e).run Ad w=.ok z w)
  (b:Nat) (i:a.eval m=.map (Ac b)) (h:IM vl w b f) (c:Int) (q:(Lit.int O c).wf=true) (k:a.eval x=.int O c) (V:Af) (u:(f c).elim z vl=V)
  (v:wpList Ad ops Q rest (a.put o.dst V) w):wpList Ad ops Q (o :: rest) a w:=by
 refine wpList_plain p λK' hK'=>?_
 have d:=Z58 w j s h q V u;unfold Oper.wp;simp [execOp,g,i,k,d,Result.andThen];exact hK' _ _ v
theorem wpl_imlookOk (w:Ag)(p:o.guard=Ab)(m x:Operand)(t:Ax)(g:o.op=Op.lookup t m x true)(e:Ax)(j:Tryz.prog.underlying t=Ac (.map 3 e))(v:(zeroValue e).run Ad w=.ok z w)
  (b:Nat) (i:a.eval m=.map (Ac b)) (h:IM vl w b f) (c:Int) (u:(Lit.int O c).wf=true) (k:a.eval x=.int O c) (V:Af) (y:(f c).elim z vl=V) (q:Bool) (s:(f c).isSome=q)
  (hK:wpList Ad ops Q rest (a.put o.dst (.tuple #[V,.bool q])) w):wpList Ad ops Q (o :: rest) a w:=by
 refine wpList_plain p λK' hK'=>?_
 have d:=run_imlookOk w j v h u V y q s;unfold Oper.wp;simp [execOp,g,i,k,d,Result.andThen];exact hK' _ _ hK
theorem run_clear (w:Ag){t e ty:Ax}(k:Tryz.prog.underlying t=Ac (.map 3 e))(h:IM vl w b f) :
  ∃ w',(Builtin.clear_ #[t] ty #[.map (Ac b)]).run Ad w=.ok (.tuple #[]) w'/\IM vl w' b (λ_=>(Ab:Option γ))/\w.grownBy w' (Ac b)/\w'.heap.size=w.heap.size:=by
 obtain ⟨n,D,⟨es,d,j,F,p,m⟩,q⟩:=h;have g:=heap_set (o':=.map #[] d) j;refine ⟨setBlock w b _,?_,⟨0,.map [],⟨#[],d,g.1,⟨by simp,stamped_empty _,by simp⟩,Nat.le_refl _,rfl⟩,λy=>⟨rfl,λz=>rfl⟩⟩,⟨rfl,rfl,rfl,by simp [setBlock],λi _ hi=>g.2 i (λe1=>hi (by rw [e1]))⟩,by simp [setBlock]⟩;simp [Builtin.clear_,run_underlying k,MapKept.run_getObj_map j,MapKept.run_setObj_map _ j,Result.andThen];rfl
theorem Z5l {P:Program}{ops:Array Oper}{rest:List Oper}{o:Oper}{a:Act}{Q:Exit->Act->Ag->Prop}(m:Operand)(t:Ax)(d:o.op=Op.call { callee:=Callee.builtin Builtin.clear,args:=#[m],argTypes:=#[t] })(h:wpList P ops Q (o :: rest) a w):wpList P ops Q (o :: rest) a w:=h
theorem Z4m (w:Ag)(k:o.guard=Ab)(m:Operand)(t:Ax)(g:o.op=Op.call { callee:=Callee.builtin Builtin.clear,args:=#[m],argTypes:=#[t] })(e:Ax)(p:Tryz.prog.underlying t=Ac (.map 3 e))
  (b:Nat) (j:a.eval m=.map (Ac b)) (h:IM vl w b f)
  (i:∀ w',IM vl w' b (λ_=>(Ab:Option γ))->w.grownBy w' (Ac b)->w'.heap.size=w.heap.size->wpList Ad ops Q rest (a.put o.dst (.tuple #[])) w'):wpList Ad ops Q (o :: rest) a w:=by
 refine wpList_plain k λK' hK'=>?_
 obtain ⟨w',d,r1,r2,r3⟩:=run_clear (ty:=o.type) w p h;unfold Oper.wp;simp [execOp,g,resolve,invoke,builtin,j,d,Result.andThen];exact hK' _ _ (i w' r1 r2 r3)
def IR (vl:γ->Af)(w:Ag)(b r:Nat)(f:Int->Option γ)(lf:Int->Bool)(cnt:Nat):Prop:=
 ∃(n:Nat) (D:DataW Af) (left:Lit->Bool),w.ranges Ad 3 Z2m b r n D left cnt/\IMD vl D f/\∀ y,left (.int O y)=lf y
variable {r cnt:Nat}{lf:Int->Bool}
theorem IR.im (h:IR vl w b r f lf cnt):IM vl w b f:=let ⟨n,D,left,h1,h2,h3⟩:=h;⟨n,D,h1.owns,h2⟩
theorem IR.left_eq (h:IR vl w b r f lf cnt):w.rangeLeft b r=cnt:=let ⟨n,D,left,h1,h2,h3⟩:=h;h1.left_eq
theorem IR.kept {row:Option Nat}(h:IR vl w b r f lf cnt)(g:w.grownBy w' row)(e:Ac b≠row)(d:Ac r≠row):IR vl w' b r f lf cnt:=let ⟨n,D,left,h1,h2,h3⟩:=h;⟨n,D,left,h1.kept g e d,h2,h3⟩
theorem IR.keep (h:IR vl w b r f lf cnt)(s:w'.heap[b]? = w.heap[b]?)(p:w'.heap[r]? = w.heap[r]?):IR vl w' b r f lf cnt:=by
 obtain ⟨n,D,left,⟨es,d,e,seen,m,i,F,j,q,g,rest⟩,k,t⟩:=h;exact ⟨n,D,left,⟨es,d,e,seen,m,s.trans i,F,j,q,p.trans g,rest⟩,k,t⟩
theorem IR.lt (h:IR vl w b r f lf cnt):r<w.heap.size:=let ⟨n,D,left,h1,h2,h3⟩:=h;h1.lt
theorem IR.obj (h:IR vl w b r f lf cnt):∃ a1 a2 a3 a4,w.heap[r]? = Ac (.mapIter a1 a2 a3 a4):=by
 obtain ⟨n,D,left,⟨es,d,e,seen,k,i,F,m,j,g,rest⟩,p,q⟩:=h;exact ⟨_,_,_,_,g⟩
theorem Z44 (w:Ag)(q:o.guard=Ab)(m:Operand)(t:Ax)(d:o.op=Op.range t m)(e:Ax)(i:Tryz.prog.underlying t=Ac (.map 3 e))(b:Nat)(k:a.eval m=.map (Ac b))(h:IM vl w b f)
  (j:∀ w' cnt,IR vl w' b w.heap.size f (λy=>(f y).isSome) cnt->w.grownBy w' Ab->w'.heap.size=w.heap.size+1->wpList Ad ops Q rest (a.put o.dst (Ae (Ac ⟨w.heap.size,0,Ab⟩))) w'):wpList Ad ops Q (o :: rest) a w:=by
 obtain ⟨n,D,p,g⟩:=h;exact wpList_range_own w q m t d 3 e law3 i _ b n D k p λw' hr hg' hs=>j w' _ ⟨n,D,_,hr,g,λy=>(g y).1⟩ hg' hs
end
end Go.Proofs.YtmmpoppgabadmaaGreat
namespace Go.Proofs.YtmmpoppgabadmaaGreat
open Go.Proofs.Tryz
open Go.RowKit
structure CV where
 vl:Af
 vo:Af
 L:List Om
 gm:Nat
 pm:Nat
 f:Int->Option Nat
 kp:Int
def crC (r:Rn)(x:CV):Array Af:=#[Aa O r.n.id,Aa O r.n.sz,Aa O r.n.el,Aa O r.n.bt,Aa O r.n.tm,Aa O r.n.vo,Aa O r.n.ro,Aa O r.n.ld,Aa O r.n.cm,Aa O r.n.nw,Aa O r.n.dl,Aa O r.n.hd,x.vl,I Ab 0 0,I Ab 0 0,I Ab 0 0,I Ab 0 0,I Ab 0 0,.map (Ac x.gm),.map (Ac x.pm),Aa O r.draw,Aa O r.drew,Aa O x.kp,x.vo]
def pgC (n:Nd)(y:Int):Array Af:=#[Aa O (n.nx.getD (y-1).toNat 0),Aa O (n.mt.getD (y-1).toNat 0),Aa O (n.se.getD (y-1).toNat 0),Aa O (n.st.getD (y-1).toNat 0)]
def ptV (q:Nat):Af:=Ae (Ac ⟨q,0,Ab⟩)
def unV (_:Unit):Af:=.agg #[]
def grF (l:List Int)(y:Int):Option Unit:=if y∈l then Ac () else Ab
theorem Z30 (l:List Int)(y:Int):y∈l↔(grF l y).isSome=true:=by unfold grF;split <;> simp_all
structure CI (n:Nd):Prop where
 sz0:3<=n.sz
 sz1:n.sz<=7
 odd:n.sz%2=1
 id0:1<=n.id
 id1:n.id<=n.sz
 gr1:n.gr.Pairwise (· < ·)
 gr2:∀ y∈n.gr,1<=y/\y<=n.sz
 ld:n.ro=3->(n.nx.length=n.sz.toNat/\n.mt.length=n.sz.toNat/\n.se.length=n.sz.toNat/\n.st.length=n.sz.toNat)/\n.nx.getD (n.id-1).toNat 0=0/\n.mt.getD (n.id-1).toNat 0=0/\n.se.getD (n.id-1).toNat 0=0/\n.st.getD (n.id-1).toNat 0=0
 nl:n.ro≠3->n.nx = []/\n.mt = []/\n.se = []/\n.st = []
structure Z9 (w:Ag) (B b:Nat) (r:Rn) (x:CV):Prop where
 blk:Blk w b (crC r x) 80
 lo:B<=b
 log:Zh w B x.vl r.n.log
 gm:IM unV w x.gm (grF r.n.gr)
 gml:B<=x.gm
 pm:IM ptV w x.pm x.f
 pml:B<=x.pm
 gp:x.gm≠x.pm
 pf:∀ y q,x.f y=Ac q->Blk w q (pgC r.n y) 124/\B<=q
 pi:∀ y z q,x.f y=Ac q->x.f z=Ac q->y=z
 pk:∀ y,(x.f y).isSome=true↔(r.n.ro=3/\1<=y/\y<=r.n.sz/\y≠r.n.id)
 out:Zc omC 10 43 w B x.vo x.L
 outC:x.L.map (·.m)=r.out
 ents:∀ p∈x.L,Zh w B p.v p.m.es
 apE:(x.vl :: x.L.map Om.v).Pairwise Yd
 ci:CI r.n
def CV.has (x:CV)(b k:Nat):Prop:=k=b∨k=x.gm∨k=x.pm∨(∃ y,x.f y=Ac k)∨x.vl.ownBlock=Ac k∨x.vo.ownBlock=Ac k
structure Tch (b:Nat) (w:Ag) (x:CV) (w':Ag) (x':CV):Prop where
 os:w'.os=w.os
 tape:w'.tape=w.tape
 output:w'.output=w.output
 size:w.heap.size<=w'.heap.size
 block:∀ k,k<w.heap.size->¬ x.has b k->w'.heap[k]? = w.heap[k]?
 at':∀ k,x'.has b k->x.has b k∨w.heap.size<=k
section
variable {w w1 w':Ag} {B b:Nat} {r:Rn} {x x1 x':CV}
theorem Tch.trans (h:Tch b w x w1 x1)(k:Tch b w1 x1 w' x'):Tch b w x w' x':=
 ⟨k.os.trans h.os,k.tape.trans h.tape,k.output.trans h.output,Ap h.size k.size,λi hi hn=>(k.block i (Bk hi h.size) (λe=>(h.at' i e).elim hn (by omega))).trans (h.block i hi hn),
  λi hi=>(k.at' i hi).elim (h.at' i) (λe=>.inr (Ap h.size e))⟩
theorem Tch.below0 (b:Nat)(x:CV)(h:Ai w.heap.size w w'):Tch b w x w' x:=⟨h.os,h.tape,h.output,h.size,λk hk _=>h.block k hk,λk hk=>.inl hk⟩
theorem Tch.refl (b:Nat)(w:Ag)(x:CV):Tch b w x w x:=Tch.below0 b x (An _ _)
theorem Tch.tail (h:Tch b w x w1 x1)(a:Ai w1.heap.size w1 w'):Tch b w x w' x1:=h.trans (Tch.below0 b x1 a)
theorem Tch.head (a:Ai w.heap.size w w1)(h:Tch b w1 x w' x'):Tch b w x w' x':=(Tch.below0 b x a).trans h
theorem Tch.of {row:Nat}(x:CV)(h:w.grownBy w' (Ac row))(a:x.has b row):Tch b w x w' x:=
 ⟨h.os,h.tape,h.output,h.size,λk hk hn=>h.block k hk (λe=>hn (by injection e with e;rw [e];exact a)),λk hk=>.inl hk⟩
theorem Z9.lt (h:Z9 w B b r x):b<w.heap.size:=h.blk.lt
variable {k:Nat}
theorem Z9.has_le (h:Z9 w B b r x)(a:x.has b k):B<=k/\k<w.heap.size:=by
 rcases a with rfl | rfl | rfl | ⟨y,e⟩ | e | e
 ·exact ⟨h.lo,h.lt⟩
 ·exact ⟨h.gml,h.gm.lt⟩
 ·exact ⟨h.pml,h.pm.lt⟩
 ·exact ⟨(h.pf y _ e).2,(h.pf y _ e).1.lt⟩
 ·exact Aq h.log.2 k e
 ·exact h.out.lts k e
theorem Z9.below_of (h:Z9 w B b r x)(a:Tch b w x w' x'):Ai B w w':=
 ⟨a.os,a.tape,a.output,a.size,λk hk=>a.block k (Bk hk (Ap h.lo (Be h.lt))) (λe=>by have:=(h.has_le e).1;omega)⟩
variable {q:Nat}{C:Array Af}
theorem Tch.blk (c:Tch b w x w' x'){t:Ax}(a:Blk w q C t)(d:¬ x.has b q:=by rfl):Blk w' q C t:=a.keep (c.block q a.lt d)
variable {w:Ag}
theorem blk_eq {d:Array Af}{t c:Ax}(h:Blk w k C t)(a:Blk w k d c):C=d/\t=c:=by
 unfold Blk at h a;rw [h] at a;simp only [Bf,Obj.cells.injEq] at a;exact ⟨a.1,a.2.1⟩
variable {B:Nat}{v:Af}
theorem Z3g {α:Type}{cs:α->List Af}{m:Nat}{T:Ax}{l:List α}(h:Zc cs m T w B v l)(e:v.ownBlock=Ac k):∃ cur s,w.heap[k]? = Ac (.cells cur T s):=by
 obtain ⟨-,⟨rfl,-⟩ | ⟨g,cap,cur,rfl,-,a,-⟩⟩:=h
 ·cases e
 cases e;exact ⟨_,_,a⟩
theorem Z0o {l:List Ent}(h:Zh w B v l)(e:v.ownBlock=Ac k):∃ cur s,w.heap[k]? = Ac (.cells cur 118 s):=by
 obtain ⟨-,-,⟨rfl,-⟩ | ⟨g,cap,cur,rfl,-,a,-⟩⟩:=h
 ·cases e
 cases e;exact ⟨_,_,a⟩
theorem Z9.hasnt (h:Z9 w B b r x){t:Ax}(a:Blk w q C t)(d:t≠80)(f:t≠124)(c:t≠118)(g:t≠43):¬ x.has b q:=by
 rintro (rfl | rfl | rfl | ⟨y,e⟩ | e | e)
 ·exact d (blk_eq a h.blk).2
 ·exact h.gm.ne_blk a rfl
 ·exact h.pm.ne_blk a rfl
 ·exact f (blk_eq a (h.pf y _ e).1).2
 ·obtain ⟨cur,s,e2⟩:=Z0o h.log e
  unfold Blk at a;rw [a] at e2;simp only [Bf,Obj.cells.injEq] at e2;exact c e2.2.1
 ·obtain ⟨cur,s,e2⟩:=Z3g h.out e
  unfold Blk at a;rw [a] at e2;simp only [Bf,Obj.cells.injEq] at e2;exact g e2.2.1
theorem Z9.hasnt_new (h:Z9 w B b r x)(a:w.heap.size<=q):¬ x.has b q:=λe=>by have:=(h.has_le e).2;omega
variable {cur:Array Af}{s:Nat×Nat}
theorem hmap {T:Ax}{l:Array MapEntry}{c:Nat}(d:w.heap[k]? = Ac (Obj.cells cur T s))(a:w.heap[k]? = Ac (Obj.map l c)):False:=by rw [d] at a;cases a
theorem Xc {a:Array Af}{T d:Ax}{e:Nat×Nat}(f:w.heap[k]? = Ac (Obj.cells cur T s))(c:w.heap[k]? = Ac (Obj.cells a d e)):T=d:=by
 rw [f] at c;simp only [Bf,Obj.cells.injEq] at c;exact c.2.1
theorem Z9.bf (h:Z9 w B b r x):(x.gm≠b)/\(x.pm≠b)/\(∀ y q,x.f y=Ac q->q≠b/\q≠x.gm/\q≠x.pm)/\(∀ k,x.vl.ownBlock=Ac k->k≠b/\k≠x.gm/\k≠x.pm/\∀ y q,x.f y=Ac q->q≠k)/\(∀ k,x.vo.ownBlock=Ac k->k≠b/\k≠x.gm/\k≠x.pm/\(∀ y q,x.f y=Ac q->q≠k)/\x.vl.ownBlock≠Ac k):=by
 obtain ⟨ge,o,j⟩:=h.gm.obj;obtain ⟨n,l,g⟩:=h.pm.obj;refine ⟨λe=>h.gm.ne_blk h.blk e.symm,λe=>h.pm.ne_blk h.blk e.symm,λy q e=>?_,λk e=>?_,λk e=>?_⟩
 ·have c:=(h.pf y q e).1
  refine ⟨?_,h.gm.ne_blk c,h.pm.ne_blk c⟩;rintro rfl;exact absurd (blk_eq c h.blk).2 (by decide)
 ·obtain ⟨cur,s,a⟩:=Z0o h.log e
  refine ⟨?_,?_,?_,?_⟩
  ·rintro rfl;exact absurd (Xc a h.blk) (by decide)
  ·rintro rfl;exact hmap a j
  ·rintro rfl;exact hmap a g
  ·rintro y q e2 rfl;exact absurd (Xc a (h.pf y q e2).1) (by decide)
 ·obtain ⟨cur,s,a⟩:=Z3g h.out e
  refine ⟨?_,?_,?_,?_,?_⟩
  ·rintro rfl;exact absurd (Xc a h.blk) (by decide)
  ·rintro rfl;exact hmap a j
  ·rintro rfl;exact hmap a g
  ·rintro y q e2 rfl;exact absurd (Xc a (h.pf y q e2).1) (by decide)
  ·intro e2
   obtain ⟨i,m,d⟩:=Z0o h.log e2;exact absurd (Xc a d) (by decide)
theorem Z9.entB (h:Z9 w B b r x):∀ p∈x.L,∀ k,p.v.ownBlock=Ac k->k≠b/\k≠x.gm/\k≠x.pm/\(∀ y q,x.f y=Ac q->q≠k)/\x.vo.ownBlock≠Ac k:=by
 intro p i k e;obtain ⟨ge,m,j⟩:=h.gm.obj;obtain ⟨l,n,c⟩:=h.pm.obj;obtain ⟨cur,s,a⟩:=Z0o (h.ents p i) e;refine ⟨?_,?_,?_,?_,?_⟩
 ·rintro rfl;exact absurd (Xc a h.blk) (by decide)
 ·rintro rfl;exact hmap a j
 ·rintro rfl;exact hmap a c
 ·rintro y q e2 rfl;exact absurd (Xc a (h.pf y q e2).1) (by decide)
 ·intro e2
  obtain ⟨g,o,d⟩:=Z3g h.out e2;exact absurd (Xc a d) (by decide)
variable {r':Rn}
theorem Z9.re {kp':Int}(h:Z9 w B b r x)(hb:Blk w' b (crC r' { x with kp:=kp' }) 80)(a:∀ k,k≠b->k<w.heap.size->w'.heap[k]? = w.heap[k]?)
  (d:r'.n.log=r.n.log) (e2:r'.n.gr=r.n.gr) (e3:r'.n.nx=r.n.nx) (e4:r'.n.mt=r.n.mt) (e5:r'.n.se=r.n.se) (e6:r'.n.st=r.n.st) (e7:r'.out=r.out) (e8:r'.n.sz=r.n.sz) (e9:r'.n.id=r.n.id) (e10:r'.n.ro=3↔r.n.ro=3):Z9 w' B b r' { x with kp:=kp' }:=by
 obtain ⟨u,l,f3,o,i⟩:=h.bf;have f6:=h.entB;refine ⟨hb,h.lo,d▸h.log.block λk e=>a k (o k e).1 (Aq h.log.2 k e).2,e2▸h.gm.keep (a _ u h.gm.lt),h.gml,h.pm.keep (a _ l h.pm.lt),h.pml,h.gp,?_,h.pi,?_,h.out.block λk e=>a k (i k e).1 (h.out.lts k e).2,e7▸h.outC,?_,h.apE,?_⟩
 ·intro y q e
  have:=h.pf y q e;refine ⟨?_,this.2⟩;have f:pgC r'.n y=pgC r.n y:=by unfold pgC;rw [e3,e4,e5,e6]
  rw [f];exact this.1.keep (a q (f3 y q e).1 this.1.lt)
 ·intro y
  rw [e8,e9,e10];exact h.pk y
 ·intro p c
  exact (h.ents p c).block λk e=>a k (f6 p c k e).1 (Aq (h.ents p c).2 k e).2
 ·obtain ⟨j,t,c3,c4,z,g,c7,m,c9⟩:=h.ci
  exact ⟨e8▸j,e8▸t,e8▸c3,e9▸c4,by rw [e9,e8];exact z,e2▸g,by rw [e2,e8];exact c7,by rw [e3,e4,e5,e6,e8,e9,e10];exact m,by rw [e3,e4,e5,e6];exact λhn=>c9 (λe=>hn (e10.2 e))⟩
theorem Z9.below (h:Z9 w B b r x)(a:Ai w.heap.size w w'):Z9 w' B b r x:=
 h.re (kp':=x.kp) (h.blk.below a h.lt) (λk _ hk=>a.block k hk) rfl rfl rfl rfl rfl rfl rfl rfl rfl Iff.rfl
theorem Z9.set (h:Z9 w B b r x)(i:Nat)(v:Af)(a:(crC r x).setIfInBounds i v=crC r' x)
  (c:r'.n.log=r.n.log) (e2:r'.n.gr=r.n.gr) (e3:r'.n.nx=r.n.nx) (e4:r'.n.mt=r.n.mt) (e5:r'.n.se=r.n.se) (e6:r'.n.st=r.n.st) (e7:r'.out=r.out) (e8:r'.n.sz=r.n.sz) (e9:r'.n.id=r.n.id) (e10:r'.n.ro=3↔r.n.ro=3):Z9 (w.setCell ⟨b,i,Ab⟩ v) B b r' x:=
 h.re (kp':=x.kp) (by have:=h.blk.set i v;rw [a] at this;exact this) (λk hk _=>Ak _ _ _ _ hk) c e2 e3 e4 e5 e6 e7 e8 e9 e10
theorem Tch.set (b:Nat)(w:Ag)(x:CV)(i:Nat)(v:Af):Tch b w x (w.setCell ⟨b,i,Ab⟩ v) x:=Tch.of x (Rd.frame i v) (.inl rfl)
theorem Z9.drew (h:Z9 w B b r x):Z9 w.drew B b r x:=h.below ((An _ _).drew)
end
section
variable {w:Ag}{B b:Nat}{r:Rn}{x:CV}
theorem Z9.c0 (h:Z9 w B b r x):w.cell? ⟨b,0,Ab⟩=Ac (Aa O r.n.id):=h.blk.cell 0
theorem Z9.c1 (h:Z9 w B b r x):w.cell? ⟨b,1,Ab⟩=Ac (Aa O r.n.sz):=h.blk.cell 1
theorem Z9.c2 (h:Z9 w B b r x):w.cell? ⟨b,2,Ab⟩=Ac (Aa O r.n.el):=h.blk.cell 2
theorem Z9.c3 (h:Z9 w B b r x):w.cell? ⟨b,3,Ab⟩=Ac (Aa O r.n.bt):=h.blk.cell 3
theorem Z9.c4 (h:Z9 w B b r x):w.cell? ⟨b,4,Ab⟩=Ac (Aa O r.n.tm):=h.blk.cell 4
theorem Z9.c5 (h:Z9 w B b r x):w.cell? ⟨b,5,Ab⟩=Ac (Aa O r.n.vo):=h.blk.cell 5
theorem Z9.c6 (h:Z9 w B b r x):w.cell? ⟨b,6,Ab⟩=Ac (Aa O r.n.ro):=h.blk.cell 6
theorem Z9.c7 (h:Z9 w B b r x):w.cell? ⟨b,7,Ab⟩=Ac (Aa O r.n.ld):=h.blk.cell 7
theorem Z9.c9 (h:Z9 w B b r x):w.cell? ⟨b,9,Ab⟩=Ac (Aa O r.n.nw):=h.blk.cell 9
theorem Z9.c10 (h:Z9 w B b r x):w.cell? ⟨b,10,Ab⟩=Ac (Aa O r.n.dl):=h.blk.cell 10
theorem Z9.c11 (h:Z9 w B b r x):w.cell? ⟨b,11,Ab⟩=Ac (Aa O r.n.hd):=h.blk.cell 11
theorem Z9.c18 (h:Z9 w B b r x):w.cell? ⟨b,18,Ab⟩=Ac (.map (Ac x.gm)):=h.blk.cell 18
theorem Z9.c19 (h:Z9 w B b r x):w.cell? ⟨b,19,Ab⟩=Ac (.map (Ac x.pm)):=h.blk.cell 19
theorem Z9.c20 (h:Z9 w B b r x):w.cell? ⟨b,20,Ab⟩=Ac (Aa O r.draw):=h.blk.cell 20
theorem Z9.c21 (h:Z9 w B b r x):w.cell? ⟨b,21,Ab⟩=Ac (Aa O r.drew):=h.blk.cell 21
end
theorem Z09 (b:Nat)(r:Rn)(x:CV)(w:Ag)(B:Nat)(h:Z9 w B b r x)(hd : -(2^63)<=r.draw)(k:r.draw<2^63)(l:0<=r.n.nw)(j:r.n.nw<=1099511627776) :
  Ar Ad 156 #[Ae (Ac ⟨b,0,Ab⟩)] w λe w'=>e=Aj (.tuple #[])/\Z9 w' B b r.timer x/\Tch b w x w' x:=by
 have t:=Z0 h;have u:=h.c2;have c9:=h.c9;have i:=h.c10;have m:=h.c20;have f:=h.c21;have s:=h.blk.free 10;have p:=h.blk.free 21;have o:Ah (∀ z,Ar Ad 179 #[Aa O r.n.el,Aa O r.draw] z λe w'=>e=Aj (Aa O (Jf r.n.el r.draw))/\w'=z):=λz=>timeoutOf_any _ _ hd k z
 have a:=toutC_le r.n.el r.draw;have d:Ah (r.timer={ r with n:={ r.n with dl:=r.n.nw+Jf r.n.el r.draw },drew:=1 }):=rfl;generalize Jf r.n.el r.draw=tv at *;obtain ⟨a,q⟩:=a;go_enter func156,ntmps156;go_wp2
 go_region_held3 (λw'=>w'.cell? ⟨b,2,Ab⟩=Ac (Aa O r.n.el)/\w'.cell? ⟨b,9,Ab⟩=Ac (Aa O r.n.nw)/\w'.cell? ⟨b,20,Ab⟩=Ac (Aa O r.draw)) (simp [*,go_sem])
  (first
   |(go_at_call 179;refine (o _).mono ?_;rintro e v ⟨rfl,g⟩;have c:=g.symm;subst c))
 all_goals go_wp2
 all_goals (
  refine bodyPost_end (Au rfl _ _ _) rfl ?_;exact ⟨rfl,(((t.set (r':={ r with n:={ r.n with dl:=r.n.nw+tv } }) 10 _ rfl rfl rfl rfl rfl rfl rfl rfl rfl rfl Iff.rfl).drew).set (r':=r.timer) 21 _ (by rw [d.out];rfl) rfl rfl rfl rfl rfl rfl rfl rfl rfl Iff.rfl),(((Tch.set b w x 10 _).tail ((An _ _).drew)).trans (Tch.set b _ x 21 _))⟩)
def CV.lone (x:CV):CV:={ x with f:=λ_=>Ab }
theorem Z9.loneAt {w w':Ag}{B b:Nat}{r r':Rn}{x:CV}(h:Z9 w B b r x)(v:Blk w' b (crC r' x.lone) 80)(l:IM unV w' x.gm (λ_=>(Ab:Option Unit)))(a:IM ptV w' x.pm (λ_=>(Ab:Option Nat)))(c:∀ k,k≠b->k≠x.gm->k≠x.pm->k<w.heap.size->w'.heap[k]? = w.heap[k]?)
  (i:r'.n.log=r.n.log) (e2:r'.n.gr = []) (e3:r'.n.nx = []) (e4:r'.n.mt = []) (e5:r'.n.se = []) (e6:r'.n.st = []) (e7:r'.out=r.out) (e8:r'.n.sz=r.n.sz) (e9:r'.n.id=r.n.id) (e10:r'.n.ro=0):Z9 w' B b r' x.lone:=by
 obtain ⟨f1,f2,f3,f,d⟩:=h.bf;have f6:=h.entB;have g:(0:Int)≠3:=by decide
 refine ⟨v,h.lo,i▸h.log.block λk e=>c k (f k e).1 (f k e).2.1 (f k e).2.2.1 (Aq h.log.2 k e).2,?_,h.gml,a,h.pml,h.gp,?_,?_,?_,h.out.block λk e=>c k (d k e).1 (d k e).2.1 (d k e).2.2.1 (h.out.lts k e).2,e7▸h.outC,?_,h.apE,?_⟩
 ·have:grF r'.n.gr=λ_=>(Ab:Option Unit):=by funext y;rw [e2];rfl
  rw [this];exact l
 ·intro y q e;cases e
 ·intro y z q e;cases e
 ·intro y
  rw [e10];constructor
  ·intro e;cases e
  ·intro e;exact absurd e.1 g
 ·intro p a
  exact (h.ents p a).block λk e=>c k (f6 p a k e).1 (f6 p a k e).2.1 (f6 p a k e).2.2.1 (Aq (h.ents p a).2 k e).2
 ·obtain ⟨m,o,u,t,s,c6,c7,c8,c9⟩:=h.ci
  exact ⟨e8▸m,e8▸o,e8▸u,e9▸t,by rw [e9,e8];exact s,e2▸.nil,(by rw [e2];intro y j;cases j),(by rw [e10];intro e;exact absurd e g),λ_=>⟨e3,e4,e5,e6⟩⟩
def Rn.follow (r:Rn)(t:Int):Rn:={ r.lone with n:={ r.lone.n with ld:=t } }
theorem Z2c (b:Nat)(r:Rn)(x:CV)(t:Int)(w:Ag)(B:Nat)(h:Z9 w B b r x) :
  Ar Ad 155 #[Ae (Ac ⟨b,0,Ab⟩),Aa O t] w λe w'=>e=Aj (.tuple #[])/\Z9 w' B b (r.follow t) x.lone/\Tch b w x w' x.lone:=by
 have HR:=Z0 h;obtain ⟨f1,f2,f3,f4,f5⟩:=h.bf;have ai:=h.blk.lt;have c6:=h.c6;have c7:=h.c7;have f6:=h.blk.free 6;have f7:=h.blk.free 7;have j:Ah (Blk ((w.setCell ⟨b,6,Ab⟩ (Aa O 0)).setCell ⟨b,7,Ab⟩ (Aa O t)) b (crC (r.follow t) x.lone) 80):=(h.blk.set 6 _).set 7 _;have ac:Ah (IM unV ((w.setCell ⟨b,6,Ab⟩ (Aa O 0)).setCell ⟨b,7,Ab⟩ (Aa O t)) x.gm (grF r.n.gr)):=(h.gm.keep (Ak _ _ _ _ f1)).keep (Ak _ _ _ _ f1);have q:Ah (IM ptV ((w.setCell ⟨b,6,Ab⟩ (Aa O 0)).setCell ⟨b,7,Ab⟩ (Aa O t)) x.pm x.f):=(h.pm.keep (Ak _ _ _ _ f2)).keep (Ak _ _ _ _ f2);have ad:Ah (Tch b w x ((w.setCell ⟨b,6,Ab⟩ (Aa O 0)).setCell ⟨b,7,Ab⟩ (Aa O t)) x):=(Tch.set b w x 6 _).trans (Tch.set b _ x 7 _);have ae:Ah (∀ k,k≠b->k<w.heap.size->((w.setCell ⟨b,6,Ab⟩ (Aa O 0)).setCell ⟨b,7,Ab⟩ (Aa O t)).heap[k]? = w.heap[k]?):=Xo (b:=b) (Xo (b:=b) (Z4d w b) 6 _) 7 _;have ab:Ah (((w.setCell ⟨b,6,Ab⟩ (Aa O 0)).setCell ⟨b,7,Ab⟩ (Aa O t)).heap.size=w.heap.size):=by simp [Ah,World.setCell]
 have aa:=h.gp;go_enter func155,ntmps155
 go_upto_region 1 with fail
 generalize (w.setCell ⟨b,6,Ab⟩ (Aa O 0)).setCell ⟨b,7,Ab⟩ (Aa O t)=w1 at *;have ak:w1.cell? ⟨b,18,Ab⟩=Ac (.map (Ac x.gm)):=j.cell 18;have s:=Z0 λp (h2:w1.grownBy p (Ac x.gm))=>j.keep (h2.block b j.lt (λe=>f1 (by injection e with e;exact e.symm)))
 have G1:True:=trivial
 go_wp2_with (first
  |(refine Z5l _ _ rfl ?_;clear G1;refine Z4m _ rfl _ 77 rfl _ underlying77 _ rfl ac ?_;intro p v a l;have z:=Z0 v;have d:=Z0 a;have m:=Z0 l;have aj:p.cell? ⟨b,19,Ab⟩=Ac (.map (Ac x.pm)):=(s p a).cell 19;have ag:=Z0 (q.keep (a.block _ q.lt (λe=>aa (by injection e with e;exact e.symm))));clear v a l)
  |(refine Z5l _ _ rfl ?_;refine Z4m _ rfl _ 78 rfl _ underlying78 _ rfl ag ?_;intro w3 o g i;have af:=Z0 o;have c:=Z0 g;have u:=Z0 i;clear o g i))
 (try simp only [Av,Exit.then])
 have ah:=ab.out;have l:=m.out;have i:=u.out;refine bodyPost_end (Au rfl _ _ _) rfl ⟨rfl,HR.loneAt ((s p d).keep (c.block b (by omega) (λe=>f2 (by injection e with e;exact e.symm)))) (z.keep (c.block _ z.lt (λe=>aa (by injection e with e)))) af (λk h1 h2 h3 h4=>?_) rfl rfl rfl rfl rfl rfl rfl rfl rfl rfl,?_⟩
 ·rw [c.out.block k (by omega) (λe=>h3 (by injection e with e)),d.out.block k (by omega) (λe=>h2 (by injection e with e)),ae.out k h1 h4]
 ·have T:=(ad.trans (Tch.of x d (.inr (.inl rfl)))).trans (Tch.of x c (.inr (.inr (.inl rfl))))
  refine ⟨T.os,T.tape,T.output,T.size,T.block,λk hk=>.inl ?_⟩;rcases hk with e | e | e | ⟨y,e⟩ | e | e
  ·exact .inl e
  ·exact .inr (.inl e)
  ·exact .inr (.inr (.inl e))
  ·cases e
  ·exact .inr (.inr (.inr (.inr (.inl e))))
  ·exact .inr (.inr (.inr (.inr (.inr e))))
theorem Z6w (b:Nat)(r:Rn)(x:CV)(t:Int)(w:Ag)(B:Nat)(h:Z9 w B b r x)(hd : -(2^63)<=r.draw)(hD:r.draw<2^63)(k:0<=r.n.nw)(j:r.n.nw<=1099511627776) :
  Ar Ad 170 #[Ae (Ac ⟨b,0,Ab⟩),Aa O t] w λe w'=>e=Aj (.tuple #[])/\Z9 w' B b (r.adopt t) x.lone/\Tch b w x w' x.lone:=by
 have c6:=h.c6;have c4:=h.c4;have c5:=h.c5;have f4:=h.blk.free 4;have f5:=h.blk.free 5
 have u:Ah (Z9 ((w.setCell ⟨b,4,Ab⟩ (Aa O t)).setCell ⟨b,5,Ab⟩ (Aa O 0)) B b { r with n:={ r.n with tm:=t,vo:=0 } } x):=
  (h.set (r':={ r with n:={ r.n with tm:=t } }) 4 _ rfl rfl rfl rfl rfl rfl rfl rfl rfl rfl Iff.rfl).set 5 _ rfl rfl rfl rfl rfl rfl rfl rfl rfl rfl Iff.rfl
 have d:Ah (Tch b w x ((w.setCell ⟨b,4,Ab⟩ (Aa O t)).setCell ⟨b,5,Ab⟩ (Aa O 0)) x):=(Tch.set b w x 4 _).trans (Tch.set b _ x 5 _);have s:Ah (Ar Ad 155 #[Ae (Ac ⟨b,0,Ab⟩),Aa O 0] ((w.setCell ⟨b,4,Ab⟩ (Aa O t)).setCell ⟨b,5,Ab⟩ (Aa O 0)) λe w'=>e=Aj (.tuple #[])/\Z9 w' B b { r.lone with n:={ r.lone.n with tm:=t,vo:=0 } } x.lone/\Tch b ((w.setCell ⟨b,4,Ab⟩ (Aa O t)).setCell ⟨b,5,Ab⟩ (Aa O 0)) x w' x.lone):=Z2c b _ x 0 _ B u;have m:=Z0 λz (hz:Z9 z B b { r.lone with n:={ r.lone.n with tm:=t,vo:=0 } } x.lone)=>Z09 b _ _ z B hz hd hD k j
 have i:Ah (r.adopt t=if r.n.ro=3 then Rn.timer { r.lone with n:={ r.lone.n with tm:=t,vo:=0 } } else { r.lone with n:={ r.lone.n with tm:=t,vo:=0 } }):=rfl;generalize r.adopt t=RA at *;generalize ({ r.lone with n:={ r.lone.n with tm:=t,vo:=0 } } : Rn)=RL at *;generalize x.lone=XL at *;generalize r.n.ro=ro at *;by_cases g:ro=3
 ·subst g
  have a:Ah _:=i.trans (if_pos rfl);go_enter func170,ntmps170
  go_wp2_with (first
   |(go_at_call 155;refine Am s ?_;rintro e w1 ⟨rfl,c,f⟩;have o:=Z0 c;have l:=Z0 (d.trans f);clear c f)
   |(go_at_call 156;refine Am (m _ o) ?_;rintro e w2 ⟨rfl,p,q⟩;have H2:Ah _:=p;have y:=Z0 (l.out.trans q);clear p q))
  (try simp only [Av,Exit.then])
  refine bodyPost_end (Au rfl _ _ _) rfl ⟨rfl,?_,y.out⟩;rw [a.out];exact H2
 ·have a:Ah _:=i.trans (if_neg g)
  have v:(ro == 3)=false:=by simpa using g
  go_enter func170,ntmps170
  go_wp2_with (first
   |(go_at_call 155;refine Am s ?_;rintro e w1 ⟨rfl,c,f⟩;have o:=Z0 c;have l:=Z0 (d.trans f);clear c f))
  (try simp only [Av,Exit.then])
  refine bodyPost_end (Au rfl _ _ _) rfl ⟨rfl,?_,l.out⟩;rw [a.out];exact o
end Go.Proofs.YtmmpoppgabadmaaGreat
namespace Go.Proofs.YtmmpoppgabadmaaGreat
open Go.Proofs.Tryz
open Go.RowKit Go.Maps
theorem Y4 (B:Nat)(w:Ag)(k:Nat):Ai B w (w.drewN k):=bdr
theorem Z1r (v:Af)(l:List Ent)(w:Ag)(m:Es w v l) :
  Ar Ad 180 #[v] w λe w'=>e=Aj (Aa O (Y9 l))/\w'=w:=by
 obtain ⟨k,o,a,cap,rfl,g⟩:=m;unfold maxLen at k;by_cases d:l.length=0
 ·have c:Y9 l=0:=by unfold Y9 Zy;rw [if_pos d]
  rw [c];have f:((l.length:Int) == 0)=true:=by simp [d]
  go_enter func180,ntmps180;go_wp2;go_ret;exact ⟨rfl,rfl⟩
 ·obtain ⟨b,j,rfl,h⟩:=g 0 (by omega)
  obtain ⟨i,_⟩:=h (l.length-1) (by omega)
  have c:Y9 l=(l[l.length-1]'(by omega)).t:=by
   unfold Y9 Zy;rw [if_neg d,List.getElem?_eq_getElem (by omega)];rfl
  rw [c];generalize (l[l.length-1]'(by omega)).t=X at i;have f:((l.length:Int) == 0)=false:=by rw [beq_eq_false_iff_ne];omega
  have hi:(l.length:Int)-1=((l.length-1:Nat):Int):=by omega
  have p:((l.length:Int)-1).toNat=l.length-1:=by omega
  go_enter func180,ntmps180;go_wp2;go_ret;exact ⟨rfl,rfl⟩
theorem Z9.es {w:Ag}{B b:Nat}{r:Rn}{x:CV}(h:Z9 w B b r x)(a:r.n.log.length<=4096):Es w x.vl r.n.log:=h.log.es (by unfold maxLen;omega)
theorem Z7b (l:List Ent)(p:Nat)(b:p<=l.length):Y9 (l.take p)=Zy l p:=by
 unfold Y9 Zy;rw [List.length_take,Nat.min_eq_left b];by_cases a:p=0
 ·rw [if_pos a,if_pos a]
 ·rw [if_neg a,if_neg a,List.getElem?_take_of_lt (by omega)]
theorem loyal_any (b:Nat)(r:Rn)(x:CV)(w:Ag)(B:Nat)(h:Z9 w B b r x)(b1:0<=r.n.nw)(j:r.n.nw<=1099511627776)(m:0<=r.n.hd)(b4:r.n.hd<=r.n.nw) :
  Ar Ad 163 #[Ae (Ac ⟨b,0,Ab⟩)] w λe w'=>e=Aj (.bool (Z8u r.n))/\Ai w.heap.size w w':=by
 have i:=h.c6;have l:=h.c7;have c9:=h.c9;have g:=h.c11;have k:=h.c2;have a:Ah (Z8u r.n=(r.n.ro == 3 || (r.n.ld != 0 && decide (r.n.nw-r.n.hd<r.n.el)))):=rfl;generalize Z8u r.n=q at *;cases d:(r.n.ro == 3)
 ·cases f:(r.n.ld != 0)
  ·have c:q=false:=by rw [a.out,d,f];rfl
   subst c;go_enter func163,ntmps163;go_wp2;go_quiet (fail)
   go_wp2;go_ret;exact ⟨rfl,Y4 _ _ _⟩
  ·have c:q=decide (r.n.nw-r.n.hd<r.n.el):=by rw [a.out,d,f];rfl
   subst c;go_enter func163,ntmps163;go_wp2;go_quiet (fail)
   go_wp2;go_ret;exact ⟨by simp,Y4 _ _ _⟩
 ·have c:q=true:=by rw [a.out,d];rfl
  subst c;go_enter func163,ntmps163;go_wp2;go_quiet (fail)
  go_wp2;go_ret;exact ⟨rfl,Y4 _ _ _⟩
end Go.Proofs.YtmmpoppgabadmaaGreat
namespace Go.Proofs.YtmmpoppgabadmaaGreat
open Go.Proofs.Tryz
open Go.RowKit Go.Maps
def mgC (m:Mg)(v:Af):Array Af:=#[Aa O m.ki,Aa O m.fr,Aa O m.td,Aa O m.tm,Aa O m.li,Aa O m.lt,Aa O m.cm,Aa O m.ok,Aa O m.hi,v]
theorem Z5u (b:Nat)(r:Rn)(x:CV)(m:Mg)(ea:Option Addr)(en ec:Nat)(w:Ag)(B:Nat)(h:Z9 w B b r x)(y:r.n.log.length<=4096) :
  Ar Ad 164 #[Ae (Ac ⟨b,0,Ab⟩),.agg (m.arrC (I ea en ec))] w λe w'=>e=Aj (.bool (utd r.n.log m))/\Ai w.heap.size w w':=by
 obtain ⟨u,t,f⟩:=h.log.shape;have g:Ah (∀ z,Ai w.heap.size w z->Ar Ad 180 #[I u r.n.log.length t] z λe w'=>e=Aj (Aa O (Y9 r.n.log))/\w'=z):=λz hz=>Z1r _ _ _ (f▸(h.below hz).es y)
 obtain ⟨W,a⟩:=exq (w.alloc (.cells (m.arrC (I ea en ec)) 43));have d:Ah (Ai w.heap.size w W):=a▸baq
 have o:Blk W w.heap.size (mgC m (I ea en ec)) 43:=a▸Blk.new _ _ _
 have v:=(h.below d).blk;have c12:W.cell? ⟨b,12,Ab⟩=Ac (I u r.n.log.length t):=f▸v.cell 12
 have m4:W.cell? ⟨w.heap.size,4,Ab⟩=Ac (Aa O m.li):=o.cell 4;have m5:W.cell? ⟨w.heap.size,5,Ab⟩=Ac (Aa O m.lt):=o.cell 5;have j:Ah (utd r.n.log m=(decide (Y9 r.n.log<m.lt) || (decide (m.lt=Y9 r.n.log) && decide ((r.n.log.length:Int)<=m.li)))):=rfl;clear h v o f;generalize utd r.n.log m=q at *;generalize Y9 r.n.log=T at *;generalize r.n.log.length=LN at *;by_cases l:T<m.lt
 ·have k:q=true:=by rw [j.out,decide_eq_true l];rfl
  subst k;clear j;have i:=decide_eq_true l;go_enter func164,ntmps164
  go_upto_region 1 with fail
  rw [<-a];clear a
  go_wp2_with (first
   |(go_at_call 180;refine Am (g _ d) ?_;rintro e p ⟨rfl,c⟩;obtain rfl:=c.symm;clear c))
  go_quiet (fail)
  go_wp2;go_ret;exact ⟨rfl,d.trans (Y4 _ _ _)⟩
 ·have i:=decide_eq_false l
  cases s:(m.lt == T)
  ·have k:q=false:=by rw [j.out,i,decide_eq_false (by simpa using s)];rfl
   subst k;clear j;go_enter func164,ntmps164
   go_upto_region 1 with fail
   rw [<-a];clear a
   go_wp2_with (first
    |(go_at_call 180;refine Am (g _ d) ?_;rintro e p ⟨rfl,c⟩;obtain rfl:=c.symm;clear c))
   go_quiet (fail)
   go_wp2;go_ret;exact ⟨rfl,d.trans (Y4 _ _ _)⟩
  ·have k:q=decide ((LN:Int)<=m.li):=by rw [j.out,i,decide_eq_true (by simpa using s)];rfl
   subst k;clear j;go_enter func164,ntmps164
   go_upto_region 1 with fail
   rw [<-a];clear a
   go_wp2_with (first
    |(go_at_call 180;refine Am (g _ d) ?_;rintro e p ⟨rfl,c⟩;obtain rfl:=c.symm;clear c))
   go_quiet (fail)
   go_wp2;go_ret;exact ⟨by simp,d.trans (Y4 _ _ _)⟩
theorem zeroUn (w:Ag):(zeroValue 121).run Ad w=.ok (.agg #[]) w:=by kernel_rfl
variable {w:Ag}
theorem Below.alloc0 (o:Obj):Ai w.heap.size w (w.alloc o):=baq
theorem Z3u (b:Nat)(r:Rn)(x:CV)(t:Int)(w:Ag)(B:Nat)(h:Z9 w B b r x)(j:0<=t)(i:t<=1000000) :
  Ar Ad 167 #[Ae (Ac ⟨b,0,Ab⟩),Aa O t] w λe w'=>e=Aj (.bool (decide (t∈r.n.gr)))/\Ai w.heap.size w w':=by
 have f:=h.c18;have d:=Z0 h.gm;have c:(grF r.n.gr t).isSome=decide (t∈r.n.gr):=by unfold grF;split <;> simp_all
 have g:(grF r.n.gr t).elim (Value.agg #[]) unV=Value.agg #[]:=by unfold grF unV;split <;> rfl
 have a:=wf3 (x:=t) (by omega) (by omega);generalize decide (t∈r.n.gr)=q at *;go_enter func167,ntmps167
 go_wp2_with (at_lookup;refine wpl_imlookOk _ rfl _ _ 77 rfl _ underlying77 (zeroUn _) _ rfl d t a rfl _ g q c ?_)
 go_ret;exact ⟨rfl,Below.alloc0 _⟩
theorem Ji (gr:List Int)(fr:Int)(y:Int):∀ k:Nat,y∈Zx gr fr k↔(1<=y/\y<=k)/\(y=fr∨y∈gr)
 | 0=>by
  simp only [Zx,List.not_mem_nil,false_iff];rintro ⟨h,_⟩;omega
 | k+1=>by
  rw [Zx,List.mem_append,Ji gr fr y k];constructor
  ·rintro (h | h)
   ·exact ⟨⟨h.1.1,by omega⟩,h.2⟩
   ·split at h
    ·rename_i hc
     rw [Bd] at h;subst h;exact ⟨⟨by omega,by omega⟩,hc⟩
    ·cases h
  ·rintro ⟨b,a⟩
   by_cases e:y=(k:Int)+1
   ·right
    subst e;rw [if_pos a];simp
   ·left
    exact ⟨⟨b.1,by omega⟩,a⟩
theorem Z1f (gr:List Int)(fr:Int):∀ k:Nat,(Zx gr fr k).Pairwise (· < ·)
 | 0=>.nil
 | k+1=>by
  rw [Zx];split
  ·refine List.pairwise_append.2 ⟨Z1f gr fr k,List.pairwise_singleton _ _,λa ha c hc=>?_⟩
   rw [List.mem_singleton.1 hc];have:=((Ji gr fr a k).1 ha).1;omega
  ·rw [List.append_nil]
   exact Z1f gr fr k
theorem Z31 {l:List Int}(h:l.Pairwise (· < ·)):l.Nodup:=h.imp λh=>by omega
theorem Z9.gmAt {w':Ag}{B b:Nat}{r:Rn}{x:CV}{gr':List Int}(h:Z9 w B b r x)(g:IM unV w' x.gm (grF gr'))(a:∀ k,k≠x.gm->k<w.heap.size->w'.heap[k]? = w.heap[k]?)(t:gr'.Pairwise (· < ·))(s:∀ y∈gr',1<=y/\y<=r.n.sz):Z9 w' B b { r with n:={ r.n with gr:=gr' } } x:=by
 obtain ⟨v,f2,c,u,i⟩:=h.bf;have f6:=h.entB;obtain ⟨f,l,j,d,m,c6,z,o,c9⟩:=h.ci;refine ⟨h.blk.keep (a b v.symm h.lt),h.lo,h.log.block λk e=>a k (u k e).2.1 (Aq h.log.2 k e).2,g,h.gml,h.pm.keep (a _ h.gp.symm h.pm.lt),h.pml,h.gp,λy q e=>⟨(h.pf y q e).1.keep (a q (c y q e).2.1 (h.pf y q e).1.lt),(h.pf y q e).2⟩,h.pi,h.pk,h.out.block λk e=>a k (i k e).2.1 (h.out.lts k e).2,h.outC,λp hp=>(h.ents p hp).block λk e=>a k (f6 p hp k e).2.1 (Aq (h.ents p hp).2 k e).2,h.apE,⟨f,l,j,d,m,t,s,o,c9⟩⟩
theorem majB_P (k:Nat)(sz:Int):majB (k:Int) sz=Xx k sz:=by unfold majB Xx;rw [decide_eq_decide];omega
theorem grant_any (b:Nat)(r:Rn)(x:CV)(t:Int)(w:Ag)(B:Nat)(h:Z9 w B b r x)(h0:1<=t)(g:t<=r.n.sz) :
  Ar Ad 168 #[Ae (Ac ⟨b,0,Ab⟩),Aa O t] w λe w'=>e=Aj (.bool (Xx (Zx r.n.gr t r.n.sz.toNat).length r.n.sz))/\Z9 w' B b { r with n:={ r.n with gr:=Zx r.n.gr t r.n.sz.toNat } } x/\Tch b w x w' x:=by
 have HR:=Z0 h;have ae:=h.c18;have c1:=h.ci.sz1;have c0:=h.ci.sz0;have HG:=Z0 h.gm;have ac:=wf3 (x:=t) (by omega) (by omega);have HN:=Z0 (Z31 h.ci.gr1)
 have HL:Ah (r.n.gr.length<1000000):=by
  have j:=h.ci.gr2;have h8:=h.ci.gr1
  have:r.n.gr=Zx r.n.gr 0 r.n.sz.toNat:=by
   refine List.Perm.eq_of_pairwise (le:=(· < ·)) (λa c _ _ g i=>by omega) h8 (Z1f _ _ _) ?_;refine (List.perm_ext_iff_of_nodup (Z31 h8) (Z31 (Z1f _ _ _))).2 λy=>?_
   rw [Ji];constructor
   ·intro v
    have:=j y v;exact ⟨by omega,.inr v⟩
   ·rintro ⟨g,rfl | i⟩
    ·omega
    ·exact i
  have h3:∀ k,(Zx r.n.gr 0 k).length<=k:=by
   intro k
   induction k with
   | zero=>simp [Zx]
   | succ k ih=>
    rw [Zx,Bc];split <;> simp <;> omega
  have:=h3 r.n.sz.toNat;show r.n.gr.length<1000000;rw [‹r.n.gr=_›];omega
 have HF:Ah ((λd=>if d=t then Ac () else grF r.n.gr d)=grF (Zx r.n.gr t r.n.sz.toNat)):=by
  funext d
  unfold grF;by_cases hd:d=t
  ·subst hd
   rw [if_pos rfl,if_pos ((Ji _ _ _ _).2 ⟨by omega,.inl rfl⟩)]
  ·rw [if_neg hd]
   by_cases s:d∈r.n.gr
   ·have:=h.ci.gr2 d s
    rw [if_pos s,if_pos ((Ji _ _ _ _).2 ⟨by omega,.inr s⟩)]
   ·rw [if_neg s,if_neg]
    intro j;rcases ((Ji _ _ _ _).1 j).2 with e | e
    ·exact hd e
    ·exact s e
 have q:Ah (∀ w',IM unV w' x.gm (grF (Zx r.n.gr t r.n.sz.toNat))->w.grownBy w' (Ac x.gm)->Z9 w' B b { r with n:={ r.n with gr:=Zx r.n.gr t r.n.sz.toNat } } x/\Tch b w x w' x):=λw' g i=>⟨HR.gmAt g (λk hk hl=>i.block k hl (λe=>hk (by injection e with e))) (Z1f _ _ _) (λy v=>by have:=((Ji _ _ _ _).1 v).1;omega),Tch.of x i (.inr (.inl rfl))⟩
 have aa:Ah ((Zx r.n.gr t r.n.sz.toNat).Nodup):=Z31 (Z1f _ _ _);have HM:Ah (majB ((Zx r.n.gr t r.n.sz.toNat).length:Int) r.n.sz=Xx (Zx r.n.gr t r.n.sz.toNat).length r.n.sz):=majB_P _ _;generalize Zx r.n.gr t r.n.sz.toNat=G at *;generalize Xx G.length r.n.sz=mq at *;go_enter func168,ntmps168
 go_upto_region 2 with (at_mapUpdate;refine Z6m (γ:=Unit) _ rfl _ _ _ 77 rfl _ underlying77 _ rfl HG _ HN (Z30 _) HL t ac () rfl rfl ?_;intro l p o;have u:=Z0 ((by have j:=p;rw [HF.out] at j;exact j));obtain ⟨f,m⟩:=q.out l u o;have z:=Z0 f;have ab:=Z0 m;have af:=f.c18;have d1:=f.c1;clear p o f m)
 have ad:∀ n ty,(Builtin.len_ #[77] ty #[.map (Ac x.gm)]).run Ad (l.drewN n)=.ok (Aa O G.length) (l.drewN n):=by
  intro n ty;obtain ⟨n9,D,g,i⟩:=u.below (Y4 _ l n);have h3:=IM.size g i aa (Z30 _);have h4:=g.len (ty:=ty) underlying77;rw [h3] at h4;exact h4
 go_quiet (first
  |(go_at_call 112;exact Calls.quiet_of_same (Z18 _ _ (by omega) (by omega) _)))
 go_wp2;go_ret;rw [HM.out];exact ⟨rfl,z.below (Y4 _ _ _),ab.tail (Y4 _ _ _)⟩
theorem Z3l (b:Nat)(r:Rn)(x:CV)(t:Int)(w:Ag)(B:Nat)(h:Z9 w B b r x)(hd : -(2^63)<=r.draw)(o:r.draw<2^63)(i:0<=r.n.nw)(f:r.n.nw<=1099511627776)(a:r.code=0) :
  Ar Ad 166 #[Ae (Ac ⟨b,0,Ab⟩),Aa O t] w λe w'=>e=Aj (Aa O (r.takeTerm t).code)/\∃ x',Z9 w' B b (r.takeTerm t) x'/\Tch b w x w' x':=by
 have k:=Z0 h;have u:=h.c4;have s:=Z0 (Z6w b r x t w B h hd o i f)
 have p:Ah ((r.adopt t).code=0):=by
  unfold Ah Rn.adopt;split
  ·exact a
  ·exact a
 by_cases c:r.n.tm<t
 ·have d:Ah (r.takeTerm t=r.adopt t):=by unfold Ah Rn.takeTerm;rw [if_pos c]
  rw [d.out];generalize r.adopt t=RA at *;have g:¬ t<=r.n.tm:=by omega
  have j:=decide_eq_false g;rw [p.out];go_enter func166,ntmps166
  go_wp2_with (first
   |(go_at_call 170;refine Am s ?_;rintro e v ⟨rfl,c,l⟩;have m:Ah _:=c;have q:Ah _:=l;clear c l))
  go_ret;exact ⟨rfl,_,m.out,q.out⟩
 ·have d:Ah (r.takeTerm t=r.stale):=by unfold Ah Rn.takeTerm;rw [if_neg c]
  rw [d.out];have g:t<=r.n.tm:=by omega
  have j:=decide_eq_true g;go_enter func166,ntmps166;go_wp2;go_ret;exact ⟨rfl,x,k.re (r':=r.stale) (kp':=x.kp) k.blk (λ_ _ _=>rfl) rfl rfl rfl rfl rfl rfl rfl rfl rfl Iff.rfl,Tch.refl _ _ _⟩
end Go.Proofs.YtmmpoppgabadmaaGreat
namespace Go.Proofs.YtmmpoppgabadmaaGreat
open Go.Proofs.Tryz
open Go.RowKit Go.Maps
def oth (id:Int):Nat->List Int
 | 0=>[]
 | k+1=>if (k:Int)+1=id then oth id k else oth id k ++ [(k:Int)+1]
def kI (id:Int)(i:Nat):Nat:=if (i:Int)+1<id then i else i+1
theorem oth_len (id:Int)(h:1<=id):∀ k:Nat,(oth id k).length=if (k:Int)<id then k else k-1
 | 0=>by simp [oth]
 | k+1=>by
  have a:=oth_len id h k;rw [oth];by_cases e:(k:Int)+1=id
  ·rw [if_pos e,a,if_pos (by omega),if_neg (by push_cast;omega)]
   omega
  ·rw [if_neg e,Bc,a]
   by_cases e2:(k:Int)<id
   ·rw [if_pos e2,if_pos (by push_cast;omega)]
    rfl
   ·rw [if_neg e2,if_neg (by push_cast;omega)]
    simp;omega
theorem Z3c (id:Int)(h:1<=id):∀(k i:Nat) (hi:i<(oth id k).length),(oth id k)[i]=(kI id i:Int)+1
 | 0,i,hi=>by simp [oth] at hi
 | k+1,i,hi=>by
  have b:=oth_len id h k;by_cases e:(k:Int)+1=id
  ·have e2:oth id (k+1)=oth id k:=by rw [oth,if_pos e]
   have a:i<(oth id k).length:=e2▸hi
   have:=Z3c id h k i a;rw [<-this];simp only [e2]
  ·have e2:oth id (k+1)=oth id k ++ [(k:Int)+1]:=by rw [oth,if_neg e]
   simp only [e2] at hi ⊢;rw [Bc,List.length_singleton] at hi;by_cases e3:i<(oth id k).length
   ·rw [List.getElem_append_left e3]
    exact Z3c id h k i e3
   ·rw [List.getElem_append_right (by omega)]
    have e4:i=(oth id k).length:=by omega
    simp only [List.getElem_singleton];rw [b] at e4;unfold kI;split at e4
    ·rw [if_pos (by omega)];omega
    ·rw [ifo];omega
theorem Z2y (id sz:Int)(h:1<=id)(a:id<=sz):(oth id sz.toNat).length=sz.toNat-1:=by
 rw [oth_len id h,ifo]
theorem kI_lt (id sz:Int)(i:Nat)(h:1<=id)(a:id<=sz)(hi:i<sz.toNat-1):(kI id i:Int)+1<=sz/\(kI id i:Int)+1≠id:=by
 unfold kI;split <;> constructor <;> push_cast <;> omega
theorem oth_fold {α:Type}(id:Int)(f:Nat->α)(g:Nat->α->α)(c:∀ k,f (k+1)=if (k:Int)+1=id then f k else g k (f k))(i:Nat):f (kI id (i+1))=g (kI id i) (f (kI id i)):=by
 have d:(kI id i:Int)+1≠id:=by unfold kI;split <;> push_cast <;> omega
 have a:=c (kI id i);rw [if_neg d] at a;rw [<-a];by_cases e:kI id (i+1)=kI id i+1
 ·rw [e]
 ·have b:kI id (i+1)=kI id i+1+1/\((kI id i+1:Nat):Int)+1=id:=by
   unfold kI at e ⊢
   push_cast at e ⊢
   constructor
   ·split <;> split <;> simp_all <;> omega
   ·split <;> simp_all <;> omega
  rw [b.1,c,if_pos b.2]
theorem oth_zero {α:Type}(id:Int)(b:1<=id)(f:Nat->α)(g:Nat->α->α)(a:∀ k,f (k+1)=if (k:Int)+1=id then f k else g k (f k)):f (kI id 0)=f 0:=by
 unfold kI;split
 ·rfl
 ·rename_i h
  by_cases e:(1:Int)=id
  ·rw [a,if_pos (by push_cast;omega)]
  ·rw [a]
   rw [if_pos]
   push_cast
   omega
theorem Z6y (b:Nat)(id:Int)(N:Nat)(w:Ag)(c0:w.cell? ⟨b,0,Ab⟩=Ac (Aa O id))(c1:w.cell? ⟨b,1,Ab⟩=Ac (Aa O (N:Int)))(l:b<w.heap.size)(o:1<=id)(x:id<=(N:Int):=by omega)(z0:3<=(N:Int):=by omega)(z1:(N:Int)<=7:=by omega) :
  Ar Ad 81 #[Ae (Ac ⟨b,0,Ab⟩)] w λe w'=>∃ a c,e=Aj (I a (N-1) c)/\Zc inC 1 3 w' w.heap.size (I a (N-1) c) (oth id N)/\Ai w.heap.size w w':=by
 have z:=Z0 (oth_len _ o);have v:Ah ((oth id N).length=N-1):=by have u:=Z2y id _ o x;rw [show ((N:Int)).toNat=N by omega] at u;exact u
 go_enter func81,ntmps81;go_wp2
 go_loopw [3,4] (λvt iv wr=>∃ k:Nat,k<=N/\iv=Aa O ((k:Int)+1)/\Zc inC 1 3 wr w.heap.size vt (oth id k)/\Ai w.heap.size w wr) (λ_ iv _=>N+1-(RowKit.intOf iv).toNat)
 case atStart=>exact ⟨0,by omega,rfl,Zc.nil _ _ _ _ _,An _ _⟩
 case round=>
  obtain ⟨k,hk,rfl,s,i⟩:=hrel;have m:Ah (Zc inC 1 3 wr w.heap.size _ (oth id k)):=s;have t:=Z0 i;have hz:=i.size;have d0:=(i.cell (p:=⟨b,0,Ab⟩) l).trans c0;have d1:=(i.cell (p:=⟨b,1,Ab⟩) l).trans c1;have ab:(oth id k).length<=7:=by rw [z.out k];split <;> omega
  obtain ⟨oa,oc,y⟩:=s.shape;have d:Ah _:=y;subst y;by_cases aa:k<N
  ·have h1:(k:Int)+1<=(N:Int):=by omega
   have n:=decide_eq_true h1;by_cases h:(k:Int)+1=id
   ·have g:Ah (oth id (k+1)=oth id k):=by unfold Ah;rw [oth,if_pos h]
    have q:((k:Int)+1 != id)=false:=by simp [h]
    have HE:=Z0 h;go_wp2
    go_roundw
    case rel=>exact ⟨k+1,by omega,by go_num,g.out▸m,t.out⟩
    case measure=>simp [RowKit.intOf];omega
   ·have g:Ah (oth id (k+1)=oth id k ++ [(k:Int)+1]):=by unfold Ah;rw [oth,if_neg h]
    have q:((k:Int)+1 != id)=true:=by simp [h]
    generalize (oth id k).length=ol at *
    go_wp2_with (at_builtin;refine Yl Z16 rfl _ _ rfl _ (m.below baq) rfl _ 1 (Blk.new _ _ _).range rfl (by rw [z.out k];split <;> omega) (by simp;omega) ?_;intro v2 w2 d j;have r:=Z0 ((t.alloc hz _).trans (growG j (m.below baq) (by simp;omega)));have f:Ah _:=d;clear d j)
    go_roundw
    case rel=>exact ⟨k+1,by omega,by go_num,g.out▸f,r.out⟩
    case measure=>simp [RowKit.intOf];omega
  ·obtain rfl:k=N:=by omega
   have n:decide ((k:Int)+1<=(k:Int))=false:=decide_eq_false (by omega);have f:Ah (Zc inC 1 3 wr w.heap.size (I oa (k-1) oc) (oth id k)):=v.out▸m
   have hf:=v.out;rw [hf];go_wp2;go_ret;exact ⟨_,_,rfl,f.out,t.out⟩
theorem Z56 (b:Nat)(r:Rn)(x:CV)(w:Ag)(B:Nat)(h:Z9 w B b r x) :
  Ar Ad 81 #[Ae (Ac ⟨b,0,Ab⟩)] w λe w'=>∃ a c,e=Aj (I a (r.n.sz.toNat-1) c)/\Zc inC 1 3 w' w.heap.size (I a (r.n.sz.toNat-1) c) (oth r.n.id r.n.sz.toNat)/\Ai w.heap.size w w':=by
 have g:=h.ci.sz0;have z1:=h.ci.sz1;have f:=h.ci.id1;have d:((r.n.sz.toNat:Nat):Int)=r.n.sz:=by omega
 exact Z6y b _ _ w (h.blk.cell 0) (by rw [d];exact h.blk.cell 1) h.lt h.ci.id0
end Go.Proofs.YtmmpoppgabadmaaGreat
namespace Go.Proofs.YtmmpoppgabadmaaGreat
open Go.Proofs.Tryz
open Go.RowKit
def CV.sent (x:CV)(v:Af)(y:Om):CV:={ x with vo:=v,L:=x.L ++ [y] }
theorem Z9.sendAt {w w2 o:Ag}{B b:Nat}{r:Rn}{x:CV}{m:Mg}{a:Option Addr}{c:Nat}{v:Af}(h:Z9 w B b r x)(he:Zh w B (I a m.es.length c) m.es)(af:∀ k,(Value.slice a m.es.length c).ownBlock=Ac k->x.vl.ownBlock≠Ac k/\∀ p∈x.L,p.v.ownBlock≠Ac k)(t:Ai w.heap.size w w2)
  (ho:Zc omC 10 43 o B v (x.L ++ [⟨{ m with fr:=r.n.id },a,c⟩])) (z:Ye w2 x.vo o v) :
  Z9 (o.setCell ⟨b,23,Ab⟩ v) B b (r.send m) (x.sent v ⟨{ m with fr:=r.n.id },a,c⟩)/\Tch b w x (o.setCell ⟨b,23,Ab⟩ v) (x.sent v ⟨{ m with fr:=r.n.id },a,c⟩):=by
 obtain ⟨f1,f2,f3,f4,f5⟩:=h.bf;have f6:=h.entB;have ai:=t.size;have ah:=z.g.size;have aa:∀ k,k<w.heap.size->x.vo.ownBlock≠Ac k->o.heap[k]? = w.heap[k]?:=λk f j=>(z.g.block k (by omega) (λe=>j e.symm)).trans (t.block k f)
 have ad:=h.blk.keep (aa b h.lt λe=>(f5 b e).1 rfl);have l:∀ k,k≠b->(o.setCell ⟨b,23,Ab⟩ v).heap[k]? = o.heap[k]?:=λk f=>Ak _ _ _ _ f
 have d:=λk h1 t h3=>(l k h1).trans (aa k t h3)
 have j:∀ k,(Value.slice a m.es.length c).ownBlock=Ac k->k≠b/\x.vo.ownBlock≠Ac k:=λk e=>by
  obtain ⟨aj,s,f⟩:=Z0o he e;refine ⟨?_,λe2=>?_⟩
  ·rintro rfl;exact absurd (Xc f h.blk) (by decide)
  ·obtain ⟨ag,s2,ae⟩:=Z3g h.out e2
   exact absurd (Xc f ae) (by decide)
 have ac:=he.block λk e=>d k (j k e).1 (Aq he.2 k e).2 (j k e).2
 have ab:∀ k,v.ownBlock=Ac k->x.vo.ownBlock=Ac k∨w.heap.size<=k:=λk e=>by
  rcases z.at' with e' | ⟨g,e',f⟩
  ·rw [e] at e';exact .inl e'.symm
  ·rw [e] at e';cases e';exact .inr (by omega)
 refine ⟨⟨ad.set 23 v,h.lo,h.log.block λk e=>d k (f4 k e).1 (Aq h.log.2 k e).2 (λe2=>(f5 k e2).2.2.2.2 e),h.gm.keep (d _ f1 h.gm.lt (λe=>(f5 _ e).2.1 rfl)),h.gml,h.pm.keep (d _ f2 h.pm.lt (λe=>(f5 _ e).2.2.1 rfl)),h.pml,h.gp,λy q e=>⟨(h.pf y q e).1.keep (d q (f3 y q e).1 (h.pf y q e).1.lt (λe2=>(f5 _ e2).2.2.2.1 y q e rfl)),(h.pf y q e).2⟩,h.pi,h.pk,ho.block λk e=>l k ?_,?_,?_,?_,h.ci⟩,?_⟩
 ·rcases ab k e with e' | e'
  ·exact (f5 k e').1
  ·have:=h.lt;omega
 ·show (x.L ++ [(⟨{ m with fr:=r.n.id },a,c⟩:Om)]).map Om.m=r.out ++ [{ m with fr:=r.n.id }]
  rw [List.map_append];exact congrArg (· ++ [{ m with fr:=r.n.id }]) h.outC
 ·intro p i
  rcases List.mem_append.1 i with i | i
  ·exact (h.ents p i).block λk e=>d k (f6 p i k e).1 (Aq (h.ents p i).2 k e).2 (f6 p i k e).2.2.2.2
  ·rw [Bd] at i
   subst i;exact ac
 ·show (x.vl :: (x.L ++ [(⟨{ m with fr:=r.n.id },a,c⟩:Om)]).map Om.v).Pairwise Yd
  rw [List.map_append,<-List.cons_append];refine List.pairwise_append.2 ⟨h.apE,List.pairwise_singleton _ _,λu hu v hv k e1 e2=>?_⟩;rw [List.map_singleton,Bd] at hv;subst hv;have h9:=af k e2;rcases List.mem_cons.1 hu with rfl | hu
  ·exact h9.1 e1
  ·obtain ⟨p,i,rfl⟩:=List.mem_map.1 hu
   exact h9.2 p i e1
 ·refine ⟨z.g.os.trans t.os,z.g.tape.trans t.tape,z.g.output.trans t.output,by simp [World.setCell];omega,λk f hn=>d k (λe=>hn (.inl e)) f (λe=>hn (.inr (.inr (.inr (.inr (.inr e)))))),λk f=>?_⟩
  rcases f with e | e | e | e | e | e
  ·exact .inl (.inl e)
  ·exact .inl (.inr (.inl e))
  ·exact .inl (.inr (.inr (.inl e)))
  ·exact .inl (.inr (.inr (.inr (.inl e))))
  ·exact .inl (.inr (.inr (.inr (.inr (.inl e)))))
  ·rcases ab k e with e' | e'
   ·exact .inl (.inr (.inr (.inr (.inr (.inr e')))))
   ·exact .inr e'
theorem Z2x (b:Nat)(r:Rn)(x:CV)(m:Mg)(td:Int)(ea:Option Addr)(ec:Nat)(w:Ag)(B:Nat)(h:Z9 w B b r x)(he:Zh w B (I ea m.es.length ec) m.es)(t:∀ k,(Value.slice ea m.es.length ec).ownBlock=Ac k->x.vl.ownBlock≠Ac k/\∀ p∈x.L,p.v.ownBlock≠Ac k)(hl:x.L.length<=100000:=by omega) :
  Ar Ad 165 #[Ae (Ac ⟨b,0,Ab⟩),Aa O td,.agg (mqN m.ki m.fr m.td m.tm m.li m.lt m.cm m.ok m.hi (I ea m.es.length ec))] w λe w'=>e=Aj (.tuple #[])/\∃ v y,Z9 w' B b (r.send { m with td:=td }) (x.sent v y)/\Tch b w x w' (x.sent v y):=by
 have HR:=Z0 h;have HE:=Z0 he;have HA:=Z0 t;have c0:=h.c0;have aj:=h.lt;have an:=Ap h.lo (Be h.lt);obtain ⟨va,vc,z⟩:=h.out.shape;have c:=Z0 z;have ae:Ah (∀ l,l=x.L->l.length<=100000):=λl e=>e▸hl
 generalize x.L.length=xn at *;go_enter func165,ntmps165;go_wp2;have a:Ah (Blk (w.alloc (.cells (mqN m.ki r.n.id td m.tm m.li m.lt m.cm m.ok m.hi (I ea m.es.length ec)) 43)) w.heap.size (mqN m.ki r.n.id td m.tm m.li m.lt m.cm m.ok m.hi (I ea m.es.length ec)) 43):=Blk.new _ _ _;have f:Ah (Ai w.heap.size w (w.alloc (.cells (mqN m.ki r.n.id td m.tm m.li m.lt m.cm m.ok m.hi (I ea m.es.length ec)) 43))):=baq;have am:w.heap.size<(w.alloc (.cells (mqN m.ki r.n.id td m.tm m.li m.lt m.cm m.ok m.hi (I ea m.es.length ec)) 43)).heap.size:=by simp
 generalize w.alloc (.cells (mqN m.ki r.n.id td m.tm m.li m.lt m.cm m.ok m.hi (I ea m.es.length ec)) 43)=w2 at *;have d:=Z0 (HR.out.below f.out);have ac:Ah (Zc omC 10 43 w2 B (I va xn vc) x.L):=c.out▸d.out.out
 have ao:w2.cell? ⟨b,23,Ab⟩=Ac (I va xn vc):=c.out▸d.out.blk.cell 23
 have aa:=Z0 d.out.blk;have q0:w2.cell? ⟨w.heap.size,0,Ab⟩=Ac (Aa O m.ki):=a.out.cell 0;have q1:w2.cell? ⟨w.heap.size,1,Ab⟩=Ac (Aa O r.n.id):=a.out.cell 1;have q2:w2.cell? ⟨w.heap.size,2,Ab⟩=Ac (Aa O td):=a.out.cell 2;have q3:w2.cell? ⟨w.heap.size,3,Ab⟩=Ac (Aa O m.tm):=a.out.cell 3;have q4:w2.cell? ⟨w.heap.size,4,Ab⟩=Ac (Aa O m.li):=a.out.cell 4;have q5:w2.cell? ⟨w.heap.size,5,Ab⟩=Ac (Aa O m.lt):=a.out.cell 5;have q6:w2.cell? ⟨w.heap.size,6,Ab⟩=Ac (Aa O m.cm):=a.out.cell 6;have q7:w2.cell? ⟨w.heap.size,7,Ab⟩=Ac (Aa O m.ok):=a.out.cell 7;have q8:w2.cell? ⟨w.heap.size,8,Ab⟩=Ac (Aa O m.hi):=a.out.cell 8;have q9:w2.cell? ⟨w.heap.size,9,Ab⟩=Ac (I ea m.es.length ec):=a.out.cell 9;have pa:∀(o:Obj) (j:Nat),(w2.alloc o).cell? ⟨b,j,Ab⟩=w2.cell? ⟨b,j,Ab⟩:=λo j=>World.cell?_alloc_lt _ _ _ (by show b<w2.heap.size;omega)
 have af:=Z0 λe=>Zm ac.out aa.out (by decide) b e rfl
 have u:Ah (∀ i v,Zc omC 10 43 i B v (x.L ++ [⟨{ m with fr:=r.n.id,td:=td },ea,ec⟩])->∀ w4,Ai w2.heap.size w2 w4->Ye w4 (I va xn vc) i v->Z9 (i.setCell ⟨b,23,Ab⟩ v) B b (r.send { m with td:=td }) (x.sent v ⟨{ m with fr:=r.n.id,td:=td },ea,ec⟩)/\Tch b w x (i.setCell ⟨b,23,Ab⟩ v) (x.sent v ⟨{ m with fr:=r.n.id,td:=td },ea,ec⟩)):=λi v ho w4 h4 hg=>by
  rw [<-c.out] at hg;exact HR.out.sendAt (m:={ m with td:=td }) HE.out HA.out (f.out.trans (h4.mono f.out.size)) ho hg
 go_region_law
  (refine Z00 omLaw rfl _ _ rfl ⟨{ m with fr:=r.n.id,td:=td },ea,ec⟩ (Zc.below (Zc.below ac.out ((An _ _).drew)) baq) rfl _ 1 (Z04 _ _ 43) rfl (by have:=ae.out x.L rfl;omega) (by simp;omega) ?_;intro v3 i q s;have ag:=Z0 q;obtain ⟨a3,c3,e3⟩:=q.shape;rw [Bc,List.length_singleton] at e3;have ad:Ah (Ye _ (I va xn vc) i v3):=s;have ab:=Z0 ((aa.out.drew.alloc _).keep (s.g.block b (by simp;omega) (λe=>af.out e.symm)));obtain ⟨vq,ak⟩:∃ vq,i.cell? ⟨b,23,Ab⟩=Ac vq:=⟨_,ab.out.cell 23⟩;have pf:=ab.out.free;subst e3;clear q s)
 all_goals go_wp2
 all_goals (
  (try simp only [Av,Exit.then])
  refine bodyPost_end (Au rfl _ _ _) rfl ⟨rfl,_,_,u.out _ _ ag.out _ ((An _ _).drew.alloc (Nat.le_refl _) _) ad.out⟩)
section
theorem J2 (l:List Int)(j:Nat)(v:Int)(h:j<l.length:=by omega):(l.set j v).getD j 0=v:=by
 rw [Ba,List.getElem?_set_self h];rfl
theorem Jd (l:List Int)(i j:Nat)(v:Int)(h:j≠i:=by omega):(l.set j v).getD i 0=l.getD i 0:=by
 rw [Ba,List.getElem?_set_ne h,<-Ba]
variable {w:Ag}{B b q:Nat}{r:Rn}{x:CV}{y:Int}
theorem Z9.pgAt {r':Rn}(h:Z9 w B b r x)(e:x.f y=Ac q)(i:Nat)(v:Af)
  (o:(pgC r.n y).setIfInBounds i v=pgC r'.n y) (t:∀ z,1<=z->z≠y->pgC r'.n z=pgC r.n z) (l:crC r' x=crC r x) (u:r'.n.log=r.n.log) (e2:r'.n.gr=r.n.gr) (e7:r'.out=r.out) (e8:r'.n.sz=r.n.sz) (e9:r'.n.id=r.n.id) (e10:r'.n.ro=r.n.ro) (hi:CI r'.n) :
  Z9 (w.setCell ⟨q,i,Ab⟩ v) B b r' x/\Tch b w x (w.setCell ⟨q,i,Ab⟩ v) x:=by
 obtain ⟨f1,f2,d,s,m⟩:=h.bf;have f6:=h.entB;have c:∀ k,k≠q->(w.setCell ⟨q,i,Ab⟩ v).heap[k]? = w.heap[k]?:=λk c=>Ak _ _ _ _ c
 refine ⟨⟨?_,h.lo,u▸h.log.block λk a=>c k ((s k a).2.2.2 y q e).symm,e2▸h.gm.keep (c _ (d y q e).2.1.symm),h.gml,h.pm.keep (c _ (d y q e).2.2.symm),h.pml,h.gp,?_,h.pi,by rw [e8,e9,e10];exact h.pk,h.out.block λk a=>c k ((m k a).2.2.2.1 y q e).symm,e7▸h.outC,λp hp=>(h.ents p hp).block λk a=>c k ((f6 p hp k a).2.2.2.1 y q e).symm,h.apE,hi⟩,Tch.of x (Rd.frame i v) (.inr (.inr (.inr (.inl ⟨y,e⟩))))⟩
 ·rw [l]
  exact h.blk.keep (c _ (d y q e).1.symm)
 ·intro z g a
  refine ⟨?_,(h.pf z g a).2⟩;by_cases j:z=y
  ·subst j
   rw [e] at a;injection a with a;subst a;rw [<-o];exact (h.pf z q e).1.set i v
  ·rw [t z ((h.pk z).1 (by rw [a];rfl)).2.1 j]
   exact (h.pf z g a).1.keep (c g (λe9=>j (h.pi z y q (e9▸a) e)))
theorem Z9.nxP (h:Z9 w B b r x)(e:x.f y=Ac q)(v:Int) :
  Z9 (w.setCell ⟨q,0,Ab⟩ (Aa O v)) B b { r with n:={ r.n with nx:=r.n.nx.set (y-1).toNat v } } x/\Tch b w x (w.setCell ⟨q,0,Ab⟩ (Aa O v)) x:=by
 have a:=(h.pk y).1 (by rw [e];rfl);have t:=(h.ci.ld a.1).1;refine h.pgAt e 0 _ ?_ ?_ rfl rfl rfl rfl rfl rfl rfl ?_
 ·unfold pgC
  simp only [J2 r.n.nx (y-1).toNat v];rfl
 ·intro z s p
  unfold pgC;simp only [Jd r.n.nx (z-1).toNat (y-1).toNat v]
 ·obtain ⟨m,o,g,k,i,l,d,j,c9⟩:=h.ci
  refine ⟨m,o,g,k,i,l,d,λhr=>?_,λhr=>absurd a.1 hr⟩;have c:=j hr;refine ⟨by simpa [Bg] using c.1,?_⟩;simp only [Jd r.n.nx (r.n.id-1).toNat (y-1).toNat v];exact c.2
theorem Z9.mtP (h:Z9 w B b r x)(e:x.f y=Ac q)(v:Int) :
  Z9 (w.setCell ⟨q,1,Ab⟩ (Aa O v)) B b { r with n:={ r.n with mt:=r.n.mt.set (y-1).toNat v } } x/\Tch b w x (w.setCell ⟨q,1,Ab⟩ (Aa O v)) x:=by
 have a:=(h.pk y).1 (by rw [e];rfl);have t:=(h.ci.ld a.1).1;refine h.pgAt e 1 _ ?_ ?_ rfl rfl rfl rfl rfl rfl rfl ?_
 ·unfold pgC
  simp only [J2 r.n.mt (y-1).toNat v];rfl
 ·intro z s p
  unfold pgC;simp only [Jd r.n.mt (z-1).toNat (y-1).toNat v]
 ·obtain ⟨m,o,g,k,i,l,d,j,c9⟩:=h.ci
  refine ⟨m,o,g,k,i,l,d,λhr=>?_,λhr=>absurd a.1 hr⟩;have c:=j hr;refine ⟨by simpa [Bg] using c.1,?_⟩;simp only [Jd r.n.mt (r.n.id-1).toNat (y-1).toNat v];exact c.2
theorem Z9.seP (h:Z9 w B b r x)(e:x.f y=Ac q)(v:Int) :
  Z9 (w.setCell ⟨q,2,Ab⟩ (Aa O v)) B b { r with n:={ r.n with se:=r.n.se.set (y-1).toNat v } } x/\Tch b w x (w.setCell ⟨q,2,Ab⟩ (Aa O v)) x:=by
 have a:=(h.pk y).1 (by rw [e];rfl);have t:=(h.ci.ld a.1).1;refine h.pgAt e 2 _ ?_ ?_ rfl rfl rfl rfl rfl rfl rfl ?_
 ·unfold pgC
  simp only [J2 r.n.se (y-1).toNat v];rfl
 ·intro z s p
  unfold pgC;simp only [Jd r.n.se (z-1).toNat (y-1).toNat v]
 ·obtain ⟨m,o,g,k,i,l,d,j,c9⟩:=h.ci
  refine ⟨m,o,g,k,i,l,d,λhr=>?_,λhr=>absurd a.1 hr⟩;have c:=j hr;refine ⟨by simpa [Bg] using c.1,?_⟩;simp only [Jd r.n.se (r.n.id-1).toNat (y-1).toNat v];exact c.2
theorem Z9.stP (h:Z9 w B b r x)(e:x.f y=Ac q)(v:Int) :
  Z9 (w.setCell ⟨q,3,Ab⟩ (Aa O v)) B b { r with n:={ r.n with st:=r.n.st.set (y-1).toNat v } } x/\Tch b w x (w.setCell ⟨q,3,Ab⟩ (Aa O v)) x:=by
 have a:=(h.pk y).1 (by rw [e];rfl);have t:=(h.ci.ld a.1).1;refine h.pgAt e 3 _ ?_ ?_ rfl rfl rfl rfl rfl rfl rfl ?_
 ·unfold pgC
  simp only [J2 r.n.st (y-1).toNat v];rfl
 ·intro z s p
  unfold pgC;simp only [Jd r.n.st (z-1).toNat (y-1).toNat v]
 ·obtain ⟨m,o,g,k,i,l,d,j,c9⟩:=h.ci
  refine ⟨m,o,g,k,i,l,d,λhr=>?_,λhr=>absurd a.1 hr⟩;have c:=j hr;refine ⟨by simpa [Bg] using c.1,?_⟩;simp only [Jd r.n.st (r.n.id-1).toNat (y-1).toNat v];exact c.2
end
end Go.Proofs.YtmmpoppgabadmaaGreat
namespace Go.Proofs.YtmmpoppgabadmaaGreat
open Go.Proofs.Tryz
open Go.RowKit Go.Maps
variable {γ:Type} {vl:γ->Af} {w:Ag} {b:Nat} {f:Int->Option γ}
theorem IR.next {r c:Nat}{g:Int->Bool}(h:IR vl w b r f g c)(ty:Ax) :
  (c=0/\(∀ y,g y=false)/\(Instr.next (Ae (Ac ⟨r,0,Ab⟩)) false ty).run Ad w=.ok (.tuple #[.bool false]) w) ∨
  ∃(y:Int) (q:γ) (w':Ag) (cnt':Nat),g y=true/\f y=Ac q/\IR vl w' b r f (λz=>g z && !(z == y)) cnt'/\cnt'<c/\w.grownBy w' (Ac r)/\w'.heap.size=w.heap.size /\
   (Instr.next (Ae (Ac ⟨r,0,Ab⟩)) false ty).run Ad w=.ok (.tuple #[.bool true,.int O y,vl q]) w'/\(Instr.entry (Ae (Ac ⟨r,0,Ab⟩))).run Ad w'=.ok (.tuple #[.int O y,vl q]) w':=by
 obtain ⟨n,D,left,m,i,j⟩:=h;rcases m.next law3 ty with ⟨h0,hl,hrun⟩ | ⟨key,v,kl,y,w',cnt',hkey,hlk,hv,hat,hrun,hrg,hlt,hgr,hsz,hen⟩
 ·exact .inl ⟨h0,λy=>by rw [<-j];exact hl _,hrun⟩
 ·obtain ⟨x,rfl,rfl,o⟩:=keyOf_int_inv underlying3 hkey
  have a:=has_true_of_atKey hat;rw [(i x).1] at a;obtain ⟨q,l⟩:=Option.isSome_iff_exists.1 a;have d:=hat (.held undef);rw [(i x).2,l] at d;simp only [Z2m,Bf] at hv;rw [<-hv] at d;simp only [Option.elim_some,DataW.held.injEq] at d;subst d;refine .inr ⟨x,q,w',cnt',by rw [<-j];exact hlk,l,⟨n,D,_,hrg,i,λz=>?_⟩,hlt,hgr,hsz,hrun,hen⟩;show (left (.int O z) && !(Lit.int O z).sameKey (.int O x))=_;rw [j]
  have k:(Lit.int O z).sameKey (.int O x)=(z == x):=by
   by_cases e:z=x <;> simp [Lit.sameKey,e]
  rw [k]
end Go.Proofs.YtmmpoppgabadmaaGreat
