import Derived.Maps.OwnSet
import Derived.Maps.RangeWalk
import Derived.Lib.SlKeysI
import Derived.Test.YtmmpoppgabadmaaGreatG06
import Derived.Deep.RegionHeld3
import Derived.Deep.QuietTactic
set_option linter.unusedVariables false
set_option linter.unusedSimpArgs false
set_option maxRecDepth 100000
set_option maxHeartbeats 16000000
namespace Go.Proofs.YtmmpoppgabadmaaGreat
open Go.RowKit Go.Maps
open Go.ChangeMaps (setBlock)
open Go.MapKept (heap_set stamped_empty)
def Z1c (v:Value):Option (DataW Value×List MemPlace):=some (.held v,[])
theorem law3:Keyed Tryz.prog 3:=int_keyed Tryz.underlying3
theorem key3 {x:Int}(h:(Lit.int .i64 x).wf=true):keyOf Tryz.prog 3 (.int .i64 x)=some (.int .i64 x):=keyOf_int_mk Tryz.underlying3 h
theorem wf3 {x:Int}(h0 : -1000000<=x)(h1:x<=1000000):(Lit.int .i64 x).wf=true:=WalkArith.wf_i64 (by omega)
section
variable {γ:Type}
def IMD (vl:γ->Value)(D:DataW Value)(f:Int->Option γ):Prop:=∀ y:Int,Maps.has D (.int .i64 y)=(f y).isSome/\∀ z,D.atKey (.int .i64 y) (.held z)=.held ((f y).elim z vl)
def IM (vl:γ->Value)(w:World)(b:Nat)(f:Int->Option γ):Prop:=∃(n:Nat) (D:DataW Value),w.ownsMap Tryz.prog 3 Z1c b n D/\IMD vl D f
theorem tight3 {w:World}{b n:Nat}{D:DataW Value}(h:w.ownsMap Tryz.prog 3 Z1c b n D):w.ownsMap Tryz.prog 3 Z1c b (Maps.size D) D:=by
 obtain ⟨es,clock,hb,F,hs,hD⟩:=h;refine ⟨es,clock,hb,F,?_,hD⟩;rw [hD];simp [Maps.size,length_sorted]
variable {vl:γ->Value} {w:World} {b n:Nat} {f:Int->Option γ}
theorem IM.made (w:World):IM vl (w.alloc (.map #[] 0)) w.heap.size (fun _=>(none:Option γ)):=
 ⟨0,.map [],World.ownsMap_made w _ _ _,fun y=>⟨rfl,fun z=>rfl⟩⟩
theorem IM.lt (h:IM vl w b f):b<w.heap.size:=let ⟨n,D,h,_⟩:=h;World.ownsMap.lt h
theorem IM.keep {w':World}(h:IM vl w b f)(hb:w'.heap[b]? = w.heap[b]?):IM vl w' b f:=by
 obtain ⟨n,D,⟨es,clock,hb',r⟩,h2⟩:=h;exact ⟨n,D,⟨es,clock,hb.trans hb',r⟩,h2⟩
theorem IM.alloc (h:IM vl w b f)(o:Obj):IM vl (w.alloc o) b f:=h.keep (Below.heap_alloc _ _ _ h.lt)
theorem IM.ne_blk {k:Nat}{C:Array Value}{t:TypeId}(h:IM vl w b f)(hb:Blk w k C t):k≠b:=by
 rintro rfl;obtain ⟨n,D,⟨es,clock,h1,_⟩,_⟩:=h;unfold Blk at hb;rw [hb] at h1;cases h1
theorem IM.obj (h:IM vl w b f):∃ es c,w.heap[b]? = some (.map es c):=let ⟨n,D,⟨es,clock,h1,_⟩,_⟩:=h;⟨es,clock,h1⟩
theorem IM.keys {D:DataW Value}{l:List Int}(h:w.ownsMap Tryz.prog 3 Z1c b n D)(hf:IMD vl D f)(hl:l.Nodup)(hm:∀ y,y∈l↔(f y).isSome=true):l.Perm (intKeys D):=
 CollectedI.perm (D0:=D) (left:=fun _=>false) ⟨hl,fun x=>by rw [hm x,(hf x).1];exact ⟨fun h=>⟨h,rfl⟩,fun h=>h.1⟩⟩ h law3 Tryz.underlying3 (fun _=>rfl)
theorem IM.size {D:DataW Value}{l:List Int}(h:w.ownsMap Tryz.prog 3 Z1c b n D)(hf:IMD vl D f)(hl:l.Nodup)(hm:∀ y,y∈l↔(f y).isSome=true):Maps.size D=l.length:=by
 have h1:=(IM.keys h hf hl hm).length_eq;obtain ⟨es,rfl,_⟩:=h.entries law3;rw [h1];simp [intKeys,Maps.size]
variable {ops:Array Oper} {rest:List Oper} {o:Oper} {a:Act} {Q:Exit->Act->World->Prop}
theorem wpl_imput (w:World)(hg:o.guard=none)(m x v:Operand)(t:TypeId)(hop:o.op=Op.mapUpdate t m x v)(e:TypeId)(ht:Tryz.prog.underlying t=some (.map 3 e))
  (b:Nat) (hm:a.eval m=.map (some b)) (h:IM vl w b f) (l:List Int) (hl:l.Nodup) (hml:∀ y,y∈l↔(f y).isSome=true) (hn:l.length<1000000) (c:Int) (hc:(Lit.int .i64 c).wf=true) (y:γ) (hx:a.eval x=.int .i64 c) (hv:a.eval v=vl y)
  (hK:∀ w',IM vl w' b (fun d=>if d=c then some y else f d)->w.grownBy w' (some b)->wpList Tryz.prog ops Q rest (a.put o.dst undef) w'):wpList Tryz.prog ops Q (o :: rest) a w:=by
 obtain ⟨n,D,h1,h2⟩:=h;have hz:=IM.size h1 h2 hl hml;replace h1:=tight3 h1;refine wpList_mapUpdate_own w hg m x v t hop 3 e law3 ht Z1c b _ D hm h1 (by rw [hz];unfold maxLen;omega) _ _ _ hx hv (key3 hc) (.held (vl y)) [] rfl fun w' ho hgr=>hK w' ⟨_,_,ho,fun d=>?_⟩ hgr
 by_cases hcd:d=c
 ·subst hcd
  simp only [if_true];exact ⟨has_put_same h1.isMap (law3.key (key3 hc)) _,fun z=>atKey_put_same h1.isMap (law3.key (key3 hc)) _ _⟩
 ·have hne:Lit.int .i64 d≠Lit.int .i64 c:=fun e=>hcd (by injection e)
  simp only [if_neg hcd];exact ⟨(has_put_other hne _).trans (h2 d).1,fun z=>(atKey_put_other hne _ _).trans ((h2 d).2 z)⟩
theorem run_clear (w:World){t e ty:TypeId}(ht:Tryz.prog.underlying t=some (.map 3 e)){b:Nat}(h:IM vl w b f) :
  ∃ w',(Builtin.clear_ #[t] ty #[.map (some b)]).run Tryz.prog w=.ok (.tuple #[]) w'/\IM vl w' b (fun _=>(none:Option γ))/\w.grownBy w' (some b)/\w'.heap.size=w.heap.size:=by
 obtain ⟨n,D,⟨es,clock,hb,F,hs,hD⟩,h2⟩:=h;have hset:=heap_set (o':=.map #[] clock) hb;refine ⟨setBlock w b (.map #[] clock),?_,⟨0,.map [],⟨#[],clock,hset.1,⟨by simp,stamped_empty clock,by simp⟩,Nat.le_refl _,rfl⟩,fun y=>⟨rfl,fun z=>rfl⟩⟩,⟨rfl,rfl,rfl,by simp [setBlock],fun i _ hi=>hset.2 i (fun e1=>hi (by rw [e1]))⟩,by simp [setBlock]⟩;simp [Builtin.clear_,run_underlying ht,MapKept.run_getObj_map hb,MapKept.run_setObj_map _ hb,Result.andThen];rfl
theorem gate_clr {P:Program}{ops:Array Oper}{rest:List Oper}{o:Oper}{a:Act}{w:World}{Q:Exit->Act->World->Prop}(m:Operand)(t:TypeId)(ho:o.op=Op.call { callee:=Callee.builtin Builtin.clear,args:=#[m],argTypes:=#[t] })(h:wpList P ops Q (o :: rest) a w):wpList P ops Q (o :: rest) a w:=h
theorem wpl_clear (w:World)(hg:o.guard=none)(m:Operand)(t:TypeId)(hop:o.op=Op.call { callee:=Callee.builtin Builtin.clear,args:=#[m],argTypes:=#[t] })(e:TypeId)(ht:Tryz.prog.underlying t=some (.map 3 e))
  (b:Nat) (hm:a.eval m=.map (some b)) (h:IM vl w b f)
  (hK:∀ w',IM vl w' b (fun _=>(none:Option γ))->w.grownBy w' (some b)->w'.heap.size=w.heap.size->wpList Tryz.prog ops Q rest (a.put o.dst (.tuple #[])) w'):wpList Tryz.prog ops Q (o :: rest) a w:=by
 refine wpList_plain hg fun K' hK'=>?_
 obtain ⟨w',hrun,r1,r2,r3⟩:=run_clear (ty:=o.type) w ht h;unfold Oper.wp;simp [execOp,hop,resolve,invoke,builtin,hm,hrun,Result.andThen];exact hK' _ _ (hK w' r1 r2 r3)
def IR (vl:γ->Value)(w:World)(b r:Nat)(f:Int->Option γ)(lf:Int->Bool)(cnt:Nat):Prop:=
 ∃(n:Nat) (D:DataW Value) (left:Lit->Bool),w.ranges Tryz.prog 3 Z1c b r n D left cnt/\IMD vl D f/\∀ y,left (.int .i64 y)=lf y
theorem IR.im {r cnt:Nat}{lf:Int->Bool}(h:IR vl w b r f lf cnt):IM vl w b f:=let ⟨n,D,left,h1,h2,h3⟩:=h;⟨n,D,h1.owns,h2⟩
theorem IR.left_eq {r cnt:Nat}{lf:Int->Bool}(h:IR vl w b r f lf cnt):w.rangeLeft b r=cnt:=let ⟨n,D,left,h1,h2,h3⟩:=h;h1.left_eq
theorem IR.keep {r cnt:Nat}{lf:Int->Bool}{w':World}(h:IR vl w b r f lf cnt)(hb:w'.heap[b]? = w.heap[b]?)(hr:w'.heap[r]? = w.heap[r]?):IR vl w' b r f lf cnt:=by
 obtain ⟨n,D,left,⟨es,clock,since,seen,c0,hb',F,hs,hD,hr',rest⟩,h2,h3⟩:=h;exact ⟨n,D,left,⟨es,clock,since,seen,c0,hb.trans hb',F,hs,hD,hr.trans hr',rest⟩,h2,h3⟩
theorem wpl_imrange (w:World)(hg:o.guard=none)(m:Operand)(t:TypeId)(hop:o.op=Op.range t m)(e:TypeId)(ht:Tryz.prog.underlying t=some (.map 3 e))(b:Nat)(hm:a.eval m=.map (some b))(h:IM vl w b f)
  (hK:∀ w' cnt,IR vl w' b w.heap.size f (fun y=>(f y).isSome) cnt->w.grownBy w' none->w'.heap.size=w.heap.size+1->wpList Tryz.prog ops Q rest (a.put o.dst (.pointer (some ⟨w.heap.size,0,none⟩))) w'):wpList Tryz.prog ops Q (o :: rest) a w:=by
 obtain ⟨n,D,h1,h2⟩:=h;exact wpList_range_own w hg m t hop 3 e law3 ht Z1c b n D hm h1 fun w' hr hg' hs=>hK w' _ ⟨n,D,_,hr,h2,fun y=>(h2 y).1⟩ hg' hs
end
end Go.Proofs.YtmmpoppgabadmaaGreat
namespace Go.Proofs.YtmmpoppgabadmaaGreat
open Go.RowKit
structure CV where
 vl:Value
 vo:Value
 L:List Om
 gm:Nat
 pm:Nat
 f:Int->Option Nat
 kp:Int
def crC (r:Rn)(x:CV):Array Value:=#[.int .i64 r.n.id,.int .i64 r.n.sz,.int .i64 r.n.el,.int .i64 r.n.bt,.int .i64 r.n.tm,.int .i64 r.n.vo,.int .i64 r.n.ro,.int .i64 r.n.ld,.int .i64 r.n.cm,.int .i64 r.n.nw,.int .i64 r.n.dl,.int .i64 r.n.hd,x.vl,.slice none 0 0,.slice none 0 0,.slice none 0 0,.slice none 0 0,.slice none 0 0,.map (some x.gm),.map (some x.pm),.int .i64 r.draw,.int .i64 r.drew,.int .i64 x.kp,x.vo]
def pgC (n:Nd)(y:Int):Array Value:=#[.int .i64 (n.nx.getD (y-1).toNat 0),.int .i64 (n.mt.getD (y-1).toNat 0),.int .i64 (n.se.getD (y-1).toNat 0),.int .i64 (n.st.getD (y-1).toNat 0)]
def ptV (q:Nat):Value:=.pointer (some ⟨q,0,none⟩)
def unV (_:Unit):Value:=.agg #[]
def grF (l:List Int)(y:Int):Option Unit:=if y∈l then some () else none
theorem grF_some (l:List Int)(y:Int):y∈l↔(grF l y).isSome=true:=by unfold grF;split <;> simp_all
structure CI (n:Nd):Prop where
 sz0:3<=n.sz
 sz1:n.sz<=7
 odd:n.sz%2=1
 id0:1<=n.id
 id1:n.id<=n.sz
 gr1:n.gr.Pairwise (· < ·)
 gr2:∀ y∈n.gr,1<=y/\y<=n.sz
 ld:n.ro=3->(n.nx.length=n.sz.toNat/\n.mt.length=n.sz.toNat/\n.se.length=n.sz.toNat/\n.st.length=n.sz.toNat)/\n.nx.getD (n.id-1).toNat 0=0/\n.mt.getD (n.id-1).toNat 0=0/\n.se.getD (n.id-1).toNat 0=0/\n.st.getD (n.id-1).toNat 0=0
 nl:n.ro≠3->n.nx = []/\n.mt = []/\n.se = []/\n.st = []
structure Zo (w:World) (B b:Nat) (r:Rn) (x:CV):Prop where
 blk:Blk w b (crC r x) 80
 lo:B<=b
 log:Zv w B x.vl r.n.log
 gm:IM unV w x.gm (grF r.n.gr)
 gml:B<=x.gm
 pm:IM ptV w x.pm x.f
 pml:B<=x.pm
 gp:x.gm≠x.pm
 pf:∀ y q,x.f y=some q->Blk w q (pgC r.n y) 124/\B<=q
 pi:∀ y z q,x.f y=some q->x.f z=some q->y=z
 pk:∀ y,(x.f y).isSome=true↔(r.n.ro=3/\1<=y/\y<=r.n.sz/\y≠r.n.id)
 out:Zs omC 10 43 w B x.vo x.L
 outC:x.L.map (·.m)=r.out
 ents:∀ p∈x.L,Zv w B p.v p.m.es
 apE:(x.vl :: x.L.map Om.v).Pairwise Xq
 ci:CI r.n
def CV.has (x:CV)(b k:Nat):Prop:=k=b∨k=x.gm∨k=x.pm∨(∃ y,x.f y=some k)∨x.vl.ownBlock=some k∨x.vo.ownBlock=some k
structure Tch (b:Nat) (w:World) (x:CV) (w':World) (x':CV):Prop where
 os:w'.os=w.os
 tape:w'.tape=w.tape
 output:w'.output=w.output
 size:w.heap.size<=w'.heap.size
 block:∀ k,k<w.heap.size->¬ x.has b k->w'.heap[k]? = w.heap[k]?
 at':∀ k,x'.has b k->x.has b k∨w.heap.size<=k
section
variable {w w1 w':World} {B b:Nat} {r:Rn} {x x1 x':CV}
theorem Tch.trans (h:Tch b w x w1 x1)(k:Tch b w1 x1 w' x'):Tch b w x w' x':=
 ⟨k.os.trans h.os,k.tape.trans h.tape,k.output.trans h.output,Nat.le_trans h.size k.size,fun i hi hn=>(k.block i (Nat.lt_of_lt_of_le hi h.size) (fun e=>(h.at' i e).elim hn (by omega))).trans (h.block i hi hn),
  fun i hi=>(k.at' i hi).elim (h.at' i) (fun e=>.inr (Nat.le_trans h.size e))⟩
theorem Tch.below0 (b:Nat)(x:CV)(h:Below w.heap.size w w'):Tch b w x w' x:=⟨h.os,h.tape,h.output,h.size,fun k hk _=>h.block k hk,fun k hk=>.inl hk⟩
theorem Tch.tail (h:Tch b w x w1 x1)(hb:Below w1.heap.size w1 w'):Tch b w x w' x1:=h.trans (Tch.below0 b x1 hb)
theorem Tch.head (hb:Below w.heap.size w w1)(h:Tch b w1 x w' x'):Tch b w x w' x':=(Tch.below0 b x hb).trans h
theorem Tch.of {row:Nat}(x:CV)(h:w.grownBy w' (some row))(hr:x.has b row):Tch b w x w' x:=
 ⟨h.os,h.tape,h.output,h.size,fun k hk hn=>h.block k hk (fun e=>hn (by injection e with e;rw [e];exact hr)),fun k hk=>.inl hk⟩
theorem Zo.lt (h:Zo w B b r x):b<w.heap.size:=h.blk.lt
theorem Zo.has_le (h:Zo w B b r x){k:Nat}(hk:x.has b k):B<=k/\k<w.heap.size:=by
 rcases hk with rfl | rfl | rfl | ⟨y,e⟩ | e | e
 ·exact ⟨h.lo,h.lt⟩
 ·exact ⟨h.gml,h.gm.lt⟩
 ·exact ⟨h.pml,h.pm.lt⟩
 ·exact ⟨(h.pf y _ e).2,(h.pf y _ e).1.lt⟩
 ·exact World.ownsRow.lt h.log.2 k e
 ·exact h.out.lts k e
theorem Zo.below_of (h:Zo w B b r x)(ht:Tch b w x w' x'):Below B w w':=
 ⟨ht.os,ht.tape,ht.output,ht.size,fun k hk=>ht.block k (Nat.lt_of_lt_of_le hk (Nat.le_trans h.lo (Nat.le_of_lt h.lt))) (fun e=>by have:=(h.has_le e).1;omega)⟩
theorem Tch.blk (ht:Tch b w x w' x'){q:Nat}{C:Array Value}{t:TypeId}(hq:Blk w q C t)(hn:¬ x.has b q):Blk w' q C t:=hq.keep (ht.block q hq.lt hn)
theorem blk_eq {w:World}{k:Nat}{C C':Array Value}{t t':TypeId}(h:Blk w k C t)(h':Blk w k C' t'):C=C'/\t=t':=by
 unfold Blk at h h';rw [h] at h';simp only [Option.some.injEq,Obj.cells.injEq] at h';exact ⟨h'.1,h'.2.1⟩
theorem own_ty {α:Type}{cs:α->List Value}{m:Nat}{T:TypeId}{w:World}{B:Nat}{v:Value}{l:List α}(h:Zs cs m T w B v l){k:Nat}(e:v.ownBlock=some k):∃ cur s,w.heap[k]? = some (.cells cur T s):=by
 obtain ⟨-,⟨rfl,-⟩ | ⟨g,cap,cur,rfl,-,hb',-⟩⟩:=h
 ·cases e
 cases e;exact ⟨_,_,hb'⟩
theorem Z0i {w:World}{B:Nat}{v:Value}{l:List Ent}(h:Zv w B v l){k:Nat}(e:v.ownBlock=some k):∃ cur s,w.heap[k]? = some (.cells cur 118 s):=by
 obtain ⟨-,-,⟨rfl,-⟩ | ⟨g,cap,cur,rfl,-,hb',-⟩⟩:=h
 ·cases e
 cases e;exact ⟨_,_,hb'⟩
theorem Zo.hasnt_new (h:Zo w B b r x){q:Nat}(hq:w.heap.size<=q):¬ x.has b q:=fun e=>by have:=(h.has_le e).2;omega
theorem hmap {w:World}{k:Nat}{cur:Array Value}{T:TypeId}{s:Nat×Nat}{l:Array MapEntry}{c:Nat}(h1:w.heap[k]? = some (Obj.cells cur T s))(h2:w.heap[k]? = some (Obj.map l c)):False:=by rw [h1] at h2;cases h2
theorem Xa {w:World}{k:Nat}{cur cur':Array Value}{T T':TypeId}{s s':Nat×Nat}(h1:w.heap[k]? = some (Obj.cells cur T s))(h2:w.heap[k]? = some (Obj.cells cur' T' s')):T=T':=by
 rw [h1] at h2;simp only [Option.some.injEq,Obj.cells.injEq] at h2;exact h2.2.1
theorem Zo.bf (h:Zo w B b r x):(x.gm≠b)/\(x.pm≠b)/\(∀ y q,x.f y=some q->q≠b/\q≠x.gm/\q≠x.pm)/\(∀ k,x.vl.ownBlock=some k->k≠b/\k≠x.gm/\k≠x.pm/\∀ y q,x.f y=some q->q≠k)/\(∀ k,x.vo.ownBlock=some k->k≠b/\k≠x.gm/\k≠x.pm/\(∀ y q,x.f y=some q->q≠k)/\x.vl.ownBlock≠some k):=by
 obtain ⟨ge,gc,hg⟩:=h.gm.obj;obtain ⟨pe,pc,hp⟩:=h.pm.obj;refine ⟨fun e=>h.gm.ne_blk h.blk e.symm,fun e=>h.pm.ne_blk h.blk e.symm,fun y q e=>?_,fun k e=>?_,fun k e=>?_⟩
 ·have hq:=(h.pf y q e).1
  refine ⟨?_,h.gm.ne_blk hq,h.pm.ne_blk hq⟩;rintro rfl;exact absurd (blk_eq hq h.blk).2 (by decide)
 ·obtain ⟨cur,s,hk⟩:=Z0i h.log e
  refine ⟨?_,?_,?_,?_⟩
  ·rintro rfl;exact absurd (Xa hk h.blk) (by decide)
  ·rintro rfl;exact hmap hk hg
  ·rintro rfl;exact hmap hk hp
  ·rintro y q e2 rfl;exact absurd (Xa hk (h.pf y q e2).1) (by decide)
 ·obtain ⟨cur,s,hk⟩:=own_ty h.out e
  refine ⟨?_,?_,?_,?_,?_⟩
  ·rintro rfl;exact absurd (Xa hk h.blk) (by decide)
  ·rintro rfl;exact hmap hk hg
  ·rintro rfl;exact hmap hk hp
  ·rintro y q e2 rfl;exact absurd (Xa hk (h.pf y q e2).1) (by decide)
  ·intro e2
   obtain ⟨cur2,s2,hk2⟩:=Z0i h.log e2;exact absurd (Xa hk hk2) (by decide)
theorem Zo.entB (h:Zo w B b r x):∀ p∈x.L,∀ k,p.v.ownBlock=some k->k≠b/\k≠x.gm/\k≠x.pm/\(∀ y q,x.f y=some q->q≠k)/\x.vo.ownBlock≠some k:=by
 intro p hp k e;obtain ⟨ge,gc,hg⟩:=h.gm.obj;obtain ⟨pe,pc,hpm⟩:=h.pm.obj;obtain ⟨cur,s,hk⟩:=Z0i (h.ents p hp) e;refine ⟨?_,?_,?_,?_,?_⟩
 ·rintro rfl;exact absurd (Xa hk h.blk) (by decide)
 ·rintro rfl;exact hmap hk hg
 ·rintro rfl;exact hmap hk hpm
 ·rintro y q e2 rfl;exact absurd (Xa hk (h.pf y q e2).1) (by decide)
 ·intro e2
  obtain ⟨cur2,s2,hk2⟩:=own_ty h.out e2;exact absurd (Xa hk hk2) (by decide)
theorem Zo.re {r':Rn}{kp':Int}(h:Zo w B b r x)(hb:Blk w' b (crC r' { x with kp:=kp' }) 80)(hk:∀ k,k≠b->k<w.heap.size->w'.heap[k]? = w.heap[k]?)
  (e1:r'.n.log=r.n.log) (e2:r'.n.gr=r.n.gr) (e3:r'.n.nx=r.n.nx) (e4:r'.n.mt=r.n.mt) (e5:r'.n.se=r.n.se) (e6:r'.n.st=r.n.st) (e7:r'.out=r.out) (e8:r'.n.sz=r.n.sz) (e9:r'.n.id=r.n.id) (e10:r'.n.ro=3↔r.n.ro=3):Zo w' B b r' { x with kp:=kp' }:=by
 obtain ⟨f1,f2,f3,f4,f5⟩:=h.bf;have f6:=h.entB;refine ⟨hb,h.lo,by rw [e1];exact h.log.block fun k e=>hk k (f4 k e).1 (World.ownsRow.lt h.log.2 k e).2,by rw [e2];exact h.gm.keep (hk _ f1 h.gm.lt),h.gml,h.pm.keep (hk _ f2 h.pm.lt),h.pml,h.gp,?_,h.pi,?_,h.out.block fun k e=>hk k (f5 k e).1 (h.out.lts k e).2,by rw [e7];exact h.outC,?_,h.apE,?_⟩
 ·intro y q e
  have:=h.pf y q e;refine ⟨?_,this.2⟩;have h2:pgC r'.n y=pgC r.n y:=by unfold pgC;rw [e3,e4,e5,e6]
  rw [h2];exact this.1.keep (hk q (f3 y q e).1 this.1.lt)
 ·intro y
  rw [e8,e9,e10];exact h.pk y
 ·intro p hp
  exact (h.ents p hp).block fun k e=>hk k (f6 p hp k e).1 (World.ownsRow.lt (h.ents p hp).2 k e).2
 ·obtain ⟨c1,c2,c3,c4,c5,c6,c7,c8,c9⟩:=h.ci
  exact ⟨by rw [e8];exact c1,by rw [e8];exact c2,by rw [e8];exact c3,by rw [e9];exact c4,by rw [e9,e8];exact c5,by rw [e2];exact c6,by rw [e2,e8];exact c7,by rw [e3,e4,e5,e6,e8,e9,e10];exact c8,by rw [e3,e4,e5,e6];exact fun hn=>c9 (fun e=>hn (e10.2 e))⟩
theorem Zo.below (h:Zo w B b r x)(hb:Below w.heap.size w w'):Zo w' B b r x:=
 h.re (kp':=x.kp) (h.blk.below hb h.lt) (fun k _ hk=>hb.block k hk) rfl rfl rfl rfl rfl rfl rfl rfl rfl Iff.rfl
theorem Zo.set {r':Rn}(h:Zo w B b r x)(i:Nat)(v:Value)(hc:(crC r x).setIfInBounds i v=crC r' x)
  (e1:r'.n.log=r.n.log) (e2:r'.n.gr=r.n.gr) (e3:r'.n.nx=r.n.nx) (e4:r'.n.mt=r.n.mt) (e5:r'.n.se=r.n.se) (e6:r'.n.st=r.n.st) (e7:r'.out=r.out) (e8:r'.n.sz=r.n.sz) (e9:r'.n.id=r.n.id) (e10:r'.n.ro=3↔r.n.ro=3):Zo (w.setCell ⟨b,i,none⟩ v) B b r' x:=
 h.re (kp':=x.kp) (by have:=h.blk.set i v;rw [hc] at this;exact this) (fun k hk _=>Below.heap_setCell _ _ _ _ hk) e1 e2 e3 e4 e5 e6 e7 e8 e9 e10
theorem Tch.set (b:Nat)(w:World)(x:CV)(i:Nat)(v:Value):Tch b w x (w.setCell ⟨b,i,none⟩ v) x:=Tch.of x (Rd.frame i v) (.inl rfl)
theorem Zo.drew (h:Zo w B b r x):Zo w.drew B b r x:=h.below ((Below.refl _ _).drew)
end
theorem Z2a (b:Nat)(r:Rn)(x:CV)(w:World)(B:Nat)(h:Zo w B b r x)(hd : -(2^63)<=r.draw)(hD:r.draw<2^63)(hn0:0<=r.n.nw)(hn1:r.n.nw<=1099511627776) :
  Calls Tryz.prog 156 #[.pointer (some ⟨b,0,none⟩)] w fun e w'=>e=.returned (.tuple #[])/\Zo w' B b r.timer x/\Tch b w x w' x:=by
 have HR:Hid _:=h;have c2:w.cell? ⟨b,2,none⟩=some (.int .i64 r.n.el):=h.blk.cell 2;have c9:w.cell? ⟨b,9,none⟩=some (.int .i64 r.n.nw):=h.blk.cell 9;have c10:w.cell? ⟨b,10,none⟩=some (.int .i64 r.n.dl):=h.blk.cell 10;have c20:w.cell? ⟨b,20,none⟩=some (.int .i64 r.draw):=h.blk.cell 20;have c21:w.cell? ⟨b,21,none⟩=some (.int .i64 r.drew):=h.blk.cell 21;have f10:w.frozen? ⟨b,10,none⟩=false:=h.blk.free 10;have f21:w.frozen? ⟨b,21,none⟩=false:=h.blk.free 21;have HT:Hid (∀ z,Calls Tryz.prog 179 #[.int .i64 r.n.el,.int .i64 r.draw] z fun e w'=>e=.returned (.int .i64 (J3 r.n.el r.draw))/\w'=z):=fun z=>timeoutOf_any _ _ hd hD z
 have ht0:=toutC_le r.n.el r.draw;have HT1:Hid (r.timer={ r with n:={ r.n with dl:=r.n.nw+J3 r.n.el r.draw },drew:=1 }):=rfl;clear h;generalize J3 r.n.el r.draw=tv at *;obtain ⟨ht0,ht1⟩:=ht0;go_enter Tryz.func156,Tryz.ntmps156;go_wp2
 go_region_held3 (fun w'=>w'.cell? ⟨b,2,none⟩=some (.int .i64 r.n.el)/\w'.cell? ⟨b,9,none⟩=some (.int .i64 r.n.nw)/\w'.cell? ⟨b,20,none⟩=some (.int .i64 r.draw)) (simp [*,go_sem])
  (first
   |(go_at_call 179;refine (HT.out _).mono ?_;rintro e w1 ⟨rfl,hw⟩;have hw2:=hw.symm;subst hw2))
 all_goals go_wp2
 all_goals (
  refine bodyPost_end (results_none rfl _ _ _) rfl ?_;exact ⟨rfl,(((HR.out.set (r':={ r with n:={ r.n with dl:=r.n.nw+tv } }) 10 _ rfl rfl rfl rfl rfl rfl rfl rfl rfl rfl Iff.rfl).drew).set (r':=r.timer) 21 _ (by rw [HT1.out];rfl) rfl rfl rfl rfl rfl rfl rfl rfl rfl Iff.rfl),(((Tch.set b w x 10 _).tail ((Below.refl _ _).drew)).trans (Tch.set b _ x 21 _))⟩)
def CV.lone (x:CV):CV:={ x with f:=fun _=>none }
theorem Zo.loneAt {w w':World}{B b:Nat}{r r':Rn}{x:CV}(h:Zo w B b r x)(hb:Blk w' b (crC r' x.lone) 80)(hg:IM unV w' x.gm (fun _=>(none:Option Unit)))(hp:IM ptV w' x.pm (fun _=>(none:Option Nat)))(hk:∀ k,k≠b->k≠x.gm->k≠x.pm->k<w.heap.size->w'.heap[k]? = w.heap[k]?)
  (e1:r'.n.log=r.n.log) (e2:r'.n.gr = []) (e3:r'.n.nx = []) (e4:r'.n.mt = []) (e5:r'.n.se = []) (e6:r'.n.st = []) (e7:r'.out=r.out) (e8:r'.n.sz=r.n.sz) (e9:r'.n.id=r.n.id) (e10:r'.n.ro=0):Zo w' B b r' x.lone:=by
 obtain ⟨f1,f2,f3,f4,f5⟩:=h.bf;have f6:=h.entB;have h3:(0:Int)≠3:=by decide
 refine ⟨hb,h.lo,by rw [e1];exact h.log.block fun k e=>hk k (f4 k e).1 (f4 k e).2.1 (f4 k e).2.2.1 (World.ownsRow.lt h.log.2 k e).2,?_,h.gml,hp,h.pml,h.gp,?_,?_,?_,h.out.block fun k e=>hk k (f5 k e).1 (f5 k e).2.1 (f5 k e).2.2.1 (h.out.lts k e).2,by rw [e7];exact h.outC,?_,h.apE,?_⟩
 ·have:grF r'.n.gr=fun _=>(none:Option Unit):=by funext y;rw [e2];rfl
  rw [this];exact hg
 ·intro y q e;cases e
 ·intro y z q e;cases e
 ·intro y
  rw [e10];constructor
  ·intro e;cases e
  ·intro e;exact absurd e.1 h3
 ·intro p hp
  exact (h.ents p hp).block fun k e=>hk k (f6 p hp k e).1 (f6 p hp k e).2.1 (f6 p hp k e).2.2.1 (World.ownsRow.lt (h.ents p hp).2 k e).2
 ·obtain ⟨c1,c2,c3,c4,c5,c6,c7,c8,c9⟩:=h.ci
  exact ⟨by rw [e8];exact c1,by rw [e8];exact c2,by rw [e8];exact c3,by rw [e9];exact c4,by rw [e9,e8];exact c5,by rw [e2];exact .nil,(by rw [e2];intro y hy;cases hy),(by rw [e10];intro e;exact absurd e h3),fun _=>⟨e3,e4,e5,e6⟩⟩
def Rn.follow (r:Rn)(t:Int):Rn:={ r.lone with n:={ r.lone.n with ld:=t } }
theorem Z3i (b:Nat)(r:Rn)(x:CV)(t:Int)(w:World)(B:Nat)(h:Zo w B b r x) :
  Calls Tryz.prog 155 #[.pointer (some ⟨b,0,none⟩),.int .i64 t] w fun e w'=>e=.returned (.tuple #[])/\Zo w' B b (r.follow t) x.lone/\Tch b w x w' x.lone:=by
 have HR:Hid _:=h;obtain ⟨f1,f2,f3,f4,f5⟩:=h.bf;have hb0:=h.blk.lt;have c6:w.cell? ⟨b,6,none⟩=some (.int .i64 r.n.ro):=h.blk.cell 6;have c7:w.cell? ⟨b,7,none⟩=some (.int .i64 r.n.ld):=h.blk.cell 7;have f6:w.frozen? ⟨b,6,none⟩=false:=h.blk.free 6;have f7:w.frozen? ⟨b,7,none⟩=false:=h.blk.free 7;have HB1:Hid (Blk ((w.setCell ⟨b,6,none⟩ (.int .i64 0)).setCell ⟨b,7,none⟩ (.int .i64 t)) b (crC (r.follow t) x.lone) 80):=(h.blk.set 6 _).set 7 _;have HG1:Hid (IM unV ((w.setCell ⟨b,6,none⟩ (.int .i64 0)).setCell ⟨b,7,none⟩ (.int .i64 t)) x.gm (grF r.n.gr)):=(h.gm.keep (Below.heap_setCell _ _ _ _ f1)).keep (Below.heap_setCell _ _ _ _ f1);have HP1:Hid (IM ptV ((w.setCell ⟨b,6,none⟩ (.int .i64 0)).setCell ⟨b,7,none⟩ (.int .i64 t)) x.pm x.f):=(h.pm.keep (Below.heap_setCell _ _ _ _ f2)).keep (Below.heap_setCell _ _ _ _ f2);have HT1:Hid (Tch b w x ((w.setCell ⟨b,6,none⟩ (.int .i64 0)).setCell ⟨b,7,none⟩ (.int .i64 t)) x):=(Tch.set b w x 6 _).trans (Tch.set b _ x 7 _);have HK1:Hid (∀ k,k≠b->k<w.heap.size->((w.setCell ⟨b,6,none⟩ (.int .i64 0)).setCell ⟨b,7,none⟩ (.int .i64 t)).heap[k]? = w.heap[k]?):=Z0v (b:=b) (Z0v (b:=b) (keep_refl w b) 6 _) 7 _;have HS1:Hid (((w.setCell ⟨b,6,none⟩ (.int .i64 0)).setCell ⟨b,7,none⟩ (.int .i64 t)).heap.size=w.heap.size):=by simp [Hid,World.setCell]
 have hgp:=h.gp;clear h f3 f4 f5;go_enter Tryz.func155,Tryz.ntmps155
 go_upto_region 1 with fail
 generalize (w.setCell ⟨b,6,none⟩ (.int .i64 0)).setCell ⟨b,7,none⟩ (.int .i64 t)=w1 at *;have d18:w1.cell? ⟨b,18,none⟩=some (.map (some x.gm)):=HB1.out.cell 18;have HB2:Hid (∀ w2,w1.grownBy w2 (some x.gm)->Blk w2 b (crC (r.follow t) x.lone) 80):=fun w2 h2=>HB1.out.keep (h2.block b HB1.out.lt (fun e=>f1 (by injection e with e;exact e.symm)))
 have G1:True:=trivial
 go_wp2_with (first
  |(refine gate_clr _ _ rfl ?_;clear G1;refine wpl_clear _ rfl _ 77 rfl 121 Tryz.underlying77 x.gm rfl HG1.out ?_;intro w2 hg2 hgr2 hs2;have HG2:Hid (IM unV w2 x.gm (fun _=>(none:Option Unit))):=hg2;have HGr2:Hid (w1.grownBy w2 (some x.gm)):=hgr2;have HSz2:Hid (w2.heap.size=w1.heap.size):=hs2;have d19:w2.cell? ⟨b,19,none⟩=some (.map (some x.pm)):=(HB2.out w2 hgr2).cell 19;have HP2:Hid (IM ptV w2 x.pm x.f):=HP1.out.keep (hgr2.block _ HP1.out.lt (fun e=>hgp (by injection e with e;exact e.symm)));clear hg2 hgr2 hs2)
  |(refine gate_clr _ _ rfl ?_;refine wpl_clear _ rfl _ 78 rfl 126 Tryz.underlying78 x.pm rfl HP2.out ?_;intro w3 hp3 hgr3 hs3;have HP3:Hid (IM ptV w3 x.pm (fun _=>(none:Option Nat))):=hp3;have HGr3:Hid (w2.grownBy w3 (some x.pm)):=hgr3;have HSz3:Hid (w3.heap.size=w2.heap.size):=hs3;clear hp3 hgr3 hs3))
 (try simp only [Exit.inBlock,Exit.then])
 have hs1:=HS1.out;have hs2:=HSz2.out;have hs3:=HSz3.out;refine bodyPost_end (results_none rfl _ _ _) rfl ⟨rfl,HR.out.loneAt ((HB2.out w2 HGr2.out).keep (HGr3.out.block b (by omega) (fun e=>f2 (by injection e with e;exact e.symm)))) (HG2.out.keep (HGr3.out.block _ HG2.out.lt (fun e=>hgp (by injection e with e)))) HP3.out (fun k h1 h2 h3 h4=>?_) rfl rfl rfl rfl rfl rfl rfl rfl rfl rfl,?_⟩
 ·rw [HGr3.out.block k (by omega) (fun e=>h3 (by injection e with e)),HGr2.out.block k (by omega) (fun e=>h2 (by injection e with e)),HK1.out k h1 h4]
 ·have T:=(HT1.out.trans (Tch.of x HGr2.out (.inr (.inl rfl)))).trans (Tch.of x HGr3.out (.inr (.inr (.inl rfl))))
  refine ⟨T.os,T.tape,T.output,T.size,T.block,fun k hk=>.inl ?_⟩;rcases hk with e | e | e | ⟨y,e⟩ | e | e
  ·exact .inl e
  ·exact .inr (.inl e)
  ·exact .inr (.inr (.inl e))
  ·cases e
  ·exact .inr (.inr (.inr (.inr (.inl e))))
  ·exact .inr (.inr (.inr (.inr (.inr e))))
theorem adopt_any (b:Nat)(r:Rn)(x:CV)(t:Int)(w:World)(B:Nat)(h:Zo w B b r x)(hd : -(2^63)<=r.draw)(hD:r.draw<2^63)(hn0:0<=r.n.nw)(hn1:r.n.nw<=1099511627776) :
  Calls Tryz.prog 170 #[.pointer (some ⟨b,0,none⟩),.int .i64 t] w fun e w'=>e=.returned (.tuple #[])/\Zo w' B b (r.adopt t) x.lone/\Tch b w x w' x.lone:=by
 have c6:w.cell? ⟨b,6,none⟩=some (.int .i64 r.n.ro):=h.blk.cell 6;have c4:w.cell? ⟨b,4,none⟩=some (.int .i64 r.n.tm):=h.blk.cell 4;have c5:w.cell? ⟨b,5,none⟩=some (.int .i64 r.n.vo):=h.blk.cell 5;have f4:w.frozen? ⟨b,4,none⟩=false:=h.blk.free 4;have f5:w.frozen? ⟨b,5,none⟩=false:=h.blk.free 5
 have HS:Hid (Zo ((w.setCell ⟨b,4,none⟩ (.int .i64 t)).setCell ⟨b,5,none⟩ (.int .i64 0)) B b { r with n:={ r.n with tm:=t,vo:=0 } } x):=
  (h.set (r':={ r with n:={ r.n with tm:=t } }) 4 _ rfl rfl rfl rfl rfl rfl rfl rfl rfl rfl Iff.rfl).set 5 _ rfl rfl rfl rfl rfl rfl rfl rfl rfl rfl Iff.rfl
 have HT0:Hid (Tch b w x ((w.setCell ⟨b,4,none⟩ (.int .i64 t)).setCell ⟨b,5,none⟩ (.int .i64 0)) x):=(Tch.set b w x 4 _).trans (Tch.set b _ x 5 _);have HL:Hid (Calls Tryz.prog 155 #[.pointer (some ⟨b,0,none⟩),.int .i64 0] ((w.setCell ⟨b,4,none⟩ (.int .i64 t)).setCell ⟨b,5,none⟩ (.int .i64 0)) fun e w'=>e=.returned (.tuple #[])/\Zo w' B b { r.lone with n:={ r.lone.n with tm:=t,vo:=0 } } x.lone/\Tch b ((w.setCell ⟨b,4,none⟩ (.int .i64 t)).setCell ⟨b,5,none⟩ (.int .i64 0)) x w' x.lone):=Z3i b _ x 0 _ B HS.out;have HTm:Hid (∀ z,Zo z B b { r.lone with n:={ r.lone.n with tm:=t,vo:=0 } } x.lone->Calls Tryz.prog 156 #[.pointer (some ⟨b,0,none⟩)] z fun e w'=>e=.returned (.tuple #[])/\Zo w' B b (Rn.timer { r.lone with n:={ r.lone.n with tm:=t,vo:=0 } }) x.lone/\Tch b z x.lone w' x.lone):=fun z hz=>Z2a b _ _ z B hz hd hD hn0 hn1
 have HA:Hid (r.adopt t=if r.n.ro=3 then Rn.timer { r.lone with n:={ r.lone.n with tm:=t,vo:=0 } } else { r.lone with n:={ r.lone.n with tm:=t,vo:=0 } }):=rfl;generalize r.adopt t=RA at *;generalize ({ r.lone with n:={ r.lone.n with tm:=t,vo:=0 } } : Rn)=RL at *;generalize x.lone=XL at *;generalize r.n.ro=ro at *;clear h HS;by_cases hr:ro=3
 ·subst hr
  have HA3:Hid _:=HA.out.trans (if_pos rfl);clear HA;go_enter Tryz.func170,Tryz.ntmps170
  go_wp2_with (first
   |(go_at_call 155;refine Calls.mono HL.out ?_;rintro e w1 ⟨rfl,h1,t1⟩;have H1:Hid _:=h1;have T1:Hid (Tch b w x w1 XL):=HT0.out.trans t1;clear h1 t1)
   |(go_at_call 156;refine Calls.mono (HTm.out _ H1.out) ?_;rintro e w2 ⟨rfl,h2,t2⟩;have H2:Hid _:=h2;have T2:Hid (Tch b w x w2 XL):=T1.out.trans t2;clear h2 t2))
  (try simp only [Exit.inBlock,Exit.then])
  refine bodyPost_end (results_none rfl _ _ _) rfl ⟨rfl,?_,T2.out⟩;rw [HA3.out];exact H2.out
 ·have HA3:Hid _:=HA.out.trans (if_neg hr)
  have hr2:(ro == 3)=false:=by simpa using hr
  clear HA hr;go_enter Tryz.func170,Tryz.ntmps170
  go_wp2_with (first
   |(go_at_call 155;refine Calls.mono HL.out ?_;rintro e w1 ⟨rfl,h1,t1⟩;have H1:Hid _:=h1;have T1:Hid (Tch b w x w1 XL):=HT0.out.trans t1;clear h1 t1))
  (try simp only [Exit.inBlock,Exit.then])
  refine bodyPost_end (results_none rfl _ _ _) rfl ⟨rfl,?_,T1.out⟩;rw [HA3.out];exact H1.out
end Go.Proofs.YtmmpoppgabadmaaGreat
namespace Go.Proofs.YtmmpoppgabadmaaGreat
open Go.RowKit Go.Maps
theorem Z0c (B:Nat)(w:World)(k:Nat):Below B w (w.drewN k):=⟨rfl,rfl,rfl,Nat.le_refl _,fun _ _=>rfl⟩
theorem iLastTerm_any (v:Value)(l:List Ent)(w:World)(hv:Es w v l) :
  Calls Tryz.prog 180 #[v] w fun e w'=>e=.returned (.int .i64 (Z0o l))/\w'=w:=by
 obtain ⟨hl,hf,a,cap,rfl,hc⟩:=hv;unfold maxLen at hl;by_cases h0:l.length=0
 ·have hT:Z0o l=0:=by unfold Z0o Jw;rw [if_pos h0]
  rw [hT];have h0':((l.length:Int) == 0)=true:=by simp [h0]
  clear hc hT;go_enter Tryz.func180,Tryz.ntmps180;go_wp2;go_ret;exact ⟨rfl,rfl⟩
 ·obtain ⟨b,off,rfl,hj⟩:=hc 0 (by omega)
  obtain ⟨c0,_⟩:=hj (l.length-1) (by omega)
  have hT:Z0o l=(l[l.length-1]'(by omega)).t:=by
   unfold Z0o Jw;rw [if_neg h0,List.getElem?_eq_getElem (by omega)];rfl
  rw [hT];generalize (l[l.length-1]'(by omega)).t=X at c0;have h0':((l.length:Int) == 0)=false:=by rw [beq_eq_false_iff_ne];omega
  have hi:(l.length:Int)-1=((l.length-1:Nat):Int):=by omega
  have hn:((l.length:Int)-1).toNat=l.length-1:=by omega
  have h1:0<=(l.length:Int)-1:=by omega
  have h2:(l.length:Int)-1<(l.length:Int):=by omega
  clear hj hc hT hi;go_enter Tryz.func180,Tryz.ntmps180;go_wp2;go_ret;exact ⟨rfl,rfl⟩
theorem Zo.es {w:World}{B b:Nat}{r:Rn}{x:CV}(h:Zo w B b r x)(hl:r.n.log.length<=4096):Es w x.vl r.n.log:=h.log.es (by unfold maxLen;omega)
theorem loyal_any (b:Nat)(r:Rn)(x:CV)(w:World)(B:Nat)(h:Zo w B b r x)(b1:0<=r.n.nw)(b2:r.n.nw<=1099511627776)(b3:0<=r.n.hd)(b4:r.n.hd<=r.n.nw) :
  Calls Tryz.prog 163 #[.pointer (some ⟨b,0,none⟩)] w fun e w'=>e=.returned (.bool (loyB r.n))/\Below w.heap.size w w':=by
 have c6:w.cell? ⟨b,6,none⟩=some (.int .i64 r.n.ro):=h.blk.cell 6;have c7:w.cell? ⟨b,7,none⟩=some (.int .i64 r.n.ld):=h.blk.cell 7;have c9:w.cell? ⟨b,9,none⟩=some (.int .i64 r.n.nw):=h.blk.cell 9;have c11:w.cell? ⟨b,11,none⟩=some (.int .i64 r.n.hd):=h.blk.cell 11;have c2:w.cell? ⟨b,2,none⟩=some (.int .i64 r.n.el):=h.blk.cell 2;have HQ:Hid (loyB r.n=(r.n.ro == 3 || (r.n.ld != 0 && decide (r.n.nw-r.n.hd<r.n.el)))):=rfl;generalize loyB r.n=q at *;clear h;cases h1:(r.n.ro == 3)
 ·cases h2:(r.n.ld != 0)
  ·have hq:q=false:=by rw [HQ.out,h1,h2];rfl
   subst hq;clear HQ;go_enter Tryz.func163,Tryz.ntmps163;go_wp2;go_quiet (fail)
   go_wp2;go_ret;exact ⟨rfl,Z0c _ _ _⟩
  ·have hq:q=decide (r.n.nw-r.n.hd<r.n.el):=by rw [HQ.out,h1,h2];rfl
   subst hq;clear HQ;go_enter Tryz.func163,Tryz.ntmps163;go_wp2;go_quiet (fail)
   go_wp2;go_ret;exact ⟨by simp,Z0c _ _ _⟩
 ·have hq:q=true:=by rw [HQ.out,h1];rfl
  subst hq;clear HQ;go_enter Tryz.func163,Tryz.ntmps163;go_wp2;go_quiet (fail)
  go_wp2;go_ret;exact ⟨rfl,Z0c _ _ _⟩
end Go.Proofs.YtmmpoppgabadmaaGreat
namespace Go.Proofs.YtmmpoppgabadmaaGreat
open Go.RowKit Go.Maps
def mgC (m:Mg)(v:Value):Array Value:=#[.int .i64 m.ki,.int .i64 m.fr,.int .i64 m.td,.int .i64 m.tm,.int .i64 m.li,.int .i64 m.lt,.int .i64 m.cm,.int .i64 m.ok,.int .i64 m.hi,v]
theorem Z2b (b:Nat)(r:Rn)(x:CV)(m:Mg)(ea:Option Addr)(en ec:Nat)(w:World)(B:Nat)(h:Zo w B b r x)(hl:r.n.log.length<=4096) :
  Calls Tryz.prog 164 #[.pointer (some ⟨b,0,none⟩),.agg #[.int .i64 m.ki,.int .i64 m.fr,.int .i64 m.td,.int .i64 m.tm,.int .i64 m.li,.int .i64 m.lt,.int .i64 m.cm,.int .i64 m.ok,.int .i64 m.hi,.slice ea en ec]] w fun e w'=>e=.returned (.bool (utd r.n.log m))/\Below w.heap.size w w':=by
 obtain ⟨la,lc,hvl⟩:=h.log.shape;have HLt:Hid (∀ z,Below w.heap.size w z->Calls Tryz.prog 180 #[.slice la r.n.log.length lc] z fun e w'=>e=.returned (.int .i64 (Z0o r.n.log))/\w'=z):=fun z hz=>iLastTerm_any _ _ _ (by rw [<-hvl];exact (h.below hz).es hl)
 obtain ⟨W,hW⟩:∃ W,W=w.alloc (.cells #[.int .i64 m.ki,.int .i64 m.fr,.int .i64 m.td,.int .i64 m.tm,.int .i64 m.li,.int .i64 m.lt,.int .i64 m.cm,.int .i64 m.ok,.int .i64 m.hi,.slice ea en ec] 43):=⟨_,rfl⟩;have HB:Hid (Below w.heap.size w W):=by unfold Hid;rw [hW];exact (Below.refl _ _).alloc (Nat.le_refl _) _
 have hm:Blk W w.heap.size (mgC m (.slice ea en ec)) 43:=by rw [hW];exact Blk.new _ _ _
 have hc:=(h.below HB.out).blk;have c12:W.cell? ⟨b,12,none⟩=some (.slice la r.n.log.length lc):=by rw [<-hvl];exact hc.cell 12
 have m4:W.cell? ⟨w.heap.size,4,none⟩=some (.int .i64 m.li):=hm.cell 4;have m5:W.cell? ⟨w.heap.size,5,none⟩=some (.int .i64 m.lt):=hm.cell 5;have HQ:Hid (utd r.n.log m=(decide (Z0o r.n.log<m.lt) || (decide (m.lt=Z0o r.n.log) && decide ((r.n.log.length:Int)<=m.li)))):=rfl;clear h hc hm hvl;generalize utd r.n.log m=q at *;generalize Z0o r.n.log=T at *;generalize r.n.log.length=LN at *;by_cases h1:T<m.lt
 ·have hq:q=true:=by rw [HQ.out,decide_eq_true h1];rfl
  subst hq;clear HQ;have h1d:decide (T<m.lt)=true:=decide_eq_true h1;go_enter Tryz.func164,Tryz.ntmps164
  go_upto_region 1 with fail
  rw [<-hW];clear hW
  go_wp2_with (first
   |(go_at_call 180;refine Calls.mono (HLt.out _ HB.out) ?_;rintro e w5 ⟨rfl,hw⟩;obtain rfl:=hw.symm;clear hw))
  go_quiet (fail)
  go_wp2;go_ret;exact ⟨rfl,HB.out.trans (Z0c _ _ _)⟩
 ·have h1d:decide (T<m.lt)=false:=decide_eq_false h1
  cases h2:(m.lt == T)
  ·have hq:q=false:=by rw [HQ.out,h1d,decide_eq_false (by simpa using h2)];rfl
   subst hq;clear HQ;go_enter Tryz.func164,Tryz.ntmps164
   go_upto_region 1 with fail
   rw [<-hW];clear hW
   go_wp2_with (first
    |(go_at_call 180;refine Calls.mono (HLt.out _ HB.out) ?_;rintro e w5 ⟨rfl,hw⟩;obtain rfl:=hw.symm;clear hw))
   go_quiet (fail)
   go_wp2;go_ret;exact ⟨rfl,HB.out.trans (Z0c _ _ _)⟩
  ·have hq:q=decide ((LN:Int)<=m.li):=by rw [HQ.out,h1d,decide_eq_true (by simpa using h2)];rfl
   subst hq;clear HQ;go_enter Tryz.func164,Tryz.ntmps164
   go_upto_region 1 with fail
   rw [<-hW];clear hW
   go_wp2_with (first
    |(go_at_call 180;refine Calls.mono (HLt.out _ HB.out) ?_;rintro e w5 ⟨rfl,hw⟩;obtain rfl:=hw.symm;clear hw))
   go_quiet (fail)
   go_wp2;go_ret;exact ⟨by simp,HB.out.trans (Z0c _ _ _)⟩
theorem Below.alloc0 {w:World}(o:Obj):Below w.heap.size w (w.alloc o):=(Below.refl _ _).alloc (Nat.le_refl _) _
theorem lt_nodup {l:List Int}(h:l.Pairwise (· < ·)):l.Nodup:=h.imp fun h=>by omega
end Go.Proofs.YtmmpoppgabadmaaGreat
namespace Go.Proofs.YtmmpoppgabadmaaGreat
open Go.RowKit Go.Maps
def oth (id:Int):Nat->List Int
 | 0=>[]
 | k+1=>if (k:Int)+1=id then oth id k else oth id k ++ [(k:Int)+1]
def kI (id:Int)(i:Nat):Nat:=if (i:Int)+1<id then i else i+1
theorem oth_len (id:Int)(h:1<=id):∀ k:Nat,(oth id k).length=if (k:Int)<id then k else k-1
 | 0=>by simp [oth]
 | k+1=>by
  have ih:=oth_len id h k;rw [oth];by_cases e:(k:Int)+1=id
  ·rw [if_pos e,ih,if_pos (by omega),if_neg (by push_cast;omega)]
   omega
  ·rw [if_neg e,List.length_append,ih]
   by_cases e2:(k:Int)<id
   ·rw [if_pos e2,if_pos (by push_cast;omega)]
    rfl
   ·rw [if_neg e2,if_neg (by push_cast;omega)]
    simp;omega
theorem oth_get (id:Int)(h:1<=id):∀(k i:Nat) (hi:i<(oth id k).length),(oth id k)[i]=(kI id i:Int)+1
 | 0,i,hi=>by simp [oth] at hi
 | k+1,i,hi=>by
  have hl:=oth_len id h k;by_cases e:(k:Int)+1=id
  ·have e2:oth id (k+1)=oth id k:=by rw [oth,if_pos e]
   have hi':i<(oth id k).length:=by rw [<-e2];exact hi
   have:=oth_get id h k i hi';rw [<-this];simp only [e2]
  ·have e2:oth id (k+1)=oth id k ++ [(k:Int)+1]:=by rw [oth,if_neg e]
   simp only [e2] at hi ⊢;rw [List.length_append,List.length_singleton] at hi;by_cases e3:i<(oth id k).length
   ·rw [List.getElem_append_left e3]
    exact oth_get id h k i e3
   ·rw [List.getElem_append_right (by omega)]
    have e4:i=(oth id k).length:=by omega
    simp only [List.getElem_singleton];rw [hl] at e4;unfold kI;split at e4
    ·rw [if_pos (by omega)];omega
    ·rw [if_neg (by omega)];omega
theorem oth_full (id sz:Int)(h:1<=id)(h2:id<=sz):(oth id sz.toNat).length=sz.toNat-1:=by
 rw [oth_len id h,if_neg (by omega)]
theorem others_of (b:Nat)(id:Int)(N:Nat)(w:World)(c0:w.cell? ⟨b,0,none⟩=some (.int .i64 id))(c1:w.cell? ⟨b,1,none⟩=some (.int .i64 (N:Int)))(hlt:b<w.heap.size)(i0:1<=id)(i1:id<=(N:Int))(z0:3<=(N:Int))(z1:(N:Int)<=7) :
  Calls Tryz.prog 81 #[.pointer (some ⟨b,0,none⟩)] w fun e w'=>∃ a c,e=.returned (.slice a (N-1) c)/\Zs inC 1 3 w' w.heap.size (.slice a (N-1) c) (oth id N)/\Below w.heap.size w w':=by
 have HL:Hid (∀ k:Nat,(oth id k).length=if (k:Int)<id then k else k-1):=oth_len _ i0;have HF:Hid ((oth id N).length=N-1):=by have h9:=oth_full id (N:Int) i0 i1;rw [show ((N:Int)).toNat=N by omega] at h9;exact h9
 clear i0 i1;go_enter Tryz.func81,Tryz.ntmps81;go_wp2
 go_loopw [3,4] (fun vt iv wr=>∃ k:Nat,k<=N/\iv=.int .i64 ((k:Int)+1)/\Zs inC 1 3 wr w.heap.size vt (oth id k)/\Below w.heap.size w wr) (fun _ iv _=>N+1-(RowKit.intOf iv).toNat)
 case atStart=>exact ⟨0,by omega,rfl,Zs.nil _ _ _ _ _,Below.refl _ _⟩
 case round=>
  obtain ⟨k,hk,rfl,hO,hB⟩:=hrel;have HO:Hid (Zs inC 1 3 wr w.heap.size _ (oth id k)):=hO;have HB:Hid _:=hB;have hz:=hB.size;have d0:wr.cell? ⟨b,0,none⟩=some (.int .i64 id):=(hB.cell (p:=⟨b,0,none⟩) hlt).trans c0;have d1:wr.cell? ⟨b,1,none⟩=some (.int .i64 N):=(hB.cell (p:=⟨b,1,none⟩) hlt).trans c1;have hll:(oth id k).length<=7:=by rw [HL.out k];split <;> omega
  obtain ⟨oa,oc,ho⟩:=hO.shape;have ho2:Hid _:=ho;clear hO hB;subst ho;clear ho2;by_cases hlt2:k<N
  ·have h1:(k:Int)+1<=(N:Int):=by omega
   have h1d:decide ((k:Int)+1<=(N:Int))=true:=decide_eq_true h1;by_cases he:(k:Int)+1=id
   ·have HNx:Hid (oth id (k+1)=oth id k):=by unfold Hid;rw [oth,if_pos he]
    have heb:((k:Int)+1 != id)=false:=by simp [he]
    have HE:Hid ((k:Int)+1=id):=he;clear he;go_wp2
    go_roundw
    case rel=>exact ⟨k+1,by omega,by go_num,by rw [HNx.out];exact HO.out,HB.out⟩
    case measure=>simp [RowKit.intOf];omega
   ·have HNx:Hid (oth id (k+1)=oth id k ++ [(k:Int)+1]):=by unfold Hid;rw [oth,if_neg he]
    have heb:((k:Int)+1 != id)=true:=by simp [he]
    clear he;generalize (oth id k).length=ol at *
    go_wp2_with (at_builtin;refine J8 Jh rfl (.tmp 21) (.tmp 23) rfl ((k:Int)+1) (HO.out.below ((Below.refl _ _).alloc (Nat.le_refl _) _)) rfl (wr.heap.size) 1 (Blk.new _ _ _).range rfl (by rw [HL.out k];split <;> omega) (by simp;omega) ?_;intro v2 w2 ho2 hg2;have HB2:Hid (Below w.heap.size w w2):=(HB.out.alloc hz _).trans (growG hg2 (HO.out.below ((Below.refl _ _).alloc (Nat.le_refl _) _)) (by simp;omega));have HO2:Hid _:=ho2;clear ho2 hg2)
    go_roundw
    case rel=>exact ⟨k+1,by omega,by go_num,by rw [HNx.out];exact HO2.out,HB2.out⟩
    case measure=>simp [RowKit.intOf];omega
  ·obtain rfl:k=N:=by omega
   have h1d:decide ((k:Int)+1<=(k:Int))=false:=decide_eq_false (by omega);have HO2:Hid (Zs inC 1 3 wr w.heap.size (.slice oa (k-1) oc) (oth id k)):=by unfold Hid;rw [<-HF.out];exact HO.out
   have hf:=HF.out;rw [hf];go_wp2;go_ret;exact ⟨_,_,rfl,HO2.out,HB.out⟩
end Go.Proofs.YtmmpoppgabadmaaGreat
namespace Go.Proofs.YtmmpoppgabadmaaGreat
open Go.RowKit
def CV.sent (x:CV)(v:Value)(y:Om):CV:={ x with vo:=v,L:=x.L ++ [y] }
theorem Zo.sendAt {w w2 w3:World}{B b:Nat}{r:Rn}{x:CV}{m:Mg}{a:Option Addr}{c:Nat}{v:Value}(h:Zo w B b r x)(he:Zv w B (.slice a m.es.length c) m.es)(hap:∀ k,(Value.slice a m.es.length c).ownBlock=some k->x.vl.ownBlock≠some k/\∀ p∈x.L,p.v.ownBlock≠some k)(h2:Below w.heap.size w w2)
  (ho:Zs omC 10 43 w3 B v (x.L ++ [⟨{ m with fr:=r.n.id },a,c⟩])) (hg:Xe w2 x.vo w3 v) :
  Zo (w3.setCell ⟨b,23,none⟩ v) B b (r.send m) (x.sent v ⟨{ m with fr:=r.n.id },a,c⟩)/\Tch b w x (w3.setCell ⟨b,23,none⟩ v) (x.sent v ⟨{ m with fr:=r.n.id },a,c⟩):=by
 obtain ⟨f1,f2,f3,f4,f5⟩:=h.bf;have f6:=h.entB;have hs2:=h2.size;have hs3:=hg.g.size;have hk3:∀ k,k<w.heap.size->x.vo.ownBlock≠some k->w3.heap[k]? = w.heap[k]?:=fun k hk hne=>(hg.g.block k (by omega) (fun e=>hne e.symm)).trans (h2.block k hk)
 have hbb:Blk w3 b (crC r x) 80:=h.blk.keep (hk3 b h.lt fun e=>(f5 b e).1 rfl);have hset:∀ k,k≠b->(w3.setCell ⟨b,23,none⟩ v).heap[k]? = w3.heap[k]?:=fun k hk=>Below.heap_setCell _ _ _ _ hk
 have hall:∀ k,k≠b->k<w.heap.size->x.vo.ownBlock≠some k->(w3.setCell ⟨b,23,none⟩ v).heap[k]? = w.heap[k]?:=fun k h1 h2 h3=>(hset k h1).trans (hk3 k h2 h3)
 have hne:∀ k,(Value.slice a m.es.length c).ownBlock=some k->k≠b/\x.vo.ownBlock≠some k:=fun k e=>by
  obtain ⟨cur,s,hk⟩:=Z0i he e;refine ⟨?_,fun e2=>?_⟩
  ·rintro rfl;exact absurd (Xa hk h.blk) (by decide)
  ·obtain ⟨cur2,s2,hk2⟩:=own_ty h.out e2
   exact absurd (Xa hk hk2) (by decide)
 have hae:Zv (w3.setCell ⟨b,23,none⟩ v) B (.slice a m.es.length c) m.es:=he.block fun k e=>hall k (hne k e).1 (World.ownsRow.lt he.2 k e).2 (hne k e).2
 have hvo:∀ k,v.ownBlock=some k->x.vo.ownBlock=some k∨w.heap.size<=k:=fun k e=>by
  rcases hg.at' with e' | ⟨g,e',hk⟩
  ·rw [e] at e';exact .inl e'.symm
  ·rw [e] at e';cases e';exact .inr (by omega)
 refine ⟨⟨hbb.set 23 v,h.lo,h.log.block fun k e=>hall k (f4 k e).1 (World.ownsRow.lt h.log.2 k e).2 (fun e2=>(f5 k e2).2.2.2.2 e),h.gm.keep (hall _ f1 h.gm.lt (fun e=>(f5 _ e).2.1 rfl)),h.gml,h.pm.keep (hall _ f2 h.pm.lt (fun e=>(f5 _ e).2.2.1 rfl)),h.pml,h.gp,fun y q e=>⟨(h.pf y q e).1.keep (hall q (f3 y q e).1 (h.pf y q e).1.lt (fun e2=>(f5 _ e2).2.2.2.1 y q e rfl)),(h.pf y q e).2⟩,h.pi,h.pk,ho.block fun k e=>hset k ?_,?_,?_,?_,h.ci⟩,?_⟩
 ·rcases hvo k e with e' | e'
  ·exact (f5 k e').1
  ·have:=h.lt;omega
 ·show (x.L ++ [(⟨{ m with fr:=r.n.id },a,c⟩:Om)]).map Om.m=r.out ++ [{ m with fr:=r.n.id }]
  rw [List.map_append];exact congrArg (· ++ [{ m with fr:=r.n.id }]) h.outC
 ·intro p hp
  rcases List.mem_append.1 hp with hp | hp
  ·exact (h.ents p hp).block fun k e=>hall k (f6 p hp k e).1 (World.ownsRow.lt (h.ents p hp).2 k e).2 (f6 p hp k e).2.2.2.2
  ·rw [List.mem_singleton] at hp
   subst hp;exact hae
 ·show (x.vl :: (x.L ++ [(⟨{ m with fr:=r.n.id },a,c⟩:Om)]).map Om.v).Pairwise Xq
  rw [List.map_append,<-List.cons_append];refine List.pairwise_append.2 ⟨h.apE,List.pairwise_singleton _ _,fun u hu v hv k e1 e2=>?_⟩;rw [List.map_singleton,List.mem_singleton] at hv;subst hv;have h9:=hap k e2;rcases List.mem_cons.1 hu with rfl | hu
  ·exact h9.1 e1
  ·obtain ⟨p,hp,rfl⟩:=List.mem_map.1 hu
   exact h9.2 p hp e1
 ·refine ⟨hg.g.os.trans h2.os,hg.g.tape.trans h2.tape,hg.g.output.trans h2.output,by simp [World.setCell];omega,fun k hk hn=>hall k (fun e=>hn (.inl e)) hk (fun e=>hn (.inr (.inr (.inr (.inr (.inr e)))))),fun k hk=>?_⟩
  rcases hk with e | e | e | e | e | e
  ·exact .inl (.inl e)
  ·exact .inl (.inr (.inl e))
  ·exact .inl (.inr (.inr (.inl e)))
  ·exact .inl (.inr (.inr (.inr (.inl e))))
  ·exact .inl (.inr (.inr (.inr (.inr (.inl e)))))
  ·rcases hvo k e with e' | e'
   ·exact .inl (.inr (.inr (.inr (.inr (.inr e')))))
   ·exact .inr e'
theorem send_any (b:Nat)(r:Rn)(x:CV)(m:Mg)(td:Int)(ea:Option Addr)(ec:Nat)(w:World)(B:Nat)(h:Zo w B b r x)(he:Zv w B (.slice ea m.es.length ec) m.es)(hap:∀ k,(Value.slice ea m.es.length ec).ownBlock=some k->x.vl.ownBlock≠some k/\∀ p∈x.L,p.v.ownBlock≠some k)(hl:x.L.length<=100000) :
  Calls Tryz.prog 165 #[.pointer (some ⟨b,0,none⟩),.int .i64 td,.agg #[.int .i64 m.ki,.int .i64 m.fr,.int .i64 m.td,.int .i64 m.tm,.int .i64 m.li,.int .i64 m.lt,.int .i64 m.cm,.int .i64 m.ok,.int .i64 m.hi,.slice ea m.es.length ec]] w fun e w'=>e=.returned (.tuple #[])/\∃ v y,Zo w' B b (r.send { m with td:=td }) (x.sent v y)/\Tch b w x w' (x.sent v y):=by
 have HR:Hid _:=h;have HE:Hid (Zv w B (.slice ea m.es.length ec) m.es):=he;have HA:Hid (∀ k,(Value.slice ea m.es.length ec).ownBlock=some k->x.vl.ownBlock≠some k/\∀ p∈x.L,p.v.ownBlock≠some k):=hap;have c0:w.cell? ⟨b,0,none⟩=some (.int .i64 r.n.id):=h.blk.cell 0;have hlt:=h.lt;have hBw:B<=w.heap.size:=Nat.le_trans h.lo (Nat.le_of_lt h.lt);obtain ⟨va,vc,hvo⟩:=h.out.shape;have HVo:Hid (x.vo=.slice va x.L.length vc):=hvo;have HLl:Hid (∀ l,l=x.L->l.length<=100000):=fun l e=>by rw [e];exact hl
 clear h he hvo hap;generalize x.L.length=xn at *;go_enter Tryz.func165,Tryz.ntmps165;go_wp2;have BM:Hid (Blk (w.alloc (.cells #[.int .i64 m.ki,.int .i64 r.n.id,.int .i64 td,.int .i64 m.tm,.int .i64 m.li,.int .i64 m.lt,.int .i64 m.cm,.int .i64 m.ok,.int .i64 m.hi,.slice ea m.es.length ec] 43)) w.heap.size #[.int .i64 m.ki,.int .i64 r.n.id,.int .i64 td,.int .i64 m.tm,.int .i64 m.li,.int .i64 m.lt,.int .i64 m.cm,.int .i64 m.ok,.int .i64 m.hi,.slice ea m.es.length ec] 43):=Blk.new _ _ _;have HB2:Hid (Below w.heap.size w (w.alloc (.cells #[.int .i64 m.ki,.int .i64 r.n.id,.int .i64 td,.int .i64 m.tm,.int .i64 m.li,.int .i64 m.lt,.int .i64 m.cm,.int .i64 m.ok,.int .i64 m.hi,.slice ea m.es.length ec] 43))):=(Below.refl _ _).alloc (Nat.le_refl _) _;have hz2:w.heap.size<(w.alloc (.cells #[.int .i64 m.ki,.int .i64 r.n.id,.int .i64 td,.int .i64 m.tm,.int .i64 m.li,.int .i64 m.lt,.int .i64 m.cm,.int .i64 m.ok,.int .i64 m.hi,.slice ea m.es.length ec] 43)).heap.size:=by simp
 generalize w.alloc (.cells #[.int .i64 m.ki,.int .i64 r.n.id,.int .i64 td,.int .i64 m.tm,.int .i64 m.li,.int .i64 m.lt,.int .i64 m.cm,.int .i64 m.ok,.int .i64 m.hi,.slice ea m.es.length ec] 43)=w2 at *;clear c0;have HR2:Hid (Zo w2 B b r x):=HR.out.below HB2.out;have HO2:Hid (Zs omC 10 43 w2 B (.slice va xn vc) x.L):=by unfold Hid;rw [<-HVo.out];exact HR2.out.out
 have c23:w2.cell? ⟨b,23,none⟩=some (.slice va xn vc):=by rw [<-HVo.out];exact HR2.out.blk.cell 23
 have BR2:Hid (Blk w2 b (crC r x) 80):=HR2.out.blk;have q0:w2.cell? ⟨w.heap.size,0,none⟩=some (.int .i64 m.ki):=BM.out.cell 0;have q1:w2.cell? ⟨w.heap.size,1,none⟩=some (.int .i64 r.n.id):=BM.out.cell 1;have q2:w2.cell? ⟨w.heap.size,2,none⟩=some (.int .i64 td):=BM.out.cell 2;have q3:w2.cell? ⟨w.heap.size,3,none⟩=some (.int .i64 m.tm):=BM.out.cell 3;have q4:w2.cell? ⟨w.heap.size,4,none⟩=some (.int .i64 m.li):=BM.out.cell 4;have q5:w2.cell? ⟨w.heap.size,5,none⟩=some (.int .i64 m.lt):=BM.out.cell 5;have q6:w2.cell? ⟨w.heap.size,6,none⟩=some (.int .i64 m.cm):=BM.out.cell 6;have q7:w2.cell? ⟨w.heap.size,7,none⟩=some (.int .i64 m.ok):=BM.out.cell 7;have q8:w2.cell? ⟨w.heap.size,8,none⟩=some (.int .i64 m.hi):=BM.out.cell 8;have q9:w2.cell? ⟨w.heap.size,9,none⟩=some (.slice ea m.es.length ec):=BM.out.cell 9;have pa:∀(o:Obj) (j:Nat),(w2.alloc o).cell? ⟨b,j,none⟩=w2.cell? ⟨b,j,none⟩:=fun o j=>World.cell?_alloc_lt _ _ _ (by show b<w2.heap.size;omega)
 have pa':∀(o:Obj) (j:Nat),(w2.drew.alloc o).cell? ⟨b,j,none⟩=w2.cell? ⟨b,j,none⟩:=fun o j=>World.cell?_alloc_lt _ _ _ (by show b<w2.heap.size;omega)
 have hne1:¬ w2.heap.size=b:=by omega
 have hne2:¬ b=w2.heap.size:=by omega
 have HNO:Hid ((Value.slice va xn vc).ownBlock≠some b):=fun e=>Yr HO2.out BR2.out (by decide) b e rfl
 have HFin:Hid (∀ w3 v,Zs omC 10 43 w3 B v (x.L ++ [⟨{ m with fr:=r.n.id,td:=td },ea,ec⟩])->∀ w4,Below w2.heap.size w2 w4->Xe w4 (.slice va xn vc) w3 v->Zo (w3.setCell ⟨b,23,none⟩ v) B b (r.send { m with td:=td }) (x.sent v ⟨{ m with fr:=r.n.id,td:=td },ea,ec⟩)/\Tch b w x (w3.setCell ⟨b,23,none⟩ v) (x.sent v ⟨{ m with fr:=r.n.id,td:=td },ea,ec⟩)):=fun w3 v ho w4 h4 hg=>by
  rw [<-HVo.out] at hg;exact HR.out.sendAt (m:={ m with td:=td }) HE.out HA.out (HB2.out.trans (h4.mono HB2.out.size)) ho hg
 clear HR HE HVo HR2 HB2 HA
 go_region_law
  (refine stp_appendG omLaw rfl (.tmp 18) (.tmp 20) rfl ⟨{ m with fr:=r.n.id,td:=td },ea,ec⟩ (Zs.below (Zs.below HO2.out ((Below.refl _ _).drew)) ((Below.refl _ _).alloc (Nat.le_refl _) _)) rfl w2.heap.size 1 (range_new' w2.drew (omC ⟨{ m with fr:=r.n.id,td:=td },ea,ec⟩) 43) rfl (by have:=HLl.out x.L rfl;omega) (by simp;omega) ?_;intro v3 w3 ho3 hg3;have HO3:Hid (Zs omC 10 43 w3 B v3 (x.L ++ [⟨{ m with fr:=r.n.id,td:=td },ea,ec⟩])):=ho3;obtain ⟨a3,c3,e3⟩:=ho3.shape;rw [List.length_append,List.length_singleton] at e3;have HG3:Hid (Xe _ (.slice va xn vc) w3 v3):=hg3;have BR3:Hid (Blk w3 b (crC r x) 80):=(BR2.out.drew.alloc _).keep (hg3.g.block b (by simp;omega) (fun e=>HNO.out e.symm));obtain ⟨vq,p23⟩:∃ vq,w3.cell? ⟨b,23,none⟩=some vq:=⟨_,BR3.out.cell 23⟩;have pf:=BR3.out.free;subst e3;clear ho3 hg3)
 all_goals go_wp2
 all_goals (
  (try simp only [Exit.inBlock,Exit.then])
  refine bodyPost_end (results_none rfl _ _ _) rfl ⟨rfl,_,_,HFin.out _ _ HO3.out _ ((Below.refl _ _).drew.alloc (Nat.le_refl _) _) HG3.out⟩)
end Go.Proofs.YtmmpoppgabadmaaGreat
namespace Go.Proofs.YtmmpoppgabadmaaGreat
open Go.RowKit Go.Maps
variable {γ:Type} {vl:γ->Value} {w:World} {b:Nat} {f:Int->Option γ}
theorem IR.next {r cnt:Nat}{lf:Int->Bool}(h:IR vl w b r f lf cnt)(ty:TypeId) :
  (cnt=0/\(∀ y,lf y=false)/\(Instr.next (.pointer (some ⟨r,0,none⟩)) false ty).run Tryz.prog w=.ok (.tuple #[.bool false]) w) ∨
  ∃(y:Int) (q:γ) (w':World) (cnt':Nat),lf y=true/\f y=some q/\IR vl w' b r f (fun z=>lf z && !(z == y)) cnt'/\cnt'<cnt/\w.grownBy w' (some r)/\w'.heap.size=w.heap.size /\
   (Instr.next (.pointer (some ⟨r,0,none⟩)) false ty).run Tryz.prog w=.ok (.tuple #[.bool true,.int .i64 y,vl q]) w'/\(Instr.entry (.pointer (some ⟨r,0,none⟩))).run Tryz.prog w'=.ok (.tuple #[.int .i64 y,vl q]) w':=by
 obtain ⟨n,D,left,h1,h2,h3⟩:=h;rcases h1.next law3 ty with ⟨h0,hl,hrun⟩ | ⟨key,v,kl,y,w',cnt',hkey,hlk,hv,hat,hrun,hrg,hlt,hgr,hsz,hen⟩
 ·exact .inl ⟨h0,fun y=>by rw [<-h3];exact hl _,hrun⟩
 ·obtain ⟨x,rfl,rfl,hwx⟩:=keyOf_int_inv Tryz.underlying3 hkey
  have hhas:Maps.has D (.int .i64 x)=true:=has_true_of_atKey hat;rw [(h2 x).1] at hhas;obtain ⟨q,hq⟩:=Option.isSome_iff_exists.1 hhas;have e1:=hat (.held undef);rw [(h2 x).2,hq] at e1;simp only [Z1c,Option.some.injEq] at hv;rw [<-hv] at e1;simp only [Option.elim_some,DataW.held.injEq] at e1;subst e1;refine .inr ⟨x,q,w',cnt',by rw [<-h3];exact hlk,hq,⟨n,D,_,hrg,h2,fun z=>?_⟩,hlt,hgr,hsz,hrun,hen⟩;show (left (.int .i64 z) && !(Lit.int .i64 z).sameKey (.int .i64 x))=_;rw [h3]
  have hsk:(Lit.int .i64 z).sameKey (.int .i64 x)=(z == x):=by
   by_cases e:z=x <;> simp [Lit.sameKey,e]
  rw [hsk]
end Go.Proofs.YtmmpoppgabadmaaGreat
