import Derived.Test.YtmmpoppgabadmaaGreatG50
import Derived.Test.YtmmpoppgabadmaaGreatG51
set_option linter.unusedVariables false
set_option linter.unusedSimpArgs false
set_option maxRecDepth 100000
set_option maxHeartbeats 16000000
namespace Go.Proofs.YtmmpoppgabadmaaGreat
open Go.RowKit
structure Q6 where
 q12:Nat
 q13:Nat
 q14:Nat
 q15:Nat
 q16:Nat
 q17:Nat
def ndX (n:Nd)(Q:Q6):Array Value:=#[.int .i64 n.id,.int .i64 n.sz,.int .i64 n.el,.int .i64 n.bt,.int .i64 n.tm,.int .i64 n.vo,.int .i64 n.ro,.int .i64 n.ld,.int .i64 n.cm,.int .i64 n.nw,.int .i64 n.dl,.int .i64 n.hd,.slice (some ⟨Q.q12,0,none⟩) n.log.length n.log.length,.slice (some ⟨Q.q13,0,none⟩) n.gr.length n.gr.length,.slice (some ⟨Q.q14,0,none⟩) n.nx.length n.nx.length,.slice (some ⟨Q.q15,0,none⟩) n.mt.length n.mt.length,.slice (some ⟨Q.q16,0,none⟩) n.se.length n.se.length,.slice (some ⟨Q.q17,0,none⟩) n.st.length n.st.length]
def inX (ki dr:Int)(m:Mg)(cl sq op:Int)(k v o:ByteArray)(q:Nat):Array Value:=#[.int .i64 ki,.int .i64 dr,.int .i64 m.ki,.int .i64 m.fr,.int .i64 m.td,.int .i64 m.tm,.int .i64 m.li,.int .i64 m.lt,.int .i64 m.cm,.int .i64 m.ok,.int .i64 m.hi,.slice (some ⟨q,0,none⟩) m.es.length m.es.length,.int .i64 cl,.int .i64 sq,.int .i64 op,.string k,.string v,.string o]
structure NdE (w:World) (n:Nd) (Q:Q6):Prop where
 e12:Es w (.slice (some ⟨Q.q12,0,none⟩) n.log.length n.log.length) n.log
 e13:Ix w (.slice (some ⟨Q.q13,0,none⟩) n.gr.length n.gr.length) n.gr
 e14:Ix w (.slice (some ⟨Q.q14,0,none⟩) n.nx.length n.nx.length) n.nx
 e15:Ix w (.slice (some ⟨Q.q15,0,none⟩) n.mt.length n.mt.length) n.mt
 e16:Ix w (.slice (some ⟨Q.q16,0,none⟩) n.se.length n.se.length) n.se
 e17:Ix w (.slice (some ⟨Q.q17,0,none⟩) n.st.length n.st.length) n.st
theorem NdE.below {w w':World}{n:Nd}{Q:Q6}(h:NdE w n Q)(hb:Below w.heap.size w w'):NdE w' n Q:=⟨h.e12.below hb,h.e13.below hb,h.e14.below hb,h.e15.below hb,h.e16.below hb,h.e17.below hb⟩
structure NdX (lo hi:Nat) (w:World) (n:Nd) (Q:Q6):Prop where
 e12:Ys lo hi w Q.q12 n.log
 e13:Yl lo hi w Q.q13 n.gr
 e14:Yl lo hi w Q.q14 n.nx
 e15:Yl lo hi w Q.q15 n.mt
 e16:Yl lo hi w Q.q16 n.se
 e17:Yl lo hi w Q.q17 n.st
 od:Q.q12<Q.q13/\Q.q13<Q.q14/\Q.q14<Q.q15/\Q.q15<Q.q16/\Q.q16<Q.q17
theorem NdX.keep {lo hi:Nat}{w w':World}{n:Nd}{Q:Q6}(h:NdX lo hi w n Q)(hk:∀ k,lo<=k->k<hi->w'.heap[k]? = w.heap[k]?):NdX lo hi w' n Q:=⟨h.e12.keep hk,h.e13.keep hk,h.e14.keep hk,h.e15.keep hk,h.e16.keep hk,h.e17.keep hk,h.od⟩
theorem NdX.e {lo hi:Nat}{w:World}{n:Nd}{Q:Q6}(h:NdX lo hi w n Q):NdE w n Q:=⟨h.e12.es,h.e13.ix,h.e14.ix,h.e15.ix,h.e16.ix,h.e17.ix⟩
structure InE (w:World) (m:Mg) (q:Nat):Prop where
 es:Es w (.slice (some ⟨q,0,none⟩) m.es.length m.es.length) m.es
 lt:q<w.heap.size
theorem InE.below {w w':World}{m:Mg}{q:Nat}(h:InE w m q)(hb:Below w.heap.size w w'):InE w' m q:=⟨h.es.below hb,Nat.lt_of_lt_of_le h.lt hb.size⟩
theorem Z31 {lo hi:Nat}{w:World}{m:Mg}{q:Nat}(h:Ys lo hi w q m.es):InE w m q:=⟨h.es,h.in_⟩
theorem toNode_n (n:Nd)(v12 v13 v14 v15 v16 v17:Value)(w:World)(h12:Es w v12 n.log)(h13:Ix w v13 n.gr)(h14:Ix w v14 n.nx)(h15:Ix w v15 n.mt)(h16:Ix w v16 n.se)(h17:Ix w v17 n.st)(z12:n.log.length<=1048576)(z13:n.gr.length<=1048576)(z14:n.nx.length<=1048576)(z15:n.mt.length<=1048576)(z16:n.se.length<=1048576)(z17:n.st.length<=1048576) :
  Calls Tryz.prog 10 #[.agg #[.int .i64 n.id,.int .i64 n.sz,.int .i64 n.el,.int .i64 n.bt,.int .i64 n.tm,.int .i64 n.vo,.int .i64 n.ro,.int .i64 n.ld,.int .i64 n.cm,.int .i64 n.nw,.int .i64 n.dl,.int .i64 n.hd,v12,v13,v14,v15,v16,v17]] w fun e w'=>∃ Q:Q6,e=.returned (.agg (ndX n Q))/\NdX w.heap.size w'.heap.size w' n Q/\Below w.heap.size w w':=
 (toNode_o n.id n.sz n.el n.bt n.tm n.vo n.ro n.ld n.cm n.nw n.dl n.hd v12 v13 v14 v15 v16 v17 n.log n.gr n.nx n.mt n.se n.st w h12 h13 h14 h15 h16 h17 z12 z13 z14 z15 z16 z17).mono fun e w' ⟨q12,q13,q14,q15,q16,q17,h,e12,e13,e14,e15,e16,e17,hb,od⟩=>⟨⟨q12,q13,q14,q15,q16,q17⟩,h,⟨e12,e13,e14,e15,e16,e17,od⟩,hb⟩
theorem toInput_n (ki dr:Int)(m:Mg)(cl sq op:Int)(k v o:ByteArray)(u:Value)(w:World)(hv:Es w u m.es)(hl:m.es.length<=1048576) :
  Calls Tryz.prog 11 #[.agg #[.int .i64 ki,.int .i64 dr,.int .i64 m.ki,.int .i64 m.fr,.int .i64 m.td,.int .i64 m.tm,.int .i64 m.li,.int .i64 m.lt,.int .i64 m.cm,.int .i64 m.ok,.int .i64 m.hi,u,.int .i64 cl,.int .i64 sq,.int .i64 op,.string k,.string v,.string o]] w fun e w'=>∃ q,e=.returned (.agg (inX ki dr m cl sq op k v o q))/\Ys w.heap.size w'.heap.size w' q m.es/\Below w.heap.size w w':=
 toInput_u ki dr m.ki m.fr m.td m.tm m.li m.lt m.cm m.ok m.hi cl sq op k v o u m.es w hv hl
theorem eqNode_n {w:World}{n:Nd}{Q Q':Q6}(h:NdE w n Q)(k:NdE w n Q'):Calls Tryz.prog 14 #[.agg (ndX n Q),.agg (ndX n Q')] w fun e w'=>e=.returned (.bool true)/\Below w.heap.size w w':=
 eqNode_u n.id n.sz n.el n.bt n.tm n.vo n.ro n.ld n.cm n.nw n.dl n.hd n.log n.gr n.nx n.mt n.se n.st w _ _ _ _ _ _ _ _ _ _ _ _ h.e12 k.e12 h.e13 k.e13 h.e14 k.e14 h.e15 k.e15 h.e16 k.e16 h.e17 k.e17
theorem eqInput_n (ki dr:Int)(m:Mg)(cl sq op:Int)(k v o:ByteArray){w:World}{q q':Nat}(h:InE w m q)(h':InE w m q'):Calls Tryz.prog 15 #[.agg (inX ki dr m cl sq op k v o q),.agg (inX ki dr m cl sq op k v o q')] w fun e w'=>e=.returned (.bool true)/\Below w.heap.size w w':=
 eqInput_e ki dr m.ki m.fr m.td m.tm m.li m.lt m.cm m.ok m.hi cl sq op k v o m.es w h.es h'.es
theorem markNode_n {lo hi:Nat}{w:World}{n:Nd}{Q:Q6}(h:NdX lo hi w n Q)(hhi:hi<=w.heap.size)(z12:n.log.length<=1048576)(z13:n.gr.length<=1048576)(z14:n.nx.length<=1048576)(z15:n.mt.length<=1048576)(z16:n.se.length<=1048576)(z17:n.st.length<=1048576) :
  Calls Tryz.prog 16 #[.agg (ndX n Q),.int .i64 1] w fun e w'=>(∃ k:Nat,e=.returned (.int .i64 k)/\k<=13000000)/\Y4 lo hi w w':=
 markNode_x n.id n.sz n.el n.bt n.tm n.vo n.ro n.ld n.cm n.nw n.dl n.hd n.log n.gr n.nx n.mt n.se n.st w h.e12 h.e13 h.e14 h.e15 h.e16 h.e17 hhi h.od z12 z13 z14 z15 z16 z17
theorem markInput_n (ki dr:Int)(m:Mg)(cl sq op:Int)(k v o:ByteArray)(z:Int)(k0:Nat)(hz:z=(k0:Int)){lo hi:Nat}{w:World}{q:Nat}(h:Ys lo hi w q m.es)(hhi:hi<=w.heap.size)(hl:m.es.length<=1048576)(hk0:k0<=20000000) :
  Calls Tryz.prog 17 #[.agg (inX ki dr m cl sq op k v o q),.int .i64 z] w fun e w'=>(∃ k:Nat,e=.returned (.int .i64 k))/\Y4 lo hi w w':=
 markInput_u ki dr m.ki m.fr m.td m.tm m.li m.lt m.cm m.ok m.hi cl sq op k v o m.es z k0 hz w h hhi hl hk0
theorem specStep_n (n:Nd)(ki dr:Int)(m:Mg)(cl sq op:Int)(k v o:ByteArray)(z12:n.log.length<=1048576)(z13:n.gr.length<=1048576)(z14:n.nx.length<=1048576)(z15:n.mt.length<=1048576)(z16:n.se.length<=1048576)(z17:n.st.length<=1048576)(hen:m.es.length<=1048576)(hd : -(2^63)<=dr)(hD:dr<2^63)(hk:k.size<=maxLen)(hv:v.size<=maxLen)(ho:o.size<=maxLen)(w:World)(Q:Q6)(q:Nat)(hQ:NdE w n Q)(hq:InE w m q) :
  Calls Tryz.prog 9 #[.agg (ndX n Q),.agg (inX ki dr m cl sq op k v o q)] w fun e w'=>∃ x,e=.returned (.agg (saC (Z02 n dr ki m cl sq op k v o) x))/\Xx w' w.heap.size (Z02 n dr ki m cl sq op k v o) x/\Below w.heap.size w w':=
 sStepNode_any n m ki dr cl sq op k v o (some ⟨Q.q12,0,none⟩) (some ⟨Q.q13,0,none⟩) (some ⟨Q.q14,0,none⟩) (some ⟨Q.q15,0,none⟩) (some ⟨Q.q16,0,none⟩) (some ⟨Q.q17,0,none⟩) (some ⟨q,0,none⟩) n.log.length n.gr.length n.nx.length n.mt.length n.se.length n.st.length m.es.length w hQ.e12 hQ.e13 hQ.e14 hQ.e15 hQ.e16 hQ.e17 z12 z13 z14 z15 z16 z17 hq.es (fun k e=>by cases e;exact hq.lt) hen hd hD hk hv ho
theorem implStep_n (n:Nd)(ki dr:Int)(m:Mg)(cl sq op:Int)(k v o:ByteArray)(z12:n.log.length<=1048576)(z13:n.gr.length<=1048576)(z14:n.nx.length<=1048576)(z15:n.mt.length<=1048576)(z16:n.se.length<=1048576)(z17:n.st.length<=1048576)(hen:m.es.length<=1048576)(hd : -(2^63)<=dr)(hD:dr<2^63)(hk:k.size<=maxLen)(hv:v.size<=maxLen)(ho:o.size<=maxLen)(w:World)(Q:Q6)(q:Nat)(hQ:NdE w n Q)(hq:InE w m q) :
  Calls Tryz.prog 12 #[.agg (ndX n Q),.agg (inX ki dr m cl sq op k v o q)] w fun e w'=>∃ x,e=.returned (.agg (saC (Z02 n dr ki m cl sq op k v o) x))/\Xx w' w.heap.size (Z02 n dr ki m cl sq op k v o) x/\(x.vl :: x.L.map Om.v).Pairwise Zz/\Below w.heap.size w w':=
 iStepNode_any n m ki dr cl sq op k v o (some ⟨Q.q12,0,none⟩) (some ⟨Q.q13,0,none⟩) (some ⟨Q.q14,0,none⟩) (some ⟨Q.q15,0,none⟩) (some ⟨Q.q16,0,none⟩) (some ⟨Q.q17,0,none⟩) (some ⟨q,0,none⟩) n.log.length n.gr.length n.nx.length n.mt.length n.se.length n.st.length m.es.length w hQ.e12 hQ.e13 hQ.e14 hQ.e15 hQ.e16 hQ.e17 z12 z13 z14 z15 z16 z17 hq.es (fun k e=>by cases e;exact hq.lt) hen hd hD hk hv ho (Nat.le_refl _)
def rvS (x:RV)(k:Nat):Prop:=(∃ v∈[x.vl,x.vg,x.vn,x.vm,x.vs,x.vt],v.ownBlock=some k)∨msS x.vo x.L k
theorem Xx.lts {w:World}{B:Nat}{r:Rn}{x:RV}(h:Xx w B r x)(k:Nat)(hk:rvS x k):B<=k/\k<w.heap.size:=by
 rcases hk with ⟨v,hv,e⟩ | e | ⟨p,hp,e⟩
 ·simp only [List.mem_cons,List.not_mem_nil,or_false] at hv
  rcases hv with rfl | rfl | rfl | rfl | rfl | rfl
  ·exact h.log.lts k e
  ·exact h.gr.lts k e
  ·exact h.nx.lts k e
  ·exact h.mt.lts k e
  ·exact h.se.lts k e
  ·exact h.st.lts k e
 ·exact h.out.lts k e
 ·exact (h.ents p hp).lts k e
theorem Xx.blockS {w w':World}{B:Nat}{r:Rn}{x:RV}(h:Xx w B r x)(hk:∀ k,rvS x k->w'.heap[k]? = w.heap[k]?):Xx w' B r x:=
 ⟨h.log.block fun k e=>hk k (.inl ⟨_,by simp,e⟩),h.gr.block fun k e=>hk k (.inl ⟨_,by simp,e⟩),h.nx.block fun k e=>hk k (.inl ⟨_,by simp,e⟩),h.mt.block fun k e=>hk k (.inl ⟨_,by simp,e⟩),h.se.block fun k e=>hk k (.inl ⟨_,by simp,e⟩),h.st.block fun k e=>hk k (.inl ⟨_,by simp,e⟩),h.out.block fun k e=>hk k (.inr (.inl e)),h.outC,fun p hp=>(h.ents p hp).block fun k e=>hk k (.inr (.inr ⟨p,hp,e⟩)),h.ap⟩
theorem Xx.below {w w':World}{B:Nat}{r:Rn}{x:RV}(h:Xx w B r x)(hb:Below w.heap.size w w'):Xx w' B r x:=h.blockS fun k hk=>hb.block k (h.lts k hk).2
theorem Xx.row {w:World}{B p:Nat}{r:Rn}{x:RV}{C:Array Value}(h:Xx w B r x)(hb:Blk w p C 39)(C':Array Value):Xx (w.setRow p C') B r x:=h.blockS fun k hk=>setRow_other w p k C' (by
 rcases hk with ⟨v,hv,e⟩ | e | ⟨q,hp,e⟩
 ·simp only [List.mem_cons,List.not_mem_nil,or_false] at hv
  rcases hv with rfl | rfl | rfl | rfl | rfl | rfl
  ·exact Yp h.log hb (by decide) k e
  ·exact Zm h.gr hb (by decide) k e
  ·exact Zm h.nx hb (by decide) k e
  ·exact Zm h.mt hb (by decide) k e
  ·exact Zm h.se hb (by decide) k e
  ·exact Zm h.st hb (by decide) k e
 ·exact Zm h.out hb (by decide) k e
 ·exact Yp (h.ents q hp) hb (by decide) k e)
structure AnR (lo hi:Nat) (w:World) (r:Rn) (x:RV):Prop where
 an:Xx w lo r x
 lt:∀ k,rvS x k->k<hi
theorem AnR.of {lo:Nat}{w:World}{r:Rn}{x:RV}(h:Xx w lo r x):AnR lo w.heap.size w r x:=⟨h,fun k hk=>(h.lts k hk).2⟩
theorem AnR.keep {lo hi:Nat}{w w':World}{r:Rn}{x:RV}(h:AnR lo hi w r x)(hk:∀ k,lo<=k->k<hi->w'.heap[k]? = w.heap[k]?):AnR lo hi w' r x:=⟨h.an.blockS fun k e=>hk k (h.an.lts k e).1 (h.lt k e),h.lt⟩
def Helds (lo hi:Nat)(w:World)(r:Rn)(x:RV)(K:Nat):Prop:=∀ z,(∀ k,lo<=k->k<hi->z.heap[k]? = w.heap[k]?)->Calls Tryz.prog 19 #[.agg (saC r x),.int .i64 1] z fun e z'=>e=.returned (.int .i64 (K:Int))/\Below z.heap.size z z'
theorem Helds.keep {lo hi:Nat}{w w':World}{r:Rn}{x:RV}{K:Nat}(h:Helds lo hi w r x K)(hk:∀ k,lo<=k->k<hi->w'.heap[k]? = w.heap[k]?):Helds lo hi w' r x K:=fun z hz=>h z fun k h1 h2=>(hz k h1 h2).trans (hk k h1 h2)
theorem Z4b {lo hi:Nat}{w:World}{r:Rn}{x:RV}(h:AnR lo hi w r x)(hap:(x.vl :: x.L.map Om.v).Pairwise Zz)(hs:Sm 7 r) :
  Calls Tryz.prog 18 #[.agg (saC r x),.int .i64 1] w fun e w'=>∃ K:Nat,e=.returned (.int .i64 (K:Int))/\Helds lo hi w' r x K/\Y4 lo hi w w':=by
 obtain ⟨hA,hL⟩:=h;have hsp:∀ k,rvS x k->lo<=k/\k<hi:=fun k e=>⟨(hA.lts k e).1,hL k e⟩
 have h7:x.L.length<=7:=by have:=hs.out;rw [<-hA.outC,List.length_map] at this;exact this
 have h32:∀ p∈x.L,p.m.es.length<=32:=fun p hp=>hs.es p.m (by rw [<-hA.outC];exact List.mem_map_of_mem hp)
 obtain ⟨s1,s2,s3,s4,s5,s6,s7,-,-⟩:=hs;obtain ⟨vl,vg,vn,vm,vs,vt,vo,L⟩:=x;obtain ⟨a12,c12,e12⟩:=hA.log.shape;obtain ⟨a13,c13,e13⟩:=hA.gr.shape;obtain ⟨a14,c14,e14⟩:=hA.nx.shape;obtain ⟨a15,c15,e15⟩:=hA.mt.shape;obtain ⟨a16,c16,e16⟩:=hA.se.shape;obtain ⟨a17,c17,e17⟩:=hA.st.shape;obtain ⟨ao,co,eo⟩:=hA.out.shape;dsimp only at e12 e13 e14 e15 e16 e17 eo h7 h32;subst e12 e13 e14 e15 e16 e17 eo
 have hp6:([.slice a12 r.n.log.length c12,.slice a13 r.n.gr.length c13,.slice a14 r.n.nx.length c14,.slice a15 r.n.mt.length c15,.slice a16 r.n.se.length c16,.slice a17 r.n.st.length c17]:List Value).Pairwise Zz:=by
  refine List.pairwise_cons.2 ⟨fun v hv k e e'=>?_,hA.ap⟩;obtain ⟨cur,s,g1⟩:=Z3h hA.log e;simp only [List.mem_cons,List.not_mem_nil,or_false] at hv;rcases hv with rfl | rfl | rfl | rfl | rfl
  ·obtain ⟨cur2,t2,g2⟩:=Xi hA.gr e'
   rw [g1] at g2;simp only [Option.some.injEq,Obj.cells.injEq] at g2;exact absurd g2.2.1 (by decide)
  ·obtain ⟨cur2,t2,g2⟩:=Xi hA.nx e'
   rw [g1] at g2;simp only [Option.some.injEq,Obj.cells.injEq] at g2;exact absurd g2.2.1 (by decide)
  ·obtain ⟨cur2,t2,g2⟩:=Xi hA.mt e'
   rw [g1] at g2;simp only [Option.some.injEq,Obj.cells.injEq] at g2;exact absurd g2.2.1 (by decide)
  ·obtain ⟨cur2,t2,g2⟩:=Xi hA.se e'
   rw [g1] at g2;simp only [Option.some.injEq,Obj.cells.injEq] at g2;exact absurd g2.2.1 (by decide)
  ·obtain ⟨cur2,t2,g2⟩:=Xi hA.st e'
   rw [g1] at g2;simp only [Option.some.injEq,Obj.cells.injEq] at g2;exact absurd g2.2.1 (by decide)
 have b1:=s2;refine (Z4a r.code r.drew r.n.id r.n.sz r.n.el r.n.bt r.n.tm r.n.vo r.n.ro r.n.ld r.n.cm r.n.nw r.n.dl r.n.hd a12 a13 a14 a15 a16 a17 r.n.log.length r.n.gr.length r.n.nx.length r.n.mt.length r.n.se.length r.n.st.length c12 c13 c14 c15 c16 c17 ao L.length co r.n.log r.n.gr r.n.nx r.n.mt r.n.se r.n.st L w lo hA.log hA.gr hA.nx hA.mt hA.se hA.st hA.out hA.ents hp6 hap (by omega) (by omega) (by omega) (by omega) (by omega) (by omega) (by omega) h32 (by omega)).mono ?_;rintro e w' ⟨rfl,⟨hN,hM⟩,hT⟩;refine ⟨_,rfl,fun z hz=>?_,hT.turned fun k hk=>hsp k hk⟩;have hb:∀ k,rvS ⟨.slice a12 r.n.log.length c12,.slice a13 r.n.gr.length c13,.slice a14 r.n.nx.length c14,.slice a15 r.n.mt.length c15,.slice a16 r.n.se.length c16,.slice a17 r.n.st.length c17,.slice ao L.length co,L⟩ k->z.heap[k]? = w'.heap[k]?:=fun k hk=>hz k (hsp k hk).1 (hsp k hk).2
 refine Z3v r.code r.drew r.n.id r.n.sz r.n.el r.n.bt r.n.tm r.n.vo r.n.ro r.n.ld r.n.cm r.n.nw r.n.dl r.n.hd a12 a13 a14 a15 a16 a17 r.n.log.length r.n.gr.length r.n.nx.length r.n.mt.length r.n.se.length r.n.st.length c12 c13 c14 c15 c16 c17 ao L.length co L z ⟨hN.m12.keep (c:=c12) fun k e _=>hb k (.inl ⟨_,by simp,e⟩),hN.m13.keep (c:=c13) fun k e _=>hb k (.inl ⟨_,by simp,e⟩),hN.m14.keep (c:=c14) fun k e _=>hb k (.inl ⟨_,by simp,e⟩),hN.m15.keep (c:=c15) fun k e _=>hb k (.inl ⟨_,by simp,e⟩),hN.m16.keep (c:=c16) fun k e _=>hb k (.inl ⟨_,by simp,e⟩),hN.m17.keep (c:=c17) fun k e _=>hb k (.inl ⟨_,by simp,e⟩)⟩ ?_ rfl (by omega) (by omega) (by omega) (by omega) (by omega) (by omega) (by omega) h32 (by omega);intro h0;obtain ⟨q,e,hq,hc⟩:=hM h0;subst e;have hbq:z.heap[q]? = w'.heap[q]?:=hb q (.inr (.inl rfl));refine ⟨q,rfl,Z3m hbq hq,fun i hi=>?_⟩;obtain ⟨g1,g2,g3⟩:=hc i hi;exact ⟨fun s hs'=>(World.cell?_of_block (w:=w') hbq).trans (g1 s hs'),(World.cell?_of_block (w:=w') hbq).trans g2,g3.keep (c:=L[i].c) fun k e _=>hb k (.inr (.inr ⟨_,List.getElem_mem hi,e⟩))⟩
end Go.Proofs.YtmmpoppgabadmaaGreat
