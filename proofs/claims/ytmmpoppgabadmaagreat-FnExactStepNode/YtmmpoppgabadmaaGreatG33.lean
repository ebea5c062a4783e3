import Derived.Test.YtmmpoppgabadmaaGreatG31
import Derived.Test.YtmmpoppgabadmaaGreatG32
import Derived.Deep.RegionHeld3
set_option linter.unusedVariables false
set_option linter.unusedSimpArgs false
set_option maxRecDepth 100000
set_option maxHeartbeats 16000000
namespace Go.Proofs.YtmmpoppgabadmaaGreat
open Go.RowKit
structure Xx (w:World) (B:Nat) (r:Rn) (x:RV):Prop where
 log:Zd w B x.vl r.n.log
 gr:Z6 inC 1 3 w B x.vg r.n.gr
 nx:Z6 inC 1 3 w B x.vn r.n.nx
 mt:Z6 inC 1 3 w B x.vm r.n.mt
 se:Z6 inC 1 3 w B x.vs r.n.se
 st:Z6 inC 1 3 w B x.vt r.n.st
 out:Z6 omC 10 43 w B x.vo x.L
 outC:x.L.map (·.m)=r.out
 ents:∀ p∈x.L,Zd w B p.v p.m.es
 ap:[x.vg,x.vn,x.vm,x.vs,x.vt].Pairwise Zz
theorem Z4.ans {w:World}{B b:Nat}{r:Rn}{x:RV}(h:Z4 w B b r x):Xx w B r x:=⟨h.log,h.gr,h.nx,h.mt,h.se,h.st,h.out,h.outC,h.ents,h.ap⟩
theorem Xx.one {w:World}{B:Nat}{r:Rn}{x:RV}(h:Xx w B r x):(saC r x).all (·.oneCell')=true:=by
 obtain ⟨a1,c1,e1⟩:=h.log.shape;obtain ⟨a2,c2,e2⟩:=h.gr.shape;obtain ⟨a3,c3,e3⟩:=h.nx.shape;obtain ⟨a4,c4,e4⟩:=h.mt.shape;obtain ⟨a5,c5,e5⟩:=h.se.shape;obtain ⟨a6,c6,e6⟩:=h.st.shape;obtain ⟨a7,c7,e7⟩:=h.out.shape;unfold saC;rw [e1,e2,e3,e4,e5,e6,e7];simp [Value.oneCell']
theorem Xx.block {w w':World}{B:Nat}{r:Rn}{x:RV}(h:Xx w B r x)(hk:∀ k,B<=k->w'.heap[k]? = w.heap[k]?):Xx w' B r x:=by
 have hg:∀ {α:Type} {cs:α->List Value} {m:Nat} {T:TypeId} {v:Value} {l:List α},Z6 cs m T w B v l->Z6 cs m T w' B v l:=fun ho=>ho.block fun k e=>hk k (ho.lts k e).1
 have he:∀ {v:Value} {l:List Ent},Zd w B v l->Zd w' B v l:=fun ho=>ho.block fun k e=>hk k (World.ownsRow.lt ho.2 k e).1
 exact ⟨he h.log,hg h.gr,hg h.nx,hg h.mt,hg h.se,hg h.st,hg h.out,h.outC,fun p hp=>he (h.ents p hp),h.ap⟩
theorem Xx.le {w:World}{B B':Nat}{r:Rn}{x:RV}(h:Xx w B r x)(hB:B'<=B):Xx w B' r x:=
 ⟨h.log.le hB,h.gr.le hB,h.nx.le hB,h.mt.le hB,h.se.le hB,h.st.le hB,h.out.le hB,h.outC,fun p hp=>(h.ents p hp).le hB,h.ap⟩
def rn9:Rn:=⟨⟨0,0,0,0,0,0,0,0,0,0,0,0,[],[],[],[],[],[]⟩,[],9,0,0⟩
def rv9:RV:=⟨.slice none 0 0,.slice none 0 0,.slice none 0 0,.slice none 0 0,.slice none 0 0,.slice none 0 0,.slice none 0 0,[]⟩
theorem Z1b (v:Value):Zz (.slice none 0 0) v:=fun k h=>by cases h
theorem ans9 (w:World)(B:Nat):Xx w B rn9 rv9:=by
 refine ⟨⟨(fun e h=>by cases h),World.ownsRow_nil w B _ _⟩,Z6.nil _ _ _ _ _,Z6.nil _ _ _ _ _,Z6.nil _ _ _ _ _,Z6.nil _ _ _ _ _,Z6.nil _ _ _ _ _,Z6.nil _ _ _ _ _,rfl,(fun p h=>by cases h),?_⟩;simp only [rv9,List.pairwise_cons,List.mem_cons,List.not_mem_nil,or_false,forall_eq_or_imp,forall_eq,List.Pairwise.nil,and_true,false_imp_iff,implies_true];exact ⟨⟨Z1b _,Z1b _,Z1b _,Z1b _⟩,⟨Z1b _,Z1b _,Z1b _⟩,⟨Z1b _,Z1b _⟩,Z1b _⟩
def Z02 (n:Nd)(dr ki:Int)(m:Mg)(cl sq op:Int)(k v o:ByteArray):Rn:=if Z0l n=0 then stepP n dr ki m cl sq op k v o else rn9
theorem Z0f:(Tryz.prog.info? 39).map (·.size)=some 21:=by kernel_rfl
theorem sizeInA:(Tryz.prog.info? 46).map (·.size)=some 18:=by kernel_rfl
theorem sStepNode_any (n:Nd)(m:Mg)(ki dr cl sq op:Int)(k v o:ByteArray)(a12 a13 a14 a15 a16 a17 ea:Option Addr)(c12 c13 c14 c15 c16 c17 ec:Nat)(w:World)(h12:Es w (.slice a12 n.log.length c12) n.log)(h13:Ix w (.slice a13 n.gr.length c13) n.gr)(h14:Ix w (.slice a14 n.nx.length c14) n.nx)(h15:Ix w (.slice a15 n.mt.length c15) n.mt)(h16:Ix w (.slice a16 n.se.length c16) n.se)(h17:Ix w (.slice a17 n.st.length c17) n.st)(z12:n.log.length<=1048576)(z13:n.gr.length<=1048576)(z14:n.nx.length<=1048576)(z15:n.mt.length<=1048576)(z16:n.se.length<=1048576)(z17:n.st.length<=1048576)(he:Es w (.slice ea m.es.length ec) m.es)(hlo:∀ k,(Value.slice ea m.es.length ec).ownBlock=some k->k<w.heap.size)(hen:m.es.length<=1048576)(hd : -(2^63)<=dr)(hD:dr<2^63)(hk:k.size<=maxLen)(hv:v.size<=maxLen)(ho:o.size<=maxLen) :
  Calls Tryz.prog 9 #[.agg #[.int .i64 n.id,.int .i64 n.sz,.int .i64 n.el,.int .i64 n.bt,.int .i64 n.tm,.int .i64 n.vo,.int .i64 n.ro,.int .i64 n.ld,.int .i64 n.cm,.int .i64 n.nw,.int .i64 n.dl,.int .i64 n.hd,.slice a12 n.log.length c12,.slice a13 n.gr.length c13,.slice a14 n.nx.length c14,.slice a15 n.mt.length c15,.slice a16 n.se.length c16,.slice a17 n.st.length c17],.agg #[.int .i64 ki,.int .i64 dr,.int .i64 m.ki,.int .i64 m.fr,.int .i64 m.td,.int .i64 m.tm,.int .i64 m.li,.int .i64 m.lt,.int .i64 m.cm,.int .i64 m.ok,.int .i64 m.hi,.slice ea m.es.length ec,.int .i64 cl,.int .i64 sq,.int .i64 op,.string k,.string v,.string o]] w fun e w'=>∃ x,e=.returned (.agg (saC (Z02 n dr ki m cl sq op k v o) x))/\Xx w' w.heap.size (Z02 n dr ki m cl sq op k v o) x/\Below w.heap.size w w':=by
 generalize hRP:Z02 n dr ki m cl sq op k v o=RP;have HRP:Hid (Z02 n dr ki m cl sq op k v o=RP):=hRP;clear hRP;obtain ⟨W,hW⟩:∃ W,W=((w.alloc (.cells #[.int .i64 n.id,.int .i64 n.sz,.int .i64 n.el,.int .i64 n.bt,.int .i64 n.tm,.int .i64 n.vo,.int .i64 n.ro,.int .i64 n.ld,.int .i64 n.cm,.int .i64 n.nw,.int .i64 n.dl,.int .i64 n.hd,.slice a12 n.log.length c12,.slice a13 n.gr.length c13,.slice a14 n.nx.length c14,.slice a15 n.mt.length c15,.slice a16 n.se.length c16,.slice a17 n.st.length c17] 36)).alloc (.cells #[.int .i64 ki,.int .i64 dr,.int .i64 m.ki,.int .i64 m.fr,.int .i64 m.td,.int .i64 m.tm,.int .i64 m.li,.int .i64 m.lt,.int .i64 m.cm,.int .i64 m.ok,.int .i64 m.hi,.slice ea m.es.length ec,.int .i64 cl,.int .i64 sq,.int .i64 op,.string k,.string v,.string o] 46)).alloc (.cells #[.int .i64 0,.int .i64 0,.int .i64 0,.int .i64 0,.int .i64 0,.int .i64 0,.int .i64 0,.int .i64 0,.int .i64 0,.int .i64 0,.int .i64 0,.int .i64 0,.int .i64 0,.int .i64 0,.slice none 0 0,.slice none 0 0,.slice none 0 0,.slice none 0 0,.slice none 0 0,.slice none 0 0,.slice none 0 0] 39):=⟨_,rfl⟩;have HW:Hid _:=hW;have HBn:Hid (Blk W w.heap.size #[.int .i64 n.id,.int .i64 n.sz,.int .i64 n.el,.int .i64 n.bt,.int .i64 n.tm,.int .i64 n.vo,.int .i64 n.ro,.int .i64 n.ld,.int .i64 n.cm,.int .i64 n.nw,.int .i64 n.dl,.int .i64 n.hd,.slice a12 n.log.length c12,.slice a13 n.gr.length c13,.slice a14 n.nx.length c14,.slice a15 n.mt.length c15,.slice a16 n.se.length c16,.slice a17 n.st.length c17] 36):=by unfold Hid;rw [hW];exact ((Blk.new _ _ _).alloc _).alloc _
 have HBi:Hid (Blk W (w.heap.size+1) #[.int .i64 ki,.int .i64 dr,.int .i64 m.ki,.int .i64 m.fr,.int .i64 m.td,.int .i64 m.tm,.int .i64 m.li,.int .i64 m.lt,.int .i64 m.cm,.int .i64 m.ok,.int .i64 m.hi,.slice ea m.es.length ec,.int .i64 cl,.int .i64 sq,.int .i64 op,.string k,.string v,.string o] 46):=by unfold Hid;rw [hW];exact (Blk.new' _ _ _ (by simp)).alloc _
 have HBa:Hid (Blk W (w.heap.size+1+1) #[.int .i64 0,.int .i64 0,.int .i64 0,.int .i64 0,.int .i64 0,.int .i64 0,.int .i64 0,.int .i64 0,.int .i64 0,.int .i64 0,.int .i64 0,.int .i64 0,.int .i64 0,.int .i64 0,.slice none 0 0,.slice none 0 0,.slice none 0 0,.slice none 0 0,.slice none 0 0,.slice none 0 0,.slice none 0 0] 39):=by unfold Hid;rw [hW];exact Blk.new' _ _ _ (by simp)
 have HBw:Hid (Below w.heap.size w W):=by unfold Hid;rw [hW];exact (((Below.refl _ _).alloc (Nat.le_refl _) _).alloc (by simp) _).alloc (by simp;omega) _
 have HWs:Hid (W.heap.size=w.heap.size+3):=by unfold Hid;rw [hW];simp
 have HF:Hid (∀ z,Below w.heap.size w z->Calls Tryz.prog 22 #[.agg #[.int .i64 n.id,.int .i64 n.sz,.int .i64 n.el,.int .i64 n.bt,.int .i64 n.tm,.int .i64 n.vo,.int .i64 n.ro,.int .i64 n.ld,.int .i64 n.cm,.int .i64 n.nw,.int .i64 n.dl,.int .i64 n.hd,.slice a12 n.log.length c12,.slice a13 n.gr.length c13,.slice a14 n.nx.length c14,.slice a15 n.mt.length c15,.slice a16 n.se.length c16,.slice a17 n.st.length c17]] z fun e w'=>e=.returned (.int .i64 (Z0l n))/\Below z.heap.size z w'):=fun z hz=>
  Z56 n.id n.sz n.el n.bt n.tm n.vo n.ro n.ld n.cm n.nw n.dl n.hd a12 a13 a14 a15 a16 a17 c12 c13 c14 c15 c16 c17 n.log n.gr n.nx n.mt n.se n.st z (h12.below hz) (h13.below hz) (h14.below hz) (h15.below hz) (h16.below hz) (h17.below hz) z12 z13 z14 z15 z16 z17
 have HS:Hid (Z0l n=0->∀ z,Below w.heap.size w z->Calls Tryz.prog 32 #[.agg #[.int .i64 n.id,.int .i64 n.sz,.int .i64 n.el,.int .i64 n.bt,.int .i64 n.tm,.int .i64 n.vo,.int .i64 n.ro,.int .i64 n.ld,.int .i64 n.cm,.int .i64 n.nw,.int .i64 n.dl,.int .i64 n.hd,.slice a12 n.log.length c12,.slice a13 n.gr.length c13,.slice a14 n.nx.length c14,.slice a15 n.mt.length c15,.slice a16 n.se.length c16,.slice a17 n.st.length c17],.agg #[.int .i64 ki,.int .i64 dr,.int .i64 m.ki,.int .i64 m.fr,.int .i64 m.td,.int .i64 m.tm,.int .i64 m.li,.int .i64 m.lt,.int .i64 m.cm,.int .i64 m.ok,.int .i64 m.hi,.slice ea m.es.length ec,.int .i64 cl,.int .i64 sq,.int .i64 op,.string k,.string v,.string o]] z fun e w'=>∃(b:Nat) (X:RV),e=.returned (.agg (saC (stepP n dr ki m cl sq op k v o) X))/\Z4 w' z.heap.size b (stepP n dr ki m cl sq op k v o) X/\Below z.heap.size z w'):=fun h0 z hz=>by
  obtain ⟨hb,t0,t1,hod,hgl,hcm,hg,hl⟩:=Z1w n h0
  have hL:n.nx.length<=100000/\n.mt.length<=100000/\n.se.length<=100000/\n.st.length<=100000:=by
   have h9:=hl;have hz7:=hb.sz1;have hz3:=hb.sz0;unfold Yv at h9;rw [Bool.and_eq_true,Ji] at h9;split at h9 <;> omega
  exact l4step_any n m ki dr cl sq op k v o a12 a13 a14 a15 a16 a17 ea c12 c13 c14 c15 c16 c17 ec z ⟨h12.below hz,h13.below hz,h14.below hz,h15.below hz,h16.below hz,h17.below hz⟩ hb.ln (by omega) hL.1 hL.2.1 hL.2.2.1 hL.2.2.2 (he.below hz) (fun j e=>Nat.lt_of_lt_of_le (hlo j e) hz.size) hen hb hd hD t0 t1 hod hgl (fun hro=>(Z3b n hro (by have:=hb.sz0;omega) hb.nw0 hl).1) (fun hro=>(Z3b n hro (by have:=hb.sz0;omega) hb.nw0 hl).2) hcm hk hv ho
 clear h12 h13 h14 h15 h16 h17 z12 z13 z14 z15 z16 z17 he hlo hen hd hD hk hv ho hW;go_enter Tryz.func9,Tryz.ntmps9
 go_upto_region 1 with fail
 rw [<-HW.out];clear HW;generalize hai:w.heap.size+1+1=ba at *;generalize hii:w.heap.size+1=bi at *;have HOrd:Hid (w.heap.size<bi/\bi<ba/\ba<W.heap.size):=by have:=HWs.out;unfold Hid;omega
 clear hai hii;have HF1:Hid _:=HF.out W HBw.out;by_cases hz0:Z0l n=0
 ·have HSt:Hid _:=HS.out hz0
  have HRs:Hid (stepP n dr ki m cl sq op k v o=RP):=by have h9:=HRP.out;unfold Z02 at h9;rw [if_pos hz0] at h9;exact h9
  have hzb:(Z0l n != 0)=false:=by simp [hz0]
  clear hz0
  go_wp2_with (first
   |(have hBA:=HF1;refine Z7 36 (.tmp 2) rfl ?_;clear hBA;refine Z3 rfl 36 (.tmp 2) rfl w.heap.size rfl HBn.out Tryz.underlying36 rfl J6 rfl ?_)
   |(go_at_call 22;go_loud (refine Calls.mono HF1.out ?_;rintro e w1 ⟨rfl,hb1⟩;have HB1:Hid _:=hb1;have HN1:Hid (Blk w1 w.heap.size _ 36):=HBn.out.below hb1 HBn.out.lt;have HI1:Hid (Blk w1 bi _ 46):=HBi.out.below hb1 HBi.out.lt;have HA1:Hid (Blk w1 ba _ 39):=HBa.out.below hb1 HBa.out.lt;have HC1:Hid _:=HSt.out w1 (HBw.out.trans (hb1.mono HBw.out.size));clear hb1 HF1))
   |(have hBA:=HN1;refine Z7 36 (.tmp 2) rfl ?_;clear hBA;refine Z3 rfl 36 (.tmp 2) rfl w.heap.size rfl HN1.out Tryz.underlying36 rfl J6 rfl ?_)
   |(have hBA:=HI1;refine Z7 46 (.tmp 3) rfl ?_;clear hBA;refine Z3 rfl 46 (.tmp 3) rfl bi rfl HI1.out Tryz.underlying46 rfl sizeInA rfl ?_)
   |(go_at_call 32;go_loud (refine Calls.mono HC1.out ?_;rintro e w2 ⟨b2,X,rfl,hr2,hb2⟩;rw [HRs.out] at hr2 ⊢;have HR2:Hid (Xx w2 w1.heap.size RP X):=hr2.ans;have HB2:Hid _:=hb2;have HA2:Hid (Blk w2 ba _ 39):=HA1.out.below hb2 HA1.out.lt;clear hr2 hb2))
   |(have hBA:=HA2;refine Xl 39 (.tmp 4) _ rfl ?_;clear hBA;go_loud (refine Yu rfl 39 (.tmp 4) _ rfl ba rfl rfl HA2.out Z0f rfl rfl HR2.out.one ?_)))
  have hb9:ba<w1.heap.size:=HA1.out.lt;refine bodyPost_ret (v:=.agg (saC RP X)) (Xd Tryz.results9 rfl (HA2.out.row _) Tryz.underlying39 rfl Z0f rfl) rfl ⟨X,rfl,(HR2.out.block fun k hk=>setRow_other _ _ _ _ (by omega)).le (by have:=HOrd.out;omega),Xa ((HBw.out.trans (HB1.out.mono HBw.out.size)).trans (HB2.out.mono (by have:=HOrd.out;omega))) (by have:=HOrd.out;omega) _⟩
 ·have HRs:Hid (rn9=RP):=by have h9:=HRP.out;unfold Z02 at h9;rw [if_neg hz0] at h9;exact h9
  have hzb:(Z0l n != 0)=true:=by simpa using hz0
  clear hz0
  go_wp2_with (first
   |(have hBA:=HF1;refine Z7 36 (.tmp 2) rfl ?_;clear hBA;refine Z3 rfl 36 (.tmp 2) rfl w.heap.size rfl HBn.out Tryz.underlying36 rfl J6 rfl ?_)
   |(go_at_call 22;go_loud (refine Calls.mono HF1.out ?_;rintro e w1 ⟨rfl,hb1⟩;have HB1:Hid _:=hb1;have HA1:Hid (Blk w1 ba _ 39):=HBa.out.below hb1 HBa.out.lt;clear hb1 HF1))
   |(have hBA:=HA1;refine Xl 39 (.tmp 4) _ rfl ?_;clear hBA;go_loud (refine Yu rfl 39 (.tmp 4) _ rfl ba rfl rfl HA1.out Z0f rfl rfl (by simp [Value.oneCell']) ?_)))
  rw [<-HRs.out];refine bodyPost_ret (v:=.agg (saC rn9 rv9)) (Xd Tryz.results9 rfl (HA1.out.row _) Tryz.underlying39 rfl Z0f rfl) rfl ⟨rv9,rfl,ans9 _ _,Xa (HBw.out.trans (HB1.out.mono HBw.out.size)) (by have:=HOrd.out;omega) _⟩
structure Sm (K:Nat) (r:Rn):Prop where
 sz:r.n.sz<=7
 log:r.n.log.length<=5000
 gr:r.n.gr.length<=1000
 nx:r.n.nx.length<=1000
 mt:r.n.mt.length<=1000
 se:r.n.se.length<=1000
 st:r.n.st.length<=1000
 out:r.out.length<=K
 es:∀ m∈r.out,m.es.length<=32
section
variable {K:Nat} {r:Rn}
theorem Sm.mono (h:Sm K r){K':Nat}(hK:K<=K'):Sm K' r:=⟨h.sz,h.log,h.gr,h.nx,h.mt,h.se,h.st,Nat.le_trans h.out hK,h.es⟩
theorem Sm.timer (h:Sm K r):Sm K r.timer:=⟨h.sz,h.log,h.gr,h.nx,h.mt,h.se,h.st,h.out,h.es⟩
theorem Sm.lone (h:Sm K r):Sm K r.lone:=⟨h.sz,h.log,Nat.zero_le _,Nat.zero_le _,Nat.zero_le _,Nat.zero_le _,Nat.zero_le _,h.out,h.es⟩
theorem Sm.adopt (h:Sm K r)(t:Int):Sm K (r.adopt t):=by
 unfold Rn.adopt;split
 ·exact Sm.timer ⟨h.sz,h.log,Nat.zero_le _,Nat.zero_le _,Nat.zero_le _,Nat.zero_le _,Nat.zero_le _,h.out,h.es⟩
 ·exact ⟨h.sz,h.log,Nat.zero_le _,Nat.zero_le _,Nat.zero_le _,Nat.zero_le _,Nat.zero_le _,h.out,h.es⟩
theorem Sm.code (h:Sm K r)(c:Int):Sm K { r with code:=c }:=⟨h.sz,h.log,h.gr,h.nx,h.mt,h.se,h.st,h.out,h.es⟩
theorem Sm.send (h:Sm K r)(m:Mg)(hm:m.es.length<=32):Sm (K+1) (r.send m):=
 ⟨h.sz,h.log,h.gr,h.nx,h.mt,h.se,h.st,by have:=h.out;simp only [Rn.send,List.length_append,List.length_cons,List.length_nil];omega,fun x hx=>by
  simp only [Rn.send,List.mem_append,List.mem_cons,List.not_mem_nil,or_false] at hx;rcases hx with hx | rfl
  ·exact h.es x hx
  ·exact hm⟩
theorem Sm.allK (h:Sm K r)(m:Mg)(hm:m.es.length<=32):∀ k:Nat,Sm (K+k) (Rn.allK m k r)
 | 0=>h
 | k+1=>by
  unfold Rn.allK;split
  ·exact (Sm.allK h m hm k).mono (by omega)
  ·have h9:=(Sm.allK h m hm k).send { m with td:=(k:Int)+1 } hm
   exact h9.mono (by omega)
theorem Sm.sendE (h:Sm K r)(j:Nat):Sm (K+1) (r.sendE j):=by
 have h2:=h.send (Z0o r.n j) (by unfold Z0o;simp only [List.length_take];omega);exact ⟨h.sz,h.log,h.gr,h.nx,h.mt,h.se,by show (r.n.st.set j r.n.nw).length<=_;rw [List.length_set];exact h.st,h2.out,h2.es⟩
theorem Sm.sendK (h:Sm K r):∀ k:Nat,Sm (K+k) (Rn.sendK k r)
 | 0=>h
 | k+1=>by
  unfold Rn.sendK;split
  ·exact (Sm.sendK h k).mono (by omega)
  ·exact ((Sm.sendK h k).sendE _).mono (by omega)
theorem Sm.beatK (h:Sm K r):∀ k:Nat,Sm (K+k) (Rn.beatK k r)
 | 0=>h
 | k+1=>by
  unfold Rn.beatK;split
  ·exact ((Sm.beatK h k).sendE _).mono (by omega)
  ·exact (Sm.beatK h k).mono (by omega)
theorem Z4f (gr:List Int)(fr:Int):∀ k:Nat,(Zh gr fr k).length<=k
 | 0=>by simp [Zh]
 | k+1=>by
  have:=Z4f gr fr k;unfold Zh;split <;> simp <;> omega
theorem Sm.sendAll (h:Sm K r):Sm (K+7) r.sendAll:=by
 have:=h.sz;exact (h.sendK _).mono (by omega)
theorem Sm.tick (h:Sm K r):Sm (K+7) r.tick:=by
 have h1:Sm K { r with n:={ r.n with nw:=r.n.nw+1 } }:=⟨h.sz,h.log,h.gr,h.nx,h.mt,h.se,h.st,h.out,h.es⟩;unfold Rn.tick;split
 ·exact (h.code 7).mono (by omega)
 generalize ({ r with n:={ r.n with nw:=r.n.nw+1 } } : Rn)=r1 at *;have hz:=h1.sz;dsimp only;split
 ·split
  ·exact (h1.beatK _).mono (by omega)
  ·exact h1.lone.timer.mono (by omega)
 split
 ·exact h1.mono (by omega)
 split
 ·exact h1.lone.timer.mono (by omega)
 ·have h2:=h1.lone.timer
  have h3:Sm K { r1.lone.timer with n:={ r1.lone.timer.n with ro:=1,gr:=[r1.n.id] } }:=⟨h2.sz,h2.log,by show ([r1.n.id]:List Int).length<=1000;simp,h2.nx,h2.mt,h2.se,h2.st,h2.out,h2.es⟩;have h4:=h3.allK ⟨1,0,0,r1.n.tm+1,r1.n.log.length,Zs r1.n.log,0,0,0,[]⟩ (by show (([]:List Ent)).length<=32;simp) r1.n.sz.toNat;exact h4.mono (by omega)
theorem Sm.preAsk (h:Sm K r)(m:Mg):Sm (K+7) (r.preAsk m):=by
 unfold Rn.preAsk;split
 ·exact (h.code 2).mono (by omega)
 split
 ·exact (h.send _ (by simp)).mono (by omega)
 ·exact (h.send _ (by simp)).mono (by omega)
theorem Sm.higher (h:Sm K r)(t:Int):Sm K (r.higher t):=by
 unfold Rn.higher;split
 ·exact h.adopt t
 ·exact h
theorem Sm.voteAsk (h:Sm K r)(m:Mg):Sm (K+7) (r.voteAsk m):=by
 unfold Rn.voteAsk;split
 ·exact (h.code 2).mono (by omega)
 have h2:=h.higher m.tm;dsimp only;split
 ·have h3:=h2.lone
  refine Sm.mono (Sm.send (K:=K) (Sm.timer ?_) _ ?_) ?_
  ·exact ⟨h3.sz,h3.log,h3.gr,h3.nx,h3.mt,h3.se,h3.st,h3.out,h3.es⟩
  ·simp
  ·omega
 ·exact (h2.send _ (by simp)).mono (by omega)
theorem Sm.preReply (h:Sm K r)(m:Mg):Sm (K+7) (r.preReply m):=by
 have hz:=h.sz;unfold Rn.preReply;split
 ·unfold Rn.takeTerm
  split
  ·exact (h.adopt _).mono (by omega)
  ·exact (h.code 3).mono (by omega)
 split
 ·exact (h.code 3).mono (by omega)
 dsimp only;split
 ·have h3:Sm K (Rn.timer { r with n:={ r.n with tm:=r.n.tm+1,vo:=r.n.id,ro:=2,gr:=[r.n.id] } }):=Sm.timer ⟨h.sz,h.log,by show ([r.n.id]:List Int).length<=1000;simp,h.nx,h.mt,h.se,h.st,h.out,h.es⟩
  have h4:=h3.allK ⟨3,0,0,r.n.tm+1,r.n.log.length,Zs r.n.log,0,0,0,[]⟩ (by show (([]:List Ent)).length<=32;simp) r.n.sz.toNat;exact h4.mono (by omega)
 ·have:=Z4f r.n.gr m.fr r.n.sz.toNat
  exact ⟨h.sz,h.log,by show (Zh r.n.gr m.fr r.n.sz.toNat).length<=1000;omega,h.nx,h.mt,h.se,h.st,by have:=h.out;show r.out.length<=K+7;omega,h.es⟩
theorem Sm.lead (h:Sm K r):Sm (K+7) r.lead:=by
 have hz:=h.sz;have h2:=h.lone;unfold Rn.lead;dsimp only;refine Sm.sendAll ⟨h.sz,?_,h2.gr,?_,?_,?_,?_,h.out,h.es⟩
 ·have:=h.log
  simp only;split
  ·simp only [List.length_append,List.length_cons,List.length_nil];omega
  ·omega
 all_goals (simp only [Jc];omega)
theorem Sm.voteReply (h:Sm K r)(m:Mg):Sm (K+7) (r.voteReply m):=by
 have hz:=h.sz;unfold Rn.voteReply;split
 ·exact (h.adopt _).mono (by omega)
 split
 ·exact (h.code 3).mono (by omega)
 dsimp only;split
 ·exact h.lead
 ·have:=Z4f r.n.gr m.fr r.n.sz.toNat
  exact ⟨h.sz,h.log,by show (Zh r.n.gr m.fr r.n.sz.toNat).length<=1000;omega,h.nx,h.mt,h.se,h.st,by have:=h.out;show r.out.length<=K+7;omega,h.es⟩
theorem higher_log (r:Rn)(t:Int):(r.higher t).n.log=r.n.log:=by
 unfold Rn.higher Rn.adopt;split
 ·split <;> rfl
 ·rfl
theorem Sm.append (h:Sm K r)(hl:r.n.log.length<=4900)(m:Mg)(hm:m.es.length<=32):Sm (K+7) (r.append m):=by
 unfold Rn.append;split
 ·exact (h.send _ (by simp)).mono (by omega)
 have h1:=h.higher m.tm;have e1:=higher_log r m.tm;generalize r.higher m.tm=r1 at *;dsimp only;split
 ·exact (h1.code 3).mono (by omega)
 have h2:=h1.lone;have h3:Sm K (Rn.timer { r1.lone with n:={ r1.lone.n with ld:=m.fr,hd:=r1.n.nw } }):=Sm.timer ⟨h2.sz,h2.log,h2.gr,h2.nx,h2.mt,h2.se,h2.st,h2.out,h2.es⟩;have e3:(Rn.timer { r1.lone with n:={ r1.lone.n with ld:=m.fr,hd:=r1.n.nw } }).n.log=r.n.log:=e1;generalize Rn.timer { r1.lone with n:={ r1.lone.n with ld:=m.fr,hd:=r1.n.nw } }=r3 at *;split
 ·exact (h3.send _ (by simp)).mono (by omega)
 split
 ·exact (h3.code 3).mono (by omega)
 refine Sm.mono (Sm.send (K:=K) ?_ _ ?_) ?_
 ·refine ⟨h3.sz,?_,h3.gr,h3.nx,h3.mt,h3.se,h3.st,h3.out,h3.es⟩
  dsimp only;split
  ·rw [e3]
   simp only [List.length_append,List.length_take,List.length_drop];omega
  ·exact h3.log
 ·simp
 ·omega
theorem Sm.appReply (h:Sm K r)(m:Mg):Sm (K+7) (r.appReply m):=by
 unfold Rn.appReply;split
 ·exact (h.adopt _).mono (by omega)
 split
 ·exact (h.code 3).mono (by omega)
 dsimp only;have h1:∀ c:Int,Sm K { r with code:=c,n:={ r.n with se:=r.n.se.set (m.fr-1).toNat r.n.nw } }:=fun c=>⟨h.sz,h.log,h.gr,h.nx,h.mt,by simp only [List.length_set];exact h.se,h.st,h.out,h.es⟩
 split
 ·split
  ·exact (h1 3).mono (by omega)
  ·refine Sm.mono (Sm.sendE (K:=K) ?_ _) ?_
   ·exact ⟨h.sz,h.log,h.gr,by simp only [List.length_set];exact h.nx,h.mt,by simp only [List.length_set];exact h.se,h.st,h.out,h.es⟩
   ·omega
 split
 ·exact (h1 3).mono (by omega)
 split
 ·refine Sm.mono (Sm.sendE (K:=K) ?_ _) ?_
  ·exact ⟨h.sz,h.log,h.gr,by simp only [List.length_set];exact h.nx,by simp only [List.length_set];exact h.mt,by simp only [List.length_set];exact h.se,h.st,h.out,h.es⟩
  ·omega
 ·exact ⟨h.sz,h.log,h.gr,by simp only [List.length_set];exact h.nx,by simp only [List.length_set];exact h.mt,by simp only [List.length_set];exact h.se,h.st,Nat.le_trans h.out (by omega),h.es⟩
theorem Sm.message (h:Sm K r)(hl:r.n.log.length<=4900)(bad:Bool)(m:Mg)(hm:bad=false->m.ki=5->m.es.length<=32):Sm (K+7) (r.message bad m):=by
 unfold Rn.message;split
 ·exact (h.code 1).mono (by omega)
 rename_i hb;split
 ·exact h.preAsk m
 split
 ·exact h.preReply m
 split
 ·exact h.voteAsk m
 split
 ·exact h.voteReply m
 split
 ·rename_i h5
  exact h.append hl m (hm (by cases bad with | false=>rfl | true=>exact absurd (Or.inl rfl) hb) h5)
 ·exact h.appReply m
theorem Sm.propose (h:Sm K r)(hl:r.n.log.length<=4900)(bad:Bool)(cl sq op:Int)(k v o:ByteArray):Sm (K+7) (r.propose bad cl sq op k v o):=by
 unfold Rn.propose;split
 ·exact (h.code 6).mono (by omega)
 split
 ·exact (h.code 4).mono (by omega)
 split
 ·exact (h.code 5).mono (by omega)
 ·exact Sm.sendAll ⟨h.sz,by simp only [List.length_append,List.length_cons,List.length_nil];omega,h.gr,h.nx,h.mt,h.se,h.st,h.out,h.es⟩
end
theorem stepA_sm (n:Nd)(dr ki:Int)(m:Mg)(cl sq op:Int)(k v o:ByteArray):Sm 7 (Z02 n dr ki m cl sq op k v o):=by
 unfold Z02;split
 ·rename_i h0
  obtain ⟨hb,-,-,-,hgl,-,-,hl⟩:=Z1w n h0
  have hL:n.nx.length<=1000/\n.mt.length<=1000/\n.se.length<=1000/\n.st.length<=1000:=by
   have h9:=hl;have hz7:=hb.sz1;have hz3:=hb.sz0;unfold Yv at h9;rw [Bool.and_eq_true,Ji] at h9;split at h9 <;> omega
  have hs:Sm 0 ⟨n,[],0,0,dr⟩:=⟨hb.sz1,by have:=hb.ln;simp only;omega,hgl,hL.1,hL.2.1,hL.2.2.1,hL.2.2.2,Nat.le_refl _,fun x hx=>by cases hx⟩;have hll:n.log.length<=4900:=by have:=hb.ln;omega
  unfold stepP;dsimp only;split
  ·exact hs.tick
  split
  ·exact hs.message hll _ m (fun hbd h5=>(msB_zero m (by simpa using hbd)).2.2.2.2.2.1 h5)
  split
  ·exact hs.propose hll _ cl sq op k v o
  ·exact (hs.code 8).mono (by omega)
 ·exact ⟨by decide,by decide,by decide,by decide,by decide,by decide,by decide,by decide,fun x hx=>by cases hx⟩
structure Xf (S:Nat->Prop) (w w':World):Prop where
 os:w'.os=w.os
 tape:w'.tape=w.tape
 output:w'.output=w.output
 size:w.heap.size<=w'.heap.size
 block:∀ k,k<w.heap.size->¬ S k->w'.heap[k]? = w.heap[k]?
theorem Xf.refl (S:Nat->Prop)(w:World):Xf S w w:=⟨rfl,rfl,rfl,Nat.le_refl _,fun _ _ _=>rfl⟩
theorem Xf.trans {S:Nat->Prop}{w w1 w2:World}(h:Xf S w w1)(k:Xf S w1 w2):Xf S w w2:=
 ⟨k.os.trans h.os,k.tape.trans h.tape,k.output.trans h.output,Nat.le_trans h.size k.size,fun i hi hn=>(k.block i (Nat.lt_of_lt_of_le hi h.size) hn).trans (h.block i hi hn)⟩
theorem Xf.rows {S:Nat->Prop}{w w':World}{row:Option Nat}(h:w.grownBy w' row)(h1:∀ k,row=some k->S k):Xf S w w':=
 ⟨h.os,h.tape,h.output,h.size,fun k hk hn=>h.block k hk (fun e=>hn (h1 k e.symm))⟩
theorem Xf.turned {S:Nat->Prop}{w w':World}{lo hi:Nat}(h:Xf S w w')(h1:∀ k,S k->lo<=k/\k<hi):Y4 lo hi w w':=
 ⟨h.os,h.tape,h.output,h.size,fun k hk hn=>h.block k hk (fun e=>by have:=h1 k e;omega)⟩
theorem Xf.of_below {S:Nat->Prop}{w w':World}(h:Below w.heap.size w w'):Xf S w w':=⟨h.os,h.tape,h.output,h.size,fun k hk _=>h.block k hk⟩
theorem Xf.wide {S S':Nat->Prop}{w w':World}(h:Xf S w w')(h1:∀ k,S k->S' k):Xf S' w w':=⟨h.os,h.tape,h.output,h.size,fun k hk hn=>h.block k hk fun e=>hn (h1 k e)⟩
theorem Xy {b k:Nat}(h:b≠k):∀(vs:List Value) (o:Nat) (u:World),(u.setCells b o vs).heap[k]? = u.heap[k]?
 | [],_,_=>rfl
 | v :: vs,o,u=>by
  show ((u.setCell ⟨b,o,none⟩ v).setCells b (o+1) vs).heap[k]? = _;rw [Xy h vs (o+1)];exact Below.heap_setCell _ _ _ _ (fun e=>h e.symm)
theorem Z2d {q:Nat} : ∀(vs:List Value) (o:Nat) (u:World),u.grownBy (u.setCells q o vs) (some q)
 | [],_,_=>grownV _ _
 | v :: vs,o,u=>Yk (Je u q o v _ rfl) (Z2d vs (o+1) _)
theorem Xi {α:Type}{cs:α->List Value}{m:Nat}{T:TypeId}{w:World}{B:Nat}{v:Value}{l:List α}(h:Z6 cs m T w B v l){k:Nat}(e:v.ownBlock=some k):∃ cur s,w.heap[k]? = some (.cells cur T s):=by
 obtain ⟨-,⟨rfl,-⟩ | ⟨g,cap,cur,rfl,-,hb',-⟩⟩:=h
 ·cases e
 cases e;exact ⟨_,_,hb'⟩
theorem Z3h {w:World}{B:Nat}{v:Value}{l:List Ent}(h:Zd w B v l){k:Nat}(e:v.ownBlock=some k):∃ cur s,w.heap[k]? = some (.cells cur 118 s):=by
 obtain ⟨-,-,⟨rfl,-⟩ | ⟨g,cap,cur,rfl,-,hb',-⟩⟩:=h
 ·cases e
 cases e;exact ⟨_,_,hb'⟩
def omN:List Om->Nat
 | []=>0
 | p :: l=>9+7*p.m.es.length+omN l
theorem omN_app (l m:List Om):omN (l ++ m)=omN l+omN m:=by
 induction l with
 | nil=>simp [omN]
 | cons p l ih=>rw [List.cons_append,omN,ih,omN];omega
theorem omN_take (l:List Om)(j:Nat)(h:j<l.length):omN (l.take (j+1))=omN (l.take j)+(9+7*l[j].m.es.length):=by
 rw [List.take_succ_eq_append_getElem h,omN_app];simp [omN]
theorem Z4l (l:List Om)(j:Nat):omN (l.take j)<=omN l:=by
 have h:=omN_app (l.take j) (l.drop j);rw [List.take_append_drop] at h;omega
theorem omN_le (l:List Om)(h:∀ p∈l,p.m.es.length<=32):omN l<=l.length*233:=by
 induction l with
 | nil=>simp [omN]
 | cons p l ih=>
  have h1:=ih (fun q hq=>h q (by simp [hq]));have h2:=h p (by simp);rw [omN,List.length_cons,Nat.succ_mul];omega
def msS (v:Value)(L:List Om)(k:Nat):Prop:=v.ownBlock=some k∨∃ p∈L,p.v.ownBlock=some k
structure MkJ (w:World) (B q:Nat) (L:List Om) (k0 j:Nat):Prop where
 room:w.there q 0 (L.length*10)
 hq:q<w.heap.size
 c9:∀ i (h:i<L.length),w.cell? ⟨q,i*10+9,none⟩=some L[i].v
 own:∀ i (h:i<L.length),j<=i->Zd w B L[i].v L[i].m.es
 old:∀ i (h:i<L.length),i<j->(∀ s,s<9->w.cell? ⟨q,i*10+s,none⟩=some (.int .i64 ((k0+omN (L.take i)+s:Nat):Int)))/\MkE w L[i].a L[i].m.es.length (k0+omN (L.take i)+9)
theorem MkJ.put {w w2:World}{B q:Nat}{L:List Om}{k0 j:Nat}(h:MkJ w B q L k0 j)(hj:j<L.length)(hne:∀ p∈L,p.v.ownBlock≠some q)(hap:(L.map Om.v).Pairwise Zz)(x0 x1 x2 x3 x4 x5 x6 x7 x8:Int)(e0:x0=((k0+omN (L.take j)+0:Nat):Int))(e1:x1=((k0+omN (L.take j)+1:Nat):Int))(e2:x2=((k0+omN (L.take j)+2:Nat):Int))(e3:x3=((k0+omN (L.take j)+3:Nat):Int))(e4:x4=((k0+omN (L.take j)+4:Nat):Int))(e5:x5=((k0+omN (L.take j)+5:Nat):Int))(e6:x6=((k0+omN (L.take j)+6:Nat):Int))(e7:x7=((k0+omN (L.take j)+7:Nat):Int))(e8:x8=((k0+omN (L.take j)+8:Nat):Int))
  (hg:(w.setCells q (j*10) [.int .i64 x0,.int .i64 x1,.int .i64 x2,.int .i64 x3,.int .i64 x4,.int .i64 x5,.int .i64 x6,.int .i64 x7,.int .i64 x8]).grownBy w2 L[j].v.ownBlock) (hm:MkE w2 L[j].a L[j].m.es.length (k0+omN (L.take j)+9)):MkJ w2 B q L k0 (j+1):=by
 have hjm:L[j]∈L:=List.getElem_mem hj;have hz9:(w.setCells q (j*10) [.int .i64 x0,.int .i64 x1,.int .i64 x2,.int .i64 x3,.int .i64 x4,.int .i64 x5,.int .i64 x6,.int .i64 x7,.int .i64 x8]).heap.size=w.heap.size:=Yc _ _ _;have hbq:w2.heap[q]? = (w.setCells q (j*10) [.int .i64 x0,.int .i64 x1,.int .i64 x2,.int .i64 x3,.int .i64 x4,.int .i64 x5,.int .i64 x6,.int .i64 x7,.int .i64 x8]).heap[q]?:=hg.block q (by rw [hz9];exact h.hq) (fun e=>hne _ hjm e.symm);have hoth:∀ k,k<w.heap.size->k≠q->L[j].v.ownBlock≠some k->w2.heap[k]? = w.heap[k]?:=fun k hk hn hn2=>(hg.block k (by rw [hz9];exact hk) (fun e=>hn2 e.symm)).trans (Xy (fun e=>hn e.symm) _ _ _)
 have hout:∀ o,(o<j*10∨j*10+9<=o)->w2.cell? ⟨q,o,none⟩=w.cell? ⟨q,o,none⟩:=fun o ho=>(World.cell?_of_block hbq).trans (World.cell?_setCells_out q _ _ _ _ (fun _ _=>by simpa using ho))
 have hA:∀ a b (ha:a<L.length) (hb:b<L.length),a≠b->Zz L[a].v L[b].v:=fun a b ha hb hn=>by
  have hp:=List.pairwise_iff_getElem.1 hap;rcases Nat.lt_or_ge a b with h' | h'
  ·have:=hp a b (by simpa using ha) (by simpa using hb) h'
   simpa using this
  ·have:=hp b a (by simpa using hb) (by simpa using ha) (by omega)
   exact Zz.symm (by simpa using this)
 refine ⟨Zq (World.there_setCells h.room _ _ _) hbq,Z3m hbq (by rw [hz9];exact h.hq),fun i hi=>?_,fun i hi hji=>?_,fun i hi hij=>?_⟩
 ·rw [hout _ (by omega)]
  exact h.c9 i hi
 ·exact (h.own i hi (by omega)).block fun k e=>hoth k (World.ownsRow.lt (h.own i hi (by omega)).2 k e).2 (fun e'=>hne _ (List.getElem_mem hi) (by rw [e,e'])) (hA i j hi hj (by omega) k e)
 ·by_cases e:i=j
  ·subst e
   refine ⟨fun s hs=>?_,hm⟩;have hr:=World.rangeAt_setCells_same w q (i*10) [.int .i64 x0,.int .i64 x1,.int .i64 x2,.int .i64 x3,.int .i64 x4,.int .i64 x5,.int .i64 x6,.int .i64 x7,.int .i64 x8] (Z3x h.room _ _ (by simp;omega));rw [World.cell?_of_block hbq];rcases (show s=0∨s=1∨s=2∨s=3∨s=4∨s=5∨s=6∨s=7∨s=8 by omega) with rfl | rfl | rfl | rfl | rfl | rfl | rfl | rfl | rfl
   ·rw [<-e0];exact hr 0 _ rfl
   ·rw [<-e1];exact hr 1 _ rfl
   ·rw [<-e2];exact hr 2 _ rfl
   ·rw [<-e3];exact hr 3 _ rfl
   ·rw [<-e4];exact hr 4 _ rfl
   ·rw [<-e5];exact hr 5 _ rfl
   ·rw [<-e6];exact hr 6 _ rfl
   ·rw [<-e7];exact hr 7 _ rfl
   ·rw [<-e8];exact hr 8 _ rfl
  ·obtain ⟨h1,h2⟩:=h.old i hi (by omega)
   refine ⟨fun s hs=>?_,h2.keep (c:=L[i].c) fun k ek hk=>hoth k hk (fun e'=>hne _ (List.getElem_mem hi) (by show (Value.slice _ _ _).ownBlock=_;rw [ek,e'])) (hA i j hi hj e k ek)⟩;rw [hout _ (by omega)];exact h1 s hs
def MkM (w:World)(a:Option Addr)(L:List Om)(k0:Nat):Prop:=0<L.length->∃ q,a=some ⟨q,0,none⟩/\q<w.heap.size/\∀ i (h:i<L.length),(∀ s,s<9->w.cell? ⟨q,i*10+s,none⟩=some (.int .i64 ((k0+omN (L.take i)+s:Nat):Int)))/\w.cell? ⟨q,i*10+9,none⟩=some L[i].v/\MkE w L[i].a L[i].m.es.length (k0+omN (L.take i)+9)
theorem MkM.below {w w':World}{a:Option Addr}{L:List Om}{k0:Nat}(h:MkM w a L k0)(hb:Below w.heap.size w w'):MkM w' a L k0:=fun h0=>by
 obtain ⟨q,e,hq,hc⟩:=h h0;refine ⟨q,e,Nat.lt_of_lt_of_le hq hb.size,fun i hi=>?_⟩;obtain ⟨h1,h2,h3⟩:=hc i hi;exact ⟨fun s hs=>(hb.cell (p:=⟨q,i*10+s,none⟩) hq).trans (h1 s hs),(hb.cell (p:=⟨q,i*10+9,none⟩) hq).trans h2,h3.below hb⟩
theorem omC_cell9 (p:Om):(omC p)[9]? = some p.v:=rfl
theorem markMsgS_o (z:Int)(k0:Nat)(hz:z=(k0:Int))(hk0:k0<=10000000){a:Option Addr}{n c:Nat}{L:List Om}{w:World}{B:Nat}(h:Z6 omC 10 43 w B (.slice a n c) L)(he:∀ p∈L,Zd w B p.v p.m.es)(hap:(L.map Om.v).Pairwise Zz)(hl:L.length<=100)(hes:∀ p∈L,p.m.es.length<=32) :
  Calls Tryz.prog 48 #[.slice a n c,.int .i64 z] w fun r w'=>r=.returned (.int .i64 ((k0+omN L:Nat):Int))/\MkM w' a L k0/\Xf (msS (.slice a n c) L) w w':=by
 subst hz;obtain ⟨rfl,hcs⟩:=own_caseV omLaw h
 have hne:∀ q,a=some ⟨q,0,none⟩->∀ p∈L,p.v.ownBlock≠some q:=fun q e p hp e2=>by
  obtain ⟨cur,s,h1⟩:=Z3h (he p hp) e2;subst e;obtain ⟨cur2,s2,h2⟩:=Xi h (k:=q) rfl;rw [h1] at h2;simp only [Option.some.injEq,Obj.cells.injEq] at h2;exact absurd h2.2.1 (by decide)
 have hrow:0<L.length->∃ q,a=some ⟨q,0,none⟩/\MkJ w B q L k0 0:=fun h0=>by
  rcases hcs with ⟨-,h1⟩ | ⟨q,rfl,h1,h2,h3⟩
  ·omega
  ·refine ⟨q,rfl,h3,h2,fun i hi=>?_,fun i hi _=>he _ (List.getElem_mem hi),fun i hi h9=>by omega⟩
   obtain ⟨-,a',c',e,hc⟩:=Z6.sl omLaw h (by unfold maxLen;omega);simp only [Value.slice.injEq] at e;obtain ⟨rfl,-,rfl⟩:=e;obtain ⟨b,off,e2,hj⟩:=hc i hi;simp only [Option.some.injEq,Addr.mk.injEq,and_true] at e2;obtain ⟨rfl,rfl⟩:=e2;have:=hj i hi 9 _ (omC_cell9 _);rw [Nat.zero_add] at this;exact this
 have hmN:∀ j,omN (L.take j)<=23300:=fun j=>by
  have h1:=Z4l L j;have h2:=omN_le L hes;omega
 have HS0:Hid (∀ j (hj:j<L.length) k,L[j].v.ownBlock=some k->msS (.slice a L.length c) L k):=fun j hj k e=>.inr ⟨_,List.getElem_mem hj,e⟩
 clear h he hcs;go_enter Tryz.func48,Tryz.ntmps48;go_wp2
 go_loopw [1,5] (fun cc i wr=>∃ j:Nat,j<=L.length/\i=.int .i64 j/\cc=.int .i64 ((k0+omN (L.take j):Nat):Int)/\(∀ q,a=some ⟨q,0,none⟩->0<L.length->MkJ wr B q L k0 j)/\Xf (msS (.slice a L.length c) L) w wr) (fun _ i _=>L.length-(intOf i).toNat)
 case atStart=>exact ⟨0,Nat.zero_le _,rfl,by simp [omN],fun q e h0=>(by obtain ⟨q',e',hJ⟩:=hrow h0;rw [e] at e';simp only [Option.some.injEq,Addr.mk.injEq,and_true] at e';rw [e'];exact hJ),Xf.refl _ _⟩
 case round=>
  obtain ⟨j,hj,rfl,rfl,hP,hT⟩:=hrel;have hsz:=hT.size;by_cases hlt:j<L.length
  ·obtain ⟨q,rfl,-⟩:=hrow (by omega)
   have hJ:=hP q rfl (by omega);obtain ⟨y0,d0⟩:=Zv hJ.room (j*10) (by omega);have f0:=Zj hJ.room (j*10) (by omega);obtain ⟨y1,d1⟩:=Zv hJ.room (j*10+1) (by omega);have f1:=Zj hJ.room (j*10+1) (by omega);obtain ⟨y2,d2⟩:=Zv hJ.room (j*10+2) (by omega);have f2:=Zj hJ.room (j*10+2) (by omega);obtain ⟨y3,d3⟩:=Zv hJ.room (j*10+3) (by omega);have f3:=Zj hJ.room (j*10+3) (by omega);obtain ⟨y4,d4⟩:=Zv hJ.room (j*10+4) (by omega);have f4:=Zj hJ.room (j*10+4) (by omega);obtain ⟨y5,d5⟩:=Zv hJ.room (j*10+5) (by omega);have f5:=Zj hJ.room (j*10+5) (by omega);obtain ⟨y6,d6⟩:=Zv hJ.room (j*10+6) (by omega);have f6:=Zj hJ.room (j*10+6) (by omega);obtain ⟨y7,d7⟩:=Zv hJ.room (j*10+7) (by omega);have f7:=Zj hJ.room (j*10+7) (by omega);obtain ⟨y8,d8⟩:=Zv hJ.room (j*10+8) (by omega);have f8:=Zj hJ.room (j*10+8) (by omega);have c9:wr.cell? ⟨q,j*10+9,none⟩=some (.slice L[j].a L[j].m.es.length L[j].c):=hJ.c9 j hlt;have HSt:Hid (omN (L.take (j+1))=omN (L.take j)+(9+7*L[j].m.es.length)):=omN_take L j hlt;have hej:L[j].m.es.length<=32:=hes _ (List.getElem_mem hlt);have hmj:=hmN j;have HNE:Hid ((Value.slice L[j].a L[j].m.es.length L[j].c).ownBlock≠some q):=hne q rfl _ (List.getElem_mem hlt)
   have HM:Hid (∀(w2:World) (x0 x1 x2 x3 x4 x5 x6 x7 x8:Int),x0=((k0+omN (L.take j)+0:Nat):Int)->x1=((k0+omN (L.take j)+1:Nat):Int)->x2=((k0+omN (L.take j)+2:Nat):Int)->x3=((k0+omN (L.take j)+3:Nat):Int)->x4=((k0+omN (L.take j)+4:Nat):Int)->x5=((k0+omN (L.take j)+5:Nat):Int)->x6=((k0+omN (L.take j)+6:Nat):Int)->x7=((k0+omN (L.take j)+7:Nat):Int)->x8=((k0+omN (L.take j)+8:Nat):Int)->(wr.setCells q (j*10) [.int .i64 x0,.int .i64 x1,.int .i64 x2,.int .i64 x3,.int .i64 x4,.int .i64 x5,.int .i64 x6,.int .i64 x7,.int .i64 x8]).grownBy w2 (Value.slice L[j].a L[j].m.es.length L[j].c).ownBlock->MkE w2 L[j].a L[j].m.es.length (k0+omN (L.take j)+9)->MkJ w2 B q L k0 (j+1)/\Xf (msS (.slice (some ⟨q,0,none⟩) L.length c) L) w w2):=fun w2 x0 x1 x2 x3 x4 x5 x6 x7 x8 e0 e1 e2 e3 e4 e5 e6 e7 e8 hg hm=>by
    exact ⟨hJ.put hlt (hne q rfl) hap x0 x1 x2 x3 x4 x5 x6 x7 x8 e0 e1 e2 e3 e4 e5 e6 e7 e8 hg hm,hT.trans ((Xf.rows (Z2d _ _ _) (fun k e=>.inl e)).trans (Xf.rows hg fun k e=>HS0.out j hlt k e))⟩
   have HO:Hid (∀ u,(∀ k,(Value.slice L[j].a L[j].m.es.length L[j].c).ownBlock=some k->u.heap[k]? = wr.heap[k]?)->Zd u B (.slice L[j].a L[j].m.es.length L[j].c) L[j].m.es):=fun u hu=>(hJ.own j hlt (Nat.le_refl _)).block hu
   clear hP hJ hrow hT hmN HS0 hne hap hes;generalize L[j].m.es.length=pn at *;generalize L[j].m.es=pe at *;generalize L[j].a=pa at *;generalize L[j].c=pc at *;generalize omN (L.take j)=M at *
   go_wp2_with (go_at_call 45;go_loud (refine (Z3s _ (k0+M+9) (by omega) (by omega) (HO.out _ (fun k ek=>(by have hne:k≠q:=fun e=>HNE.out (by rw [ek,e]);rw [Below.heap_setCell _ _ _ _ (by simpa using hne),Below.heap_setCell _ _ _ _ (by simpa using hne),Below.heap_setCell _ _ _ _ (by simpa using hne),Below.heap_setCell _ _ _ _ (by simpa using hne),Below.heap_setCell _ _ _ _ (by simpa using hne),Below.heap_setCell _ _ _ _ (by simpa using hne),Below.heap_setCell _ _ _ _ (by simpa using hne),Below.heap_setCell _ _ _ _ (by simpa using hne),Below.heap_setCell _ _ _ _ (by simpa using hne)]))) (by omega)).mono ?_;rintro r w1 ⟨rfl,hm1,hg1⟩;have HH:Hid (MkJ w1 B q L k0 (j+1)/\Xf (msS (.slice (some ⟨q,0,none⟩) L.length c) L) w w1):=HM.out w1 _ _ _ _ _ _ _ _ _ (by omega) (by omega) (by omega) (by omega) (by omega) (by omega) (by omega) (by omega) (by omega) hg1 hm1;clear hg1 hm1))
   go_roundw
   case rel=>exact ⟨j+1,by omega,by go_num,by have:=HSt.out;go_num,fun q' e _=>(by simp only [Option.some.injEq,Addr.mk.injEq,and_true] at e;rw [<-e];exact HH.out.1),HH.out.2⟩
   case measure=>simp [intOf];omega
  ·obtain rfl:j=L.length:=by omega
   rw [List.take_length]
   have HM9:Hid (MkM wr a L k0):=fun h0=>by
    obtain ⟨q,e,-⟩:=hrow h0;have hJ:=hP q e h0;exact ⟨q,e,hJ.hq,fun i hi=>⟨(hJ.old i hi hi).1,hJ.c9 i hi,(hJ.old i hi hi).2⟩⟩
   go_wp2;go_ret;exact ⟨rfl,HM9.out,hT⟩
theorem heldMsgS_o (z:Int)(k0:Nat)(hz:z=(k0:Int))(hk0:k0<=10000000){a:Option Addr}{n c:Nat}{L:List Om}{w:World}(h:MkM w a L k0)(hn:n=L.length)(hl:L.length<=100)(hes:∀ p∈L,p.m.es.length<=32) :
  Calls Tryz.prog 50 #[.slice a n c,.int .i64 z] w fun r w'=>r=.returned (.int .i64 ((k0+omN L:Nat):Int))/\Below w.heap.size w w':=by
 subst hz;subst hn
 have hmN:∀ j,omN (L.take j)<=23300:=fun j=>by
  have h1:=Z4l L j;have h2:=omN_le L hes;omega
 go_enter Tryz.func50,Tryz.ntmps50;go_wp2
 go_loopw [1,5] (fun cc i wr=>∃ j:Nat,j<=L.length/\i=.int .i64 j/\cc=.int .i64 ((k0+omN (L.take j):Nat):Int)/\Below w.heap.size w wr) (fun _ i _=>L.length-(intOf i).toNat)
 case atStart=>exact ⟨0,Nat.zero_le _,rfl,by simp [omN],Below.refl _ _⟩
 case round=>
  obtain ⟨j,hj,rfl,rfl,hB⟩:=hrel;by_cases hlt:j<L.length
  ·obtain ⟨q,rfl,hq,hc⟩:=h.below hB (by omega)
   obtain ⟨h1,c9,hE⟩:=hc j hlt;have HSt:Hid (omN (L.take (j+1))=omN (L.take j)+(9+7*L[j].m.es.length)):=omN_take L j hlt;have hej:L[j].m.es.length<=32:=hes _ (List.getElem_mem hlt);have hmj:=hmN j;replace c9:wr.cell? ⟨q,j*10+9,none⟩=some (.slice L[j].a L[j].m.es.length L[j].c):=c9;have HE:Hid (∀ z,Below wr.heap.size wr z->MkE z L[j].a L[j].m.es.length (k0+omN (L.take j)+9)):=fun z hz=>hE.below hz
   have HB:Hid _:=hB;have hzz:=hB.size;clear h hc hmN hes hE hB;generalize L[j].m.es.length=pn at *;generalize L[j].a=pa at *;generalize L[j].c=pc at *;generalize omN (L.take j)=M at *
   have e0:wr.cell? ⟨q,j*10,none⟩=some (.int .i64 ((k0:Int)+M)):=by
    rw [show ((k0:Int)+M)=((k0+M+0:Nat):Int) by omega];exact h1 0 (by omega)
   have e1:wr.cell? ⟨q,j*10+1,none⟩=some (.int .i64 ((k0:Int)+M+1)):=by
    rw [show ((k0:Int)+M+1)=((k0+M+1:Nat):Int) by omega];exact h1 1 (by omega)
   have e2:wr.cell? ⟨q,j*10+2,none⟩=some (.int .i64 ((k0:Int)+M+1+1)):=by
    rw [show ((k0:Int)+M+1+1)=((k0+M+2:Nat):Int) by omega];exact h1 2 (by omega)
   have e3:wr.cell? ⟨q,j*10+3,none⟩=some (.int .i64 ((k0:Int)+M+1+1+1)):=by
    rw [show ((k0:Int)+M+1+1+1)=((k0+M+3:Nat):Int) by omega];exact h1 3 (by omega)
   have e4:wr.cell? ⟨q,j*10+4,none⟩=some (.int .i64 ((k0:Int)+M+1+1+1+1)):=by
    rw [show ((k0:Int)+M+1+1+1+1)=((k0+M+4:Nat):Int) by omega];exact h1 4 (by omega)
   have e5:wr.cell? ⟨q,j*10+5,none⟩=some (.int .i64 ((k0:Int)+M+1+1+1+1+1)):=by
    rw [show ((k0:Int)+M+1+1+1+1+1)=((k0+M+5:Nat):Int) by omega];exact h1 5 (by omega)
   have e6:wr.cell? ⟨q,j*10+6,none⟩=some (.int .i64 ((k0:Int)+M+1+1+1+1+1+1)):=by
    rw [show ((k0:Int)+M+1+1+1+1+1+1)=((k0+M+6:Nat):Int) by omega];exact h1 6 (by omega)
   have e7:wr.cell? ⟨q,j*10+7,none⟩=some (.int .i64 ((k0:Int)+M+1+1+1+1+1+1+1)):=by
    rw [show ((k0:Int)+M+1+1+1+1+1+1+1)=((k0+M+7:Nat):Int) by omega];exact h1 7 (by omega)
   have e8:wr.cell? ⟨q,j*10+8,none⟩=some (.int .i64 ((k0:Int)+M+1+1+1+1+1+1+1+1)):=by
    rw [show ((k0:Int)+M+1+1+1+1+1+1+1+1)=((k0+M+8:Nat):Int) by omega];exact h1 8 (by omega)
   clear h1
   have HK9:Hid (∀ z,Below wr.heap.size wr z->∀ y:Int,y=((k0+M+9:Nat):Int)->Calls Tryz.prog 90 #[.slice pa pn pc,.int .i64 y] z fun r w'=>r=.returned (.int .i64 ((k0:Int)+M+9+7*(pn:Int)))/\Below z.heap.size z w'):=fun z hz y hy=>by
    have h9:=Z33 y (k0+M+9) hy (by omega) (c:=pc) (HE.out z hz) (by omega);rw [show ((k0+M+9+7*pn:Nat):Int)=(k0:Int)+M+9+7*(pn:Int) by omega] at h9;exact h9
   have pz:¬((k0:Int)+M+9+7*(pn:Int)<0):=by omega
   go_wp2_with (go_at_call 90;refine Calls.mono (HK9.out _ (by first | exact Below.refl _ _ | exact (Below.refl _ _).drew) _ (by omega)) ?_;rintro r w1 ⟨rfl,hb1⟩;have HB1:Hid (Below w.heap.size w w1):=HB.out.trans (hb1.mono hzz);clear hb1)
   go_roundw
   case rel=>exact ⟨j+1,by omega,by go_num,by have:=HSt.out;go_num,HB1.out⟩
   case measure=>simp [intOf];omega
  ·obtain rfl:j=L.length:=by omega
   rw [List.take_length];go_wp2;go_ret;exact ⟨rfl,hB⟩
theorem Zd.lts {z:World}{B:Nat}{v:Value}{l:List Ent}(h:Zd z B v l)(k:Nat)(e:v.ownBlock=some k):B<=k/\k<z.heap.size:=World.ownsRow.lt h.2 k e
structure NdM (w:World) (a12 a13 a14 a15 a16 a17:Option Addr) (n12 n13 n14 n15 n16 n17:Nat):Prop where
 m12:MkE w a12 n12 1
 m13:MkN w a13 n13 (1+7*n12)
 m14:MkN w a14 n14 (1+7*n12+n13)
 m15:MkN w a15 n15 (1+7*n12+n13+n14)
 m16:MkN w a16 n16 (1+7*n12+n13+n14+n15)
 m17:MkN w a17 n17 (1+7*n12+n13+n14+n15+n16)
theorem NdM.below {w w':World}{a12 a13 a14 a15 a16 a17:Option Addr}{n12 n13 n14 n15 n16 n17:Nat}(h:NdM w a12 a13 a14 a15 a16 a17 n12 n13 n14 n15 n16 n17)(hb:Below w.heap.size w w'):NdM w' a12 a13 a14 a15 a16 a17 n12 n13 n14 n15 n16 n17:=⟨h.m12.below hb,h.m13.below hb,h.m14.below hb,h.m15.below hb,h.m16.below hb,h.m17.below hb⟩
theorem markNode_o (i0 i1 i2 i3 i4 i5 i6 i7 i8 i9 i10 i11:Int)(a12 a13 a14 a15 a16 a17:Option Addr)(n12 n13 n14 n15 n16 n17 c12 c13 c14 c15 c16 c17:Nat)(l12:List Ent)(l13 l14 l15 l16 l17:List Int)(w:World)(B:Nat)(o12:Zd w B (.slice a12 n12 c12) l12)(o13:Z6 inC 1 3 w B (.slice a13 n13 c13) l13)(o14:Z6 inC 1 3 w B (.slice a14 n14 c14) l14)(o15:Z6 inC 1 3 w B (.slice a15 n15 c15) l15)(o16:Z6 inC 1 3 w B (.slice a16 n16 c16) l16)(o17:Z6 inC 1 3 w B (.slice a17 n17 c17) l17)(hp:([.slice a12 n12 c12,.slice a13 n13 c13,.slice a14 n14 c14,.slice a15 n15 c15,.slice a16 n16 c16,.slice a17 n17 c17]:List Value).Pairwise Zz)(b12:n12<=1048576)(b13:n13<=1048576)(b14:n14<=1048576)(b15:n15<=1048576)(b16:n16<=1048576)(b17:n17<=1048576) :
  Calls Tryz.prog 16 #[.agg #[.int .i64 i0,.int .i64 i1,.int .i64 i2,.int .i64 i3,.int .i64 i4,.int .i64 i5,.int .i64 i6,.int .i64 i7,.int .i64 i8,.int .i64 i9,.int .i64 i10,.int .i64 i11,.slice a12 n12 c12,.slice a13 n13 c13,.slice a14 n14 c14,.slice a15 n15 c15,.slice a16 n16 c16,.slice a17 n17 c17],.int .i64 1] w fun r w'=>r=.returned (.int .i64 ((1+7*n12+n13+n14+n15+n16+n17:Nat):Int))/\NdM w' a12 a13 a14 a15 a16 a17 n12 n13 n14 n15 n16 n17/\Xf (fun k=>∃ v∈([.slice a12 n12 c12,.slice a13 n13 c13,.slice a14 n14 c14,.slice a15 n15 c15,.slice a16 n16 c16,.slice a17 n17 c17]:List Value),v.ownBlock=some k) w w':=by
 have HP:Hid (([.slice a12 n12 c12,.slice a13 n13 c13,.slice a14 n14 c14,.slice a15 n15 c15,.slice a16 n16 c16,.slice a17 n17 c17]:List Value).Pairwise Zz):=hp;have L12:Hid (∀ k,(Value.slice a12 n12 c12).ownBlock=some k->k<w.heap.size):=fun k e=>(o12.lts k e).2
 have L13:Hid (∀ k,(Value.slice a13 n13 c13).ownBlock=some k->k<w.heap.size):=fun k e=>(o13.lts k e).2
 have L14:Hid (∀ k,(Value.slice a14 n14 c14).ownBlock=some k->k<w.heap.size):=fun k e=>(o14.lts k e).2
 have L15:Hid (∀ k,(Value.slice a15 n15 c15).ownBlock=some k->k<w.heap.size):=fun k e=>(o15.lts k e).2
 have L16:Hid (∀ k,(Value.slice a16 n16 c16).ownBlock=some k->k<w.heap.size):=fun k e=>(o16.lts k e).2
 have L17:Hid (∀ k,(Value.slice a17 n17 c17).ownBlock=some k->k<w.heap.size):=fun k e=>(o17.lts k e).2
 obtain ⟨W,hW⟩:∃ W,W=w.alloc (.cells #[.int .i64 i0,.int .i64 i1,.int .i64 i2,.int .i64 i3,.int .i64 i4,.int .i64 i5,.int .i64 i6,.int .i64 i7,.int .i64 i8,.int .i64 i9,.int .i64 i10,.int .i64 i11,.slice a12 n12 c12,.slice a13 n13 c13,.slice a14 n14 c14,.slice a15 n15 c15,.slice a16 n16 c16,.slice a17 n17 c17] 36):=⟨_,rfl⟩;have O12:Hid (Zd W B (.slice a12 n12 c12) l12):=by rw [hW];exact o12.below ((Below.refl _ _).alloc (Nat.le_refl _) _)
 have O13:Hid (Z6 inC 1 3 W B (.slice a13 n13 c13) l13):=by rw [hW];exact o13.below ((Below.refl _ _).alloc (Nat.le_refl _) _)
 have O14:Hid (Z6 inC 1 3 W B (.slice a14 n14 c14) l14):=by rw [hW];exact o14.below ((Below.refl _ _).alloc (Nat.le_refl _) _)
 have O15:Hid (Z6 inC 1 3 W B (.slice a15 n15 c15) l15):=by rw [hW];exact o15.below ((Below.refl _ _).alloc (Nat.le_refl _) _)
 have O16:Hid (Z6 inC 1 3 W B (.slice a16 n16 c16) l16):=by rw [hW];exact o16.below ((Below.refl _ _).alloc (Nat.le_refl _) _)
 have O17:Hid (Z6 inC 1 3 W B (.slice a17 n17 c17) l17):=by rw [hW];exact o17.below ((Below.refl _ _).alloc (Nat.le_refl _) _)
 have BA:Hid (Blk W w.heap.size #[.int .i64 i0,.int .i64 i1,.int .i64 i2,.int .i64 i3,.int .i64 i4,.int .i64 i5,.int .i64 i6,.int .i64 i7,.int .i64 i8,.int .i64 i9,.int .i64 i10,.int .i64 i11,.slice a12 n12 c12,.slice a13 n13 c13,.slice a14 n14 c14,.slice a15 n15 c15,.slice a16 n16 c16,.slice a17 n17 c17] 36):=by rw [hW];exact Blk.new _ _ _
 have cA:=BA.out.cell;have HT:Hid (Xf (fun k=>∃ v∈([.slice a12 n12 c12,.slice a13 n13 c13,.slice a14 n14 c14,.slice a15 n15 c15,.slice a16 n16 c16,.slice a17 n17 c17]:List Value),v.ownBlock=some k) w W):=by rw [hW];exact Xf.of_below ((Below.refl _ _).alloc (Nat.le_refl _) _)
 have HWs:w.heap.size<W.heap.size:=by rw [hW];simp
 obtain ⟨K1,hK1⟩:∃ K:Nat,K=(1+7*n12):=⟨_,rfl⟩;obtain ⟨K2,hK2⟩:∃ K:Nat,K=(1+7*n12+n13):=⟨_,rfl⟩;obtain ⟨K3,hK3⟩:∃ K:Nat,K=(1+7*n12+n13+n14):=⟨_,rfl⟩;obtain ⟨K4,hK4⟩:∃ K:Nat,K=(1+7*n12+n13+n14+n15):=⟨_,rfl⟩;obtain ⟨K5,hK5⟩:∃ K:Nat,K=(1+7*n12+n13+n14+n15+n16):=⟨_,rfl⟩;obtain ⟨K6,hK6⟩:∃ K:Nat,K=(1+7*n12+n13+n14+n15+n16+n17):=⟨_,rfl⟩;rw [<-hK6];have HKs:Hid (K1=(1+7*n12)/\K2=(1+7*n12+n13)/\K3=(1+7*n12+n13+n14)/\K4=(1+7*n12+n13+n14+n15)/\K5=(1+7*n12+n13+n14+n15+n16)/\K6=(1+7*n12+n13+n14+n15+n16+n17)):=⟨hK1,hK2,hK3,hK4,hK5,hK6⟩;have hKb:K1<=20000000/\K2<=20000000/\K3<=20000000/\K4<=20000000/\K5<=20000000:=by omega
 have r1:Hid (K1=1+7*n12):=hK1;have r2:Hid (K2=K1+n13):=show K2=K1+n13 by omega
 have r3:Hid (K3=K2+n14):=show K3=K2+n14 by omega
 have r4:Hid (K4=K3+n15):=show K4=K3+n15 by omega
 have r5:Hid (K5=K4+n16):=show K5=K4+n16 by omega
 have r6:Hid (K6=K5+n17):=show K6=K5+n17 by omega
 obtain ⟨q1,q2,q3,q4,q5⟩:=hKb;have g1:True:=trivial;have g2:True:=trivial;have g3:True:=trivial;have g4:True:=trivial;have g5:True:=trivial;clear o12 o13 o14 o15 o16 o17 hp hK1 hK2 hK3 hK4 hK5 hK6;go_enter Tryz.func16,Tryz.ntmps16
 go_upto_region 1 with fail
 rw [<-hW];clear hW
 go_wp2_with (first
  |(go_at_call 45;refine Calls.mono (Z3s _ 1 (by first | rfl | omega) (by omega) O12.out b12) ?_;rw [<-r1.out];rintro e w1 ⟨rfl,hm,hg⟩;have z1:W.heap.size<=w1.heap.size:=hg.size;replace O13:Hid (Z6 inC 1 3 w1 B (.slice a13 n13 c13) l13):=O13.out.block (fun k e=>hg.block k (O13.out.lts k e).2 (fun e'=>(Z8 HP.out 0 1 (by omega) rfl rfl) k e'.symm e));replace O14:Hid (Z6 inC 1 3 w1 B (.slice a14 n14 c14) l14):=O14.out.block (fun k e=>hg.block k (O14.out.lts k e).2 (fun e'=>(Z8 HP.out 0 2 (by omega) rfl rfl) k e'.symm e));replace O15:Hid (Z6 inC 1 3 w1 B (.slice a15 n15 c15) l15):=O15.out.block (fun k e=>hg.block k (O15.out.lts k e).2 (fun e'=>(Z8 HP.out 0 3 (by omega) rfl rfl) k e'.symm e));replace O16:Hid (Z6 inC 1 3 w1 B (.slice a16 n16 c16) l16):=O16.out.block (fun k e=>hg.block k (O16.out.lts k e).2 (fun e'=>(Z8 HP.out 0 4 (by omega) rfl rfl) k e'.symm e));replace O17:Hid (Z6 inC 1 3 w1 B (.slice a17 n17 c17) l17):=O17.out.block (fun k e=>hg.block k (O17.out.lts k e).2 (fun e'=>(Z8 HP.out 0 5 (by omega) rfl rfl) k e'.symm e));have M12:Hid (MkE w1 a12 n12 1):=hm;replace BA:Hid (Blk w1 w.heap.size _ 36):=BA.out.keep (hg.block _ (by omega) (fun e'=>by have:=L12.out _ e'.symm;omega));replace cA:=BA.out.cell;replace HT:Hid (Xf (fun k=>∃ v∈([.slice a12 n12 c12,.slice a13 n13 c13,.slice a14 n14 c14,.slice a15 n15 c15,.slice a16 n16 c16,.slice a17 n17 c17]:List Value),v.ownBlock=some k) w w1):=HT.out.trans (Xf.rows hg fun k e=>⟨_,by simp,e⟩);clear hm hg O12)
  |(go_at_call 46;clear g1;refine Calls.mono (Z14 _ K1 (by first | rfl | omega) (by omega) O13.out b13) ?_;rw [<-r2.out];rintro e w2 ⟨rfl,hm,hg⟩;have z2:w1.heap.size<=w2.heap.size:=hg.size;replace O14:Hid (Z6 inC 1 3 w2 B (.slice a14 n14 c14) l14):=O14.out.block (fun k e=>hg.block k (O14.out.lts k e).2 (fun e'=>(Z8 HP.out 1 2 (by omega) rfl rfl) k e'.symm e));replace O15:Hid (Z6 inC 1 3 w2 B (.slice a15 n15 c15) l15):=O15.out.block (fun k e=>hg.block k (O15.out.lts k e).2 (fun e'=>(Z8 HP.out 1 3 (by omega) rfl rfl) k e'.symm e));replace O16:Hid (Z6 inC 1 3 w2 B (.slice a16 n16 c16) l16):=O16.out.block (fun k e=>hg.block k (O16.out.lts k e).2 (fun e'=>(Z8 HP.out 1 4 (by omega) rfl rfl) k e'.symm e));replace O17:Hid (Z6 inC 1 3 w2 B (.slice a17 n17 c17) l17):=O17.out.block (fun k e=>hg.block k (O17.out.lts k e).2 (fun e'=>(Z8 HP.out 1 5 (by omega) rfl rfl) k e'.symm e));replace M12:Hid (MkE w2 a12 n12 1):=M12.out.keep (c:=c12) (fun k e hk=>hg.block k hk (fun e'=>(Z8 HP.out 0 1 (by omega) rfl rfl) k e e'.symm));have M13:Hid (MkN w2 a13 n13 K1):=hm;replace BA:Hid (Blk w2 w.heap.size _ 36):=BA.out.keep (hg.block _ (by omega) (fun e'=>by have:=L13.out _ e'.symm;omega));replace cA:=BA.out.cell;replace HT:Hid (Xf (fun k=>∃ v∈([.slice a12 n12 c12,.slice a13 n13 c13,.slice a14 n14 c14,.slice a15 n15 c15,.slice a16 n16 c16,.slice a17 n17 c17]:List Value),v.ownBlock=some k) w w2):=HT.out.trans (Xf.rows hg fun k e=>⟨_,by simp,e⟩);clear hm hg O13)
  |(go_at_call 46;clear g2;refine Calls.mono (Z14 _ K2 (by first | rfl | omega) (by omega) O14.out b14) ?_;rw [<-r3.out];rintro e w3 ⟨rfl,hm,hg⟩;have z3:w2.heap.size<=w3.heap.size:=hg.size;replace O15:Hid (Z6 inC 1 3 w3 B (.slice a15 n15 c15) l15):=O15.out.block (fun k e=>hg.block k (O15.out.lts k e).2 (fun e'=>(Z8 HP.out 2 3 (by omega) rfl rfl) k e'.symm e));replace O16:Hid (Z6 inC 1 3 w3 B (.slice a16 n16 c16) l16):=O16.out.block (fun k e=>hg.block k (O16.out.lts k e).2 (fun e'=>(Z8 HP.out 2 4 (by omega) rfl rfl) k e'.symm e));replace O17:Hid (Z6 inC 1 3 w3 B (.slice a17 n17 c17) l17):=O17.out.block (fun k e=>hg.block k (O17.out.lts k e).2 (fun e'=>(Z8 HP.out 2 5 (by omega) rfl rfl) k e'.symm e));replace M12:Hid (MkE w3 a12 n12 1):=M12.out.keep (c:=c12) (fun k e hk=>hg.block k hk (fun e'=>(Z8 HP.out 0 2 (by omega) rfl rfl) k e e'.symm));replace M13:Hid (MkN w3 a13 n13 K1):=M13.out.keep (c:=c13) (fun k e hk=>hg.block k hk (fun e'=>(Z8 HP.out 1 2 (by omega) rfl rfl) k e e'.symm));have M14:Hid (MkN w3 a14 n14 K2):=hm;replace BA:Hid (Blk w3 w.heap.size _ 36):=BA.out.keep (hg.block _ (by omega) (fun e'=>by have:=L14.out _ e'.symm;omega));replace cA:=BA.out.cell;replace HT:Hid (Xf (fun k=>∃ v∈([.slice a12 n12 c12,.slice a13 n13 c13,.slice a14 n14 c14,.slice a15 n15 c15,.slice a16 n16 c16,.slice a17 n17 c17]:List Value),v.ownBlock=some k) w w3):=HT.out.trans (Xf.rows hg fun k e=>⟨_,by simp,e⟩);clear hm hg O14)
  |(go_at_call 46;clear g3;refine Calls.mono (Z14 _ K3 (by first | rfl | omega) (by omega) O15.out b15) ?_;rw [<-r4.out];rintro e w4 ⟨rfl,hm,hg⟩;have z4:w3.heap.size<=w4.heap.size:=hg.size;replace O16:Hid (Z6 inC 1 3 w4 B (.slice a16 n16 c16) l16):=O16.out.block (fun k e=>hg.block k (O16.out.lts k e).2 (fun e'=>(Z8 HP.out 3 4 (by omega) rfl rfl) k e'.symm e));replace O17:Hid (Z6 inC 1 3 w4 B (.slice a17 n17 c17) l17):=O17.out.block (fun k e=>hg.block k (O17.out.lts k e).2 (fun e'=>(Z8 HP.out 3 5 (by omega) rfl rfl) k e'.symm e));replace M12:Hid (MkE w4 a12 n12 1):=M12.out.keep (c:=c12) (fun k e hk=>hg.block k hk (fun e'=>(Z8 HP.out 0 3 (by omega) rfl rfl) k e e'.symm));replace M13:Hid (MkN w4 a13 n13 K1):=M13.out.keep (c:=c13) (fun k e hk=>hg.block k hk (fun e'=>(Z8 HP.out 1 3 (by omega) rfl rfl) k e e'.symm));replace M14:Hid (MkN w4 a14 n14 K2):=M14.out.keep (c:=c14) (fun k e hk=>hg.block k hk (fun e'=>(Z8 HP.out 2 3 (by omega) rfl rfl) k e e'.symm));have M15:Hid (MkN w4 a15 n15 K3):=hm;replace BA:Hid (Blk w4 w.heap.size _ 36):=BA.out.keep (hg.block _ (by omega) (fun e'=>by have:=L15.out _ e'.symm;omega));replace cA:=BA.out.cell;replace HT:Hid (Xf (fun k=>∃ v∈([.slice a12 n12 c12,.slice a13 n13 c13,.slice a14 n14 c14,.slice a15 n15 c15,.slice a16 n16 c16,.slice a17 n17 c17]:List Value),v.ownBlock=some k) w w4):=HT.out.trans (Xf.rows hg fun k e=>⟨_,by simp,e⟩);clear hm hg O15)
  |(go_at_call 46;clear g4;refine Calls.mono (Z14 _ K4 (by first | rfl | omega) (by omega) O16.out b16) ?_;rw [<-r5.out];rintro e w5 ⟨rfl,hm,hg⟩;have z5:w4.heap.size<=w5.heap.size:=hg.size;replace O17:Hid (Z6 inC 1 3 w5 B (.slice a17 n17 c17) l17):=O17.out.block (fun k e=>hg.block k (O17.out.lts k e).2 (fun e'=>(Z8 HP.out 4 5 (by omega) rfl rfl) k e'.symm e));replace M12:Hid (MkE w5 a12 n12 1):=M12.out.keep (c:=c12) (fun k e hk=>hg.block k hk (fun e'=>(Z8 HP.out 0 4 (by omega) rfl rfl) k e e'.symm));replace M13:Hid (MkN w5 a13 n13 K1):=M13.out.keep (c:=c13) (fun k e hk=>hg.block k hk (fun e'=>(Z8 HP.out 1 4 (by omega) rfl rfl) k e e'.symm));replace M14:Hid (MkN w5 a14 n14 K2):=M14.out.keep (c:=c14) (fun k e hk=>hg.block k hk (fun e'=>(Z8 HP.out 2 4 (by omega) rfl rfl) k e e'.symm));replace M15:Hid (MkN w5 a15 n15 K3):=M15.out.keep (c:=c15) (fun k e hk=>hg.block k hk (fun e'=>(Z8 HP.out 3 4 (by omega) rfl rfl) k e e'.symm));have M16:Hid (MkN w5 a16 n16 K4):=hm;replace BA:Hid (Blk w5 w.heap.size _ 36):=BA.out.keep (hg.block _ (by omega) (fun e'=>by have:=L16.out _ e'.symm;omega));replace cA:=BA.out.cell;replace HT:Hid (Xf (fun k=>∃ v∈([.slice a12 n12 c12,.slice a13 n13 c13,.slice a14 n14 c14,.slice a15 n15 c15,.slice a16 n16 c16,.slice a17 n17 c17]:List Value),v.ownBlock=some k) w w5):=HT.out.trans (Xf.rows hg fun k e=>⟨_,by simp,e⟩);clear hm hg O16)
  |(go_at_call 46;clear g5;refine Calls.mono (Z14 _ K5 (by first | rfl | omega) (by omega) O17.out b17) ?_;rw [<-r6.out];rintro e w6 ⟨rfl,hm,hg⟩;have z6:w5.heap.size<=w6.heap.size:=hg.size;replace M12:Hid (MkE w6 a12 n12 1):=M12.out.keep (c:=c12) (fun k e hk=>hg.block k hk (fun e'=>(Z8 HP.out 0 5 (by omega) rfl rfl) k e e'.symm));replace M13:Hid (MkN w6 a13 n13 K1):=M13.out.keep (c:=c13) (fun k e hk=>hg.block k hk (fun e'=>(Z8 HP.out 1 5 (by omega) rfl rfl) k e e'.symm));replace M14:Hid (MkN w6 a14 n14 K2):=M14.out.keep (c:=c14) (fun k e hk=>hg.block k hk (fun e'=>(Z8 HP.out 2 5 (by omega) rfl rfl) k e e'.symm));replace M15:Hid (MkN w6 a15 n15 K3):=M15.out.keep (c:=c15) (fun k e hk=>hg.block k hk (fun e'=>(Z8 HP.out 3 5 (by omega) rfl rfl) k e e'.symm));replace M16:Hid (MkN w6 a16 n16 K4):=M16.out.keep (c:=c16) (fun k e hk=>hg.block k hk (fun e'=>(Z8 HP.out 4 5 (by omega) rfl rfl) k e e'.symm));have M17:Hid (MkN w6 a17 n17 K5):=hm;replace BA:Hid (Blk w6 w.heap.size _ 36):=BA.out.keep (hg.block _ (by omega) (fun e'=>by have:=L17.out _ e'.symm;omega));replace cA:=BA.out.cell;replace HT:Hid (Xf (fun k=>∃ v∈([.slice a12 n12 c12,.slice a13 n13 c13,.slice a14 n14 c14,.slice a15 n15 c15,.slice a16 n16 c16,.slice a17 n17 c17]:List Value),v.ownBlock=some k) w w6):=HT.out.trans (Xf.rows hg fun k e=>⟨_,by simp,e⟩);clear hm hg O17))
 go_ret;have HK9:=HKs.out;refine ⟨rfl,⟨M12.out,(by rw [<-HK9.1];exact M13.out),(by rw [<-HK9.2.1];exact M14.out),(by rw [<-HK9.2.2.1];exact M15.out),(by rw [<-HK9.2.2.2.1];exact M16.out),(by rw [<-HK9.2.2.2.2.1];exact M17.out)⟩,HT.out⟩
theorem heldNode_o (i0 i1 i2 i3 i4 i5 i6 i7 i8 i9 i10 i11:Int)(a12 a13 a14 a15 a16 a17:Option Addr)(n12 n13 n14 n15 n16 n17 c12 c13 c14 c15 c16 c17:Nat)(w:World)(h:NdM w a12 a13 a14 a15 a16 a17 n12 n13 n14 n15 n16 n17)(b12:n12<=1048576)(b13:n13<=1048576)(b14:n14<=1048576)(b15:n15<=1048576)(b16:n16<=1048576)(b17:n17<=1048576) :
  Calls Tryz.prog 49 #[.agg #[.int .i64 i0,.int .i64 i1,.int .i64 i2,.int .i64 i3,.int .i64 i4,.int .i64 i5,.int .i64 i6,.int .i64 i7,.int .i64 i8,.int .i64 i9,.int .i64 i10,.int .i64 i11,.slice a12 n12 c12,.slice a13 n13 c13,.slice a14 n14 c14,.slice a15 n15 c15,.slice a16 n16 c16,.slice a17 n17 c17],.int .i64 1] w fun r w'=>r=.returned (.int .i64 ((1+7*n12+n13+n14+n15+n16+n17:Nat):Int))/\Below w.heap.size w w':=by
 obtain ⟨K1,hK1⟩:∃ K:Nat,K=(1+7*n12):=⟨_,rfl⟩;obtain ⟨K2,hK2⟩:∃ K:Nat,K=(1+7*n12+n13):=⟨_,rfl⟩;obtain ⟨K3,hK3⟩:∃ K:Nat,K=(1+7*n12+n13+n14):=⟨_,rfl⟩;obtain ⟨K4,hK4⟩:∃ K:Nat,K=(1+7*n12+n13+n14+n15):=⟨_,rfl⟩;obtain ⟨K5,hK5⟩:∃ K:Nat,K=(1+7*n12+n13+n14+n15+n16):=⟨_,rfl⟩;obtain ⟨K6,hK6⟩:∃ K:Nat,K=(1+7*n12+n13+n14+n15+n16+n17):=⟨_,rfl⟩;rw [<-hK6];have M12:Hid (∀ z,Below w.heap.size w z->MkE z a12 n12 1):=fun z hz=>by exact (h.below hz).m12
 have M13:Hid (∀ z,Below w.heap.size w z->MkN z a13 n13 K1):=fun z hz=>by rw [hK1];exact (h.below hz).m13
 have M14:Hid (∀ z,Below w.heap.size w z->MkN z a14 n14 K2):=fun z hz=>by rw [hK2];exact (h.below hz).m14
 have M15:Hid (∀ z,Below w.heap.size w z->MkN z a15 n15 K3):=fun z hz=>by rw [hK3];exact (h.below hz).m15
 have M16:Hid (∀ z,Below w.heap.size w z->MkN z a16 n16 K4):=fun z hz=>by rw [hK4];exact (h.below hz).m16
 have M17:Hid (∀ z,Below w.heap.size w z->MkN z a17 n17 K5):=fun z hz=>by rw [hK5];exact (h.below hz).m17
 have r1:Hid (K1=1+7*n12):=hK1;have r2:Hid (K2=K1+n13):=show K2=K1+n13 by omega
 have r3:Hid (K3=K2+n14):=show K3=K2+n14 by omega
 have r4:Hid (K4=K3+n15):=show K4=K3+n15 by omega
 have r5:Hid (K5=K4+n16):=show K5=K4+n16 by omega
 have r6:Hid (K6=K5+n17):=show K6=K5+n17 by omega
 have q1:K1<=20000000/\K2<=20000000/\K3<=20000000/\K4<=20000000/\K5<=20000000:=by omega
 have p1:¬((K1:Int)<0):=by omega
 have p2:¬((K2:Int)<0):=by omega
 have p3:¬((K3:Int)<0):=by omega
 have p4:¬((K4:Int)<0):=by omega
 have p5:¬((K5:Int)<0):=by omega
 have p6:¬((K6:Int)<0):=by omega
 clear h hK1 hK2 hK3 hK4 hK5 hK6;have HB:Hid (Below w.heap.size w (w.alloc (.cells #[.int .i64 i0,.int .i64 i1,.int .i64 i2,.int .i64 i3,.int .i64 i4,.int .i64 i5,.int .i64 i6,.int .i64 i7,.int .i64 i8,.int .i64 i9,.int .i64 i10,.int .i64 i11,.slice a12 n12 c12,.slice a13 n13 c13,.slice a14 n14 c14,.slice a15 n15 c15,.slice a16 n16 c16,.slice a17 n17 c17] 36))):=(Below.refl _ _).alloc (Nat.le_refl _) _;have g1:True:=trivial;have g2:True:=trivial;have g3:True:=trivial;have g4:True:=trivial;have g5:True:=trivial;go_enter Tryz.func49,Tryz.ntmps49
 go_wp2_with (first
  |(go_at_call 90;refine Calls.mono (Z33 _ 1 (by first | rfl | omega) (by omega) (M12.out _ HB.out) b12) ?_;rw [<-r1.out];rintro e w1 ⟨rfl,hb⟩;have BA:Hid (Blk w1 w.heap.size _ 36):=(Blk.new w _ _).below hb (by simp);have z1:w.heap.size<w1.heap.size:=BA.out.lt;have cA:=BA.out.cell;replace HB:Hid (Below w.heap.size w w1):=HB.out.trans (hb.mono HB.out.size);clear hb)
  |(go_at_call 91;clear g1;refine Calls.mono (Z13 _ K1 (by first | rfl | omega) (by omega) (M13.out _ HB.out) b13) ?_;rw [<-r2.out];rintro e w2 ⟨rfl,hb⟩;replace BA:Hid (Blk w2 w.heap.size _ 36):=BA.out.below hb BA.out.lt;have z2:w.heap.size<w2.heap.size:=BA.out.lt;replace cA:=BA.out.cell;replace HB:Hid (Below w.heap.size w w2):=HB.out.trans (hb.mono HB.out.size);clear hb)
  |(go_at_call 91;clear g2;refine Calls.mono (Z13 _ K2 (by first | rfl | omega) (by omega) (M14.out _ HB.out) b14) ?_;rw [<-r3.out];rintro e w3 ⟨rfl,hb⟩;replace BA:Hid (Blk w3 w.heap.size _ 36):=BA.out.below hb BA.out.lt;have z3:w.heap.size<w3.heap.size:=BA.out.lt;replace cA:=BA.out.cell;replace HB:Hid (Below w.heap.size w w3):=HB.out.trans (hb.mono HB.out.size);clear hb)
  |(go_at_call 91;clear g3;refine Calls.mono (Z13 _ K3 (by first | rfl | omega) (by omega) (M15.out _ HB.out) b15) ?_;rw [<-r4.out];rintro e w4 ⟨rfl,hb⟩;replace BA:Hid (Blk w4 w.heap.size _ 36):=BA.out.below hb BA.out.lt;have z4:w.heap.size<w4.heap.size:=BA.out.lt;replace cA:=BA.out.cell;replace HB:Hid (Below w.heap.size w w4):=HB.out.trans (hb.mono HB.out.size);clear hb)
  |(go_at_call 91;clear g4;refine Calls.mono (Z13 _ K4 (by first | rfl | omega) (by omega) (M16.out _ HB.out) b16) ?_;rw [<-r5.out];rintro e w5 ⟨rfl,hb⟩;replace BA:Hid (Blk w5 w.heap.size _ 36):=BA.out.below hb BA.out.lt;have z5:w.heap.size<w5.heap.size:=BA.out.lt;replace cA:=BA.out.cell;replace HB:Hid (Below w.heap.size w w5):=HB.out.trans (hb.mono HB.out.size);clear hb)
  |(go_at_call 91;clear g5;refine Calls.mono (Z13 _ K5 (by first | rfl | omega) (by omega) (M17.out _ HB.out) b17) ?_;rw [<-r6.out];rintro e w6 ⟨rfl,hb⟩;replace BA:Hid (Blk w6 w.heap.size _ 36):=BA.out.below hb BA.out.lt;have z6:w.heap.size<w6.heap.size:=BA.out.lt;replace cA:=BA.out.cell;replace HB:Hid (Below w.heap.size w w6):=HB.out.trans (hb.mono HB.out.size);clear hb))
 go_ret;exact ⟨rfl,HB.out⟩
theorem Z00:(Tryz.prog.info? 39).map (·.size)=some 21:=by kernel_rfl
theorem Z2l:(Tryz.prog.info? 36).map (·.size)=some 18:=by kernel_rfl
def ansS (L:List Om)(vs:List Value)(vo:Value)(k:Nat):Prop:=(∃ v∈vs,v.ownBlock=some k)∨msS vo L k
theorem Z4a (cd dw:Int)(i0 i1 i2 i3 i4 i5 i6 i7 i8 i9 i10 i11:Int)(a12 a13 a14 a15 a16 a17:Option Addr)(n12 n13 n14 n15 n16 n17 c12 c13 c14 c15 c16 c17:Nat)(oa:Option Addr)(on oc:Nat)(l12:List Ent)(l13 l14 l15 l16 l17:List Int)(L:List Om)(w:World)(B:Nat)(o12:Zd w B (.slice a12 n12 c12) l12)(o13:Z6 inC 1 3 w B (.slice a13 n13 c13) l13)(o14:Z6 inC 1 3 w B (.slice a14 n14 c14) l14)(o15:Z6 inC 1 3 w B (.slice a15 n15 c15) l15)(o16:Z6 inC 1 3 w B (.slice a16 n16 c16) l16)(o17:Z6 inC 1 3 w B (.slice a17 n17 c17) l17)(oo:Z6 omC 10 43 w B (.slice oa on oc) L)(oe:∀ p∈L,Zd w B p.v p.m.es)(hp:([.slice a12 n12 c12,.slice a13 n13 c13,.slice a14 n14 c14,.slice a15 n15 c15,.slice a16 n16 c16,.slice a17 n17 c17]:List Value).Pairwise Zz)(hpe:(Value.slice a12 n12 c12 :: L.map Om.v).Pairwise Zz)(b12:n12<=1048576)(b13:n13<=1048576)(b14:n14<=1048576)(b15:n15<=1048576)(b16:n16<=1048576)(b17:n17<=1048576)(hl:L.length<=100)(hes:∀ p∈L,p.m.es.length<=32)(hk:(1+7*n12+n13+n14+n15+n16+n17)<=10000000) :
  Calls Tryz.prog 18 #[.agg #[.int .i64 cd,.int .i64 dw,.int .i64 i0,.int .i64 i1,.int .i64 i2,.int .i64 i3,.int .i64 i4,.int .i64 i5,.int .i64 i6,.int .i64 i7,.int .i64 i8,.int .i64 i9,.int .i64 i10,.int .i64 i11,.slice a12 n12 c12,.slice a13 n13 c13,.slice a14 n14 c14,.slice a15 n15 c15,.slice a16 n16 c16,.slice a17 n17 c17,.slice oa on oc],.int .i64 1] w fun r w'=>r=.returned (.int .i64 ((1+7*n12+n13+n14+n15+n16+n17+omN L:Nat):Int))/\(NdM w' a12 a13 a14 a15 a16 a17 n12 n13 n14 n15 n16 n17/\MkM w' oa L (1+7*n12+n13+n14+n15+n16+n17))/\Xf (ansS L ([.slice a12 n12 c12,.slice a13 n13 c13,.slice a14 n14 c14,.slice a15 n15 c15,.slice a16 n16 c16,.slice a17 n17 c17]:List Value) (.slice oa on oc)) w w':=by
 have HN:Hid (∀ z,Below w.heap.size w z->Calls Tryz.prog 16 #[.agg #[.int .i64 i0,.int .i64 i1,.int .i64 i2,.int .i64 i3,.int .i64 i4,.int .i64 i5,.int .i64 i6,.int .i64 i7,.int .i64 i8,.int .i64 i9,.int .i64 i10,.int .i64 i11,.slice a12 n12 c12,.slice a13 n13 c13,.slice a14 n14 c14,.slice a15 n15 c15,.slice a16 n16 c16,.slice a17 n17 c17],.int .i64 1] z fun r w'=>r=.returned (.int .i64 ((1+7*n12+n13+n14+n15+n16+n17:Nat):Int))/\NdM w' a12 a13 a14 a15 a16 a17 n12 n13 n14 n15 n16 n17/\Xf (fun k=>∃ v∈([.slice a12 n12 c12,.slice a13 n13 c13,.slice a14 n14 c14,.slice a15 n15 c15,.slice a16 n16 c16,.slice a17 n17 c17]:List Value),v.ownBlock=some k) z w'):=fun z hz=>markNode_o i0 i1 i2 i3 i4 i5 i6 i7 i8 i9 i10 i11 a12 a13 a14 a15 a16 a17 n12 n13 n14 n15 n16 n17 c12 c13 c14 c15 c16 c17 l12 l13 l14 l15 l16 l17 z B (o12.below hz) (o13.below hz) (o14.below hz) (o15.below hz) (o16.below hz) (o17.below hz) hp b12 b13 b14 b15 b16 b17
 have hM1:∀ v∈([.slice a12 n12 c12,.slice a13 n13 c13,.slice a14 n14 c14,.slice a15 n15 c15,.slice a16 n16 c16,.slice a17 n17 c17]:List Value),∀ k,v.ownBlock=some k->¬ msS (.slice oa on oc) L k:=fun v hv k e=>by
  rintro (h | ⟨p,hp',h⟩)
  ·obtain ⟨cur,s,h1⟩:=Xi oo h
   simp only [List.mem_cons,List.not_mem_nil,or_false] at hv;rcases hv with rfl | rfl | rfl | rfl | rfl | rfl
   ·obtain ⟨cur2,s2,h2⟩:=Z3h o12 e
    rw [h1] at h2;simp only [Option.some.injEq,Obj.cells.injEq] at h2;exact absurd h2.2.1 (by decide)
   ·obtain ⟨cur2,s2,h2⟩:=Xi o13 e
    rw [h1] at h2;simp only [Option.some.injEq,Obj.cells.injEq] at h2;exact absurd h2.2.1 (by decide)
   ·obtain ⟨cur2,s2,h2⟩:=Xi o14 e
    rw [h1] at h2;simp only [Option.some.injEq,Obj.cells.injEq] at h2;exact absurd h2.2.1 (by decide)
   ·obtain ⟨cur2,s2,h2⟩:=Xi o15 e
    rw [h1] at h2;simp only [Option.some.injEq,Obj.cells.injEq] at h2;exact absurd h2.2.1 (by decide)
   ·obtain ⟨cur2,s2,h2⟩:=Xi o16 e
    rw [h1] at h2;simp only [Option.some.injEq,Obj.cells.injEq] at h2;exact absurd h2.2.1 (by decide)
   ·obtain ⟨cur2,s2,h2⟩:=Xi o17 e
    rw [h1] at h2;simp only [Option.some.injEq,Obj.cells.injEq] at h2;exact absurd h2.2.1 (by decide)
  ·obtain ⟨cur,s,h1⟩:=Z3h (oe p hp') h
   simp only [List.mem_cons,List.not_mem_nil,or_false] at hv;rcases hv with rfl | rfl | rfl | rfl | rfl | rfl
   ·exact List.rel_of_pairwise_cons hpe (List.mem_map_of_mem hp') k e h
   ·obtain ⟨cur2,s2,h2⟩:=Xi o13 e
    rw [h1] at h2;simp only [Option.some.injEq,Obj.cells.injEq] at h2;exact absurd h2.2.1 (by decide)
   ·obtain ⟨cur2,s2,h2⟩:=Xi o14 e
    rw [h1] at h2;simp only [Option.some.injEq,Obj.cells.injEq] at h2;exact absurd h2.2.1 (by decide)
   ·obtain ⟨cur2,s2,h2⟩:=Xi o15 e
    rw [h1] at h2;simp only [Option.some.injEq,Obj.cells.injEq] at h2;exact absurd h2.2.1 (by decide)
   ·obtain ⟨cur2,s2,h2⟩:=Xi o16 e
    rw [h1] at h2;simp only [Option.some.injEq,Obj.cells.injEq] at h2;exact absurd h2.2.1 (by decide)
   ·obtain ⟨cur2,s2,h2⟩:=Xi o17 e
    rw [h1] at h2;simp only [Option.some.injEq,Obj.cells.injEq] at h2;exact absurd h2.2.1 (by decide)
 have hM2:∀ v∈([.slice a12 n12 c12,.slice a13 n13 c13,.slice a14 n14 c14,.slice a15 n15 c15,.slice a16 n16 c16,.slice a17 n17 c17]:List Value),∀ k,v.ownBlock=some k->k<w.heap.size:=fun v hv k e=>by
  simp only [List.mem_cons,List.not_mem_nil,or_false] at hv;rcases hv with rfl | rfl | rfl | rfl | rfl | rfl
  ·exact (o12.lts k e).2
  ·exact (o13.lts k e).2
  ·exact (o14.lts k e).2
  ·exact (o15.lts k e).2
  ·exact (o16.lts k e).2
  ·exact (o17.lts k e).2
 have hM3:∀ k,msS (.slice oa on oc) L k->k<w.heap.size:=fun k e=>by
  rcases e with e | ⟨p,hp',e⟩
  ·exact (oo.lts k e).2
  ·exact ((oe p hp').lts k e).2
 have HM:Hid (∀ z,Xf (fun k=>∃ v∈([.slice a12 n12 c12,.slice a13 n13 c13,.slice a14 n14 c14,.slice a15 n15 c15,.slice a16 n16 c16,.slice a17 n17 c17]:List Value),v.ownBlock=some k) w z->∀ y:Int,y=((1+7*n12+n13+n14+n15+n16+n17:Nat):Int)->Calls Tryz.prog 48 #[.slice oa on oc,.int .i64 y] z fun r w'=>r=.returned (.int .i64 ((1+7*n12+n13+n14+n15+n16+n17+omN L:Nat):Int))/\MkM w' oa L (1+7*n12+n13+n14+n15+n16+n17)/\Xf (msS (.slice oa on oc) L) z w'):=fun z hz y hy=>markMsgS_o y (1+7*n12+n13+n14+n15+n16+n17) hy hk (oo.block fun k e=>hz.block k (hM3 k (.inl e)) (fun ⟨v,hv,e'⟩=>hM1 v hv k e' (.inl e))) (fun p hp'=>(oe p hp').block fun k e=>hz.block k (hM3 k (.inr ⟨p,hp',e⟩)) (fun ⟨v,hv,e'⟩=>hM1 v hv k e' (.inr ⟨p,hp',e⟩))) (List.pairwise_cons.1 hpe).2 hl hes
 have HK:Hid (∀ z z',NdM z a12 a13 a14 a15 a16 a17 n12 n13 n14 n15 n16 n17->Xf (msS (.slice oa on oc) L) z z'->NdM z' a12 a13 a14 a15 a16 a17 n12 n13 n14 n15 n16 n17):=fun z z' h ht=>⟨h.m12.keep (c:=c12) fun k e hk=>ht.block k hk (hM1 _ (by simp) k e),h.m13.keep (c:=c13) fun k e hk=>ht.block k hk (hM1 _ (by simp) k e),h.m14.keep (c:=c14) fun k e hk=>ht.block k hk (hM1 _ (by simp) k e),h.m15.keep (c:=c15) fun k e hk=>ht.block k hk (hM1 _ (by simp) k e),h.m16.keep (c:=c16) fun k e hk=>ht.block k hk (hM1 _ (by simp) k e),h.m17.keep (c:=c17) fun k e hk=>ht.block k hk (hM1 _ (by simp) k e)⟩
 have HM1:Hid _:=hM1;have HM2:Hid (∀ v∈([.slice a12 n12 c12,.slice a13 n13 c13,.slice a14 n14 c14,.slice a15 n15 c15,.slice a16 n16 c16,.slice a17 n17 c17]:List Value),∀ k,v.ownBlock=some k->k<w.heap.size):=hM2;have HM3:Hid (∀ k,msS (.slice oa on oc) L k->k<w.heap.size):=hM3;clear hM1 hM2 hM3 o12 o13 o14 o15 o16 o17 oo oe hp hpe hl hes hk;obtain ⟨W,hW⟩:∃ W,W=w.alloc (.cells #[.int .i64 cd,.int .i64 dw,.int .i64 i0,.int .i64 i1,.int .i64 i2,.int .i64 i3,.int .i64 i4,.int .i64 i5,.int .i64 i6,.int .i64 i7,.int .i64 i8,.int .i64 i9,.int .i64 i10,.int .i64 i11,.slice a12 n12 c12,.slice a13 n13 c13,.slice a14 n14 c14,.slice a15 n15 c15,.slice a16 n16 c16,.slice a17 n17 c17,.slice oa on oc] 39):=⟨_,rfl⟩;have BA:Hid (Blk W w.heap.size #[.int .i64 cd,.int .i64 dw,.int .i64 i0,.int .i64 i1,.int .i64 i2,.int .i64 i3,.int .i64 i4,.int .i64 i5,.int .i64 i6,.int .i64 i7,.int .i64 i8,.int .i64 i9,.int .i64 i10,.int .i64 i11,.slice a12 n12 c12,.slice a13 n13 c13,.slice a14 n14 c14,.slice a15 n15 c15,.slice a16 n16 c16,.slice a17 n17 c17,.slice oa on oc] 39):=by rw [hW];exact Blk.new _ _ _
 have HB:Hid (Below w.heap.size w W):=by rw [hW];exact (Below.refl _ _).alloc (Nat.le_refl _) _
 have hzW:w.heap.size<W.heap.size:=by rw [hW];simp
 generalize hKE:1+7*n12+n13+n14+n15+n16+n17=KE at *;generalize hKT:KE+omN L=KT at *;clear hKE hKT;go_enter Tryz.func18,Tryz.ntmps18
 go_upto_region 1 with fail
 rw [<-hW];clear hW
 go_wp2_with (first
  |(have hBA:=BA;refine Z7 36 (.tmp 5) rfl ?_;clear hBA;refine wpList_load_mid rfl 36 (.tmp 5) rfl w.heap.size 2 rfl [.int .i64 i0,.int .i64 i1,.int .i64 i2,.int .i64 i3,.int .i64 i4,.int .i64 i5,.int .i64 i6,.int .i64 i7,.int .i64 i8,.int .i64 i9,.int .i64 i10,.int .i64 i11,.slice a12 n12 c12,.slice a13 n13 c13,.slice a14 n14 c14,.slice a15 n15 c15,.slice a16 n16 c16,.slice a17 n17 c17] _ (Y5 BA.out 2 [.int .i64 i0,.int .i64 i1,.int .i64 i2,.int .i64 i3,.int .i64 i4,.int .i64 i5,.int .i64 i6,.int .i64 i7,.int .i64 i8,.int .i64 i9,.int .i64 i10,.int .i64 i11,.slice a12 n12 c12,.slice a13 n13 c13,.slice a14 n14 c14,.slice a15 n15 c15,.slice a16 n16 c16,.slice a17 n17 c17] rfl) Tryz.underlying36 rfl (by rw [Z2l];rfl) ?_)
  |(go_at_call 16;refine Calls.mono (HN.out _ HB.out) ?_;rintro e w1 ⟨rfl,hm,ht⟩;have M1:Hid (NdM w1 a12 a13 a14 a15 a16 a17 n12 n13 n14 n15 n16 n17):=hm;have HT:Hid (Xf (fun k=>∃ v∈([.slice a12 n12 c12,.slice a13 n13 c13,.slice a14 n14 c14,.slice a15 n15 c15,.slice a16 n16 c16,.slice a17 n17 c17]:List Value),v.ownBlock=some k) w w1):=(Xf.of_below HB.out).trans ht;have B1:Hid (Blk w1 w.heap.size _ 39):=BA.out.keep (ht.block _ hzW (fun ⟨v,hv,e⟩=>by have:=HM2.out v hv _ e;omega));have cB:=B1.out.cell;have z1:W.heap.size<=w1.heap.size:=ht.size;clear hm ht BA)
  |(go_at_call 48;refine Calls.mono (HM.out _ HT.out _ (by first | rfl | omega)) ?_;rintro e w2 ⟨rfl,hm,ht⟩;have M2:Hid (MkM w2 oa L KE):=hm;replace M1:Hid (NdM w2 a12 a13 a14 a15 a16 a17 n12 n13 n14 n15 n16 n17):=HK.out _ _ M1.out ht;have HT2:Hid _:=ht;clear hm ht))
 go_ret;exact ⟨rfl,⟨M1.out,M2.out⟩,(HT.out.wide fun k h=>.inl h).trans (HT2.out.wide fun k h=>.inr h)⟩
theorem Z3v (cd dw:Int)(i0 i1 i2 i3 i4 i5 i6 i7 i8 i9 i10 i11:Int)(a12 a13 a14 a15 a16 a17:Option Addr)(n12 n13 n14 n15 n16 n17 c12 c13 c14 c15 c16 c17:Nat)(oa:Option Addr)(on oc:Nat)(L:List Om)(w:World)(h:NdM w a12 a13 a14 a15 a16 a17 n12 n13 n14 n15 n16 n17)(hm:MkM w oa L (1+7*n12+n13+n14+n15+n16+n17))(hn:on=L.length)(b12:n12<=1048576)(b13:n13<=1048576)(b14:n14<=1048576)(b15:n15<=1048576)(b16:n16<=1048576)(b17:n17<=1048576)(hl:L.length<=100)(hes:∀ p∈L,p.m.es.length<=32)(hk:(1+7*n12+n13+n14+n15+n16+n17)<=10000000) :
  Calls Tryz.prog 19 #[.agg #[.int .i64 cd,.int .i64 dw,.int .i64 i0,.int .i64 i1,.int .i64 i2,.int .i64 i3,.int .i64 i4,.int .i64 i5,.int .i64 i6,.int .i64 i7,.int .i64 i8,.int .i64 i9,.int .i64 i10,.int .i64 i11,.slice a12 n12 c12,.slice a13 n13 c13,.slice a14 n14 c14,.slice a15 n15 c15,.slice a16 n16 c16,.slice a17 n17 c17,.slice oa on oc],.int .i64 1] w fun r w'=>r=.returned (.int .i64 ((1+7*n12+n13+n14+n15+n16+n17+omN L:Nat):Int))/\Below w.heap.size w w':=by
 have HN:Hid (∀ z,Below w.heap.size w z->Calls Tryz.prog 49 #[.agg #[.int .i64 i0,.int .i64 i1,.int .i64 i2,.int .i64 i3,.int .i64 i4,.int .i64 i5,.int .i64 i6,.int .i64 i7,.int .i64 i8,.int .i64 i9,.int .i64 i10,.int .i64 i11,.slice a12 n12 c12,.slice a13 n13 c13,.slice a14 n14 c14,.slice a15 n15 c15,.slice a16 n16 c16,.slice a17 n17 c17],.int .i64 1] z fun r w'=>r=.returned (.int .i64 ((1+7*n12+n13+n14+n15+n16+n17:Nat):Int))/\Below z.heap.size z w'):=fun z hz=>heldNode_o i0 i1 i2 i3 i4 i5 i6 i7 i8 i9 i10 i11 a12 a13 a14 a15 a16 a17 n12 n13 n14 n15 n16 n17 c12 c13 c14 c15 c16 c17 z (h.below hz) b12 b13 b14 b15 b16 b17
 have HM:Hid (∀ z,Below w.heap.size w z->∀ y:Int,y=((1+7*n12+n13+n14+n15+n16+n17:Nat):Int)->Calls Tryz.prog 50 #[.slice oa on oc,.int .i64 y] z fun r w'=>r=.returned (.int .i64 ((1+7*n12+n13+n14+n15+n16+n17+omN L:Nat):Int))/\Below z.heap.size z w'):=fun z hz y hy=>heldMsgS_o y (1+7*n12+n13+n14+n15+n16+n17) hy hk (hm.below hz) hn hl hes
 have HB:Hid (Below w.heap.size w (w.alloc (.cells #[.int .i64 cd,.int .i64 dw,.int .i64 i0,.int .i64 i1,.int .i64 i2,.int .i64 i3,.int .i64 i4,.int .i64 i5,.int .i64 i6,.int .i64 i7,.int .i64 i8,.int .i64 i9,.int .i64 i10,.int .i64 i11,.slice a12 n12 c12,.slice a13 n13 c13,.slice a14 n14 c14,.slice a15 n15 c15,.slice a16 n16 c16,.slice a17 n17 c17,.slice oa on oc] 39))):=(Below.refl _ _).alloc (Nat.le_refl _) _;clear h hm hk hn hl hes;generalize hKE:1+7*n12+n13+n14+n15+n16+n17=KE at *;generalize hKT:KE+omN L=KT at *;clear hKE hKT;have p1:¬((KE:Int)<0):=by omega
 have p2:¬((KT:Int)<0):=by omega
 have g1:Hid True:=trivial;go_enter Tryz.func19,Tryz.ntmps19
 go_wp2_with (first
  |(have hBA:=g1;refine Z7 36 (.tmp 5) rfl ?_;clear hBA;refine wpList_load_mid rfl 36 (.tmp 5) rfl w.heap.size 2 rfl [.int .i64 i0,.int .i64 i1,.int .i64 i2,.int .i64 i3,.int .i64 i4,.int .i64 i5,.int .i64 i6,.int .i64 i7,.int .i64 i8,.int .i64 i9,.int .i64 i10,.int .i64 i11,.slice a12 n12 c12,.slice a13 n13 c13,.slice a14 n14 c14,.slice a15 n15 c15,.slice a16 n16 c16,.slice a17 n17 c17] _ (Y5 (Blk.new w #[.int .i64 cd,.int .i64 dw,.int .i64 i0,.int .i64 i1,.int .i64 i2,.int .i64 i3,.int .i64 i4,.int .i64 i5,.int .i64 i6,.int .i64 i7,.int .i64 i8,.int .i64 i9,.int .i64 i10,.int .i64 i11,.slice a12 n12 c12,.slice a13 n13 c13,.slice a14 n14 c14,.slice a15 n15 c15,.slice a16 n16 c16,.slice a17 n17 c17,.slice oa on oc] 39) 2 [.int .i64 i0,.int .i64 i1,.int .i64 i2,.int .i64 i3,.int .i64 i4,.int .i64 i5,.int .i64 i6,.int .i64 i7,.int .i64 i8,.int .i64 i9,.int .i64 i10,.int .i64 i11,.slice a12 n12 c12,.slice a13 n13 c13,.slice a14 n14 c14,.slice a15 n15 c15,.slice a16 n16 c16,.slice a17 n17 c17] rfl) Tryz.underlying36 rfl (by rw [Z2l];rfl) ?_;clear g1)
  |(go_at_call 49;refine Calls.mono (HN.out _ HB.out) ?_;rintro e w1 ⟨rfl,hb⟩;have BA:Hid (Blk w1 w.heap.size _ 39):=(Blk.new w _ _).below hb (by simp);have cA:=BA.out.cell;replace HB:Hid (Below w.heap.size w w1):=HB.out.trans (hb.mono HB.out.size);clear hb)
  |(go_at_call 50;refine Calls.mono (HM.out _ HB.out _ (by first | rfl | omega)) ?_;rintro e w2 ⟨rfl,hb⟩;replace HB:Hid (Below w.heap.size w w2):=HB.out.trans (hb.mono HB.out.size);clear hb))
 go_ret;exact ⟨rfl,HB.out⟩
theorem eqMsgS_same (v u:Value)(l L:List Om)(w:World)(hv:Sl omC 10 w v l)(hu:Sl omC 10 w u L)(he:∀ p∈l,Es w p.v p.m.es)(hE:∀ p∈L,Es w p.v p.m.es)(hc:l.map (·.m)=L.map (·.m))(hl:l.length<=1000) :
  Calls Tryz.prog 40 #[v,u] w fun r w'=>r=.returned (.bool true)/\Below w.heap.size w w':=by
 have hll:l.length=L.length:=by have h:=congrArg List.length hc;simpa using h
 obtain ⟨-,a,cap,rfl,hca⟩:=hv;obtain ⟨-,a',cap',rfl,hca'⟩:=hu;rw [<-hll];have HLL:Hid (l.length=L.length):=hll;clear hll;go_enter Tryz.func40,Tryz.ntmps40;go_wp2
 go_loopw [5] (fun i wr=>∃ k:Nat,k<=l.length/\i=.int .i64 k/\Below w.heap.size w wr) (fun i _=>l.length-(intOf i).toNat)
 case atStart=>exact ⟨0,Nat.zero_le _,rfl,Below.refl _ _⟩
 case round=>
  obtain ⟨k,hk,rfl,hB⟩:=hrel;have hsz:=hB.size;by_cases hlt:k<l.length
  ·have hlt':k<L.length:=by have:=HLL.out;omega
   obtain ⟨b,off,rfl,Yn⟩:=hca k hlt;obtain ⟨b',off',rfl,hcell'⟩:=hca' k hlt';have hr:=Xh (Yn k hlt) hB;have hr':=Xh (hcell' k hlt') hB
   have hcc:l[k].m=L[k].m:=by
    have h1:(l.map (·.m))[k]? = some l[k].m:=by simp [hlt]
    have h2:(L.map (·.m))[k]? = some L[k].m:=by simp [hlt']
    rw [hc,h2] at h1;injection h1 with h1;exact h1.symm
   have hes:Es wr l[k].v l[k].m.es:=(he _ (List.getElem_mem hlt)).below hB;have heu:Es wr L[k].v l[k].m.es:=by rw [hcc];exact (hE _ (List.getElem_mem hlt')).below hB
   have hbl:b<wr.heap.size:=Yd (hr 0 _ rfl);have hbl':b'<wr.heap.size:=Yd (hr' 0 _ rfl);obtain ⟨x,cx,p,ex,ep⟩:∃(x:Option Addr) (cx:Nat) (p:Mg),omC l[k] = [.int .i64 p.ki,.int .i64 p.fr,.int .i64 p.td,.int .i64 p.tm,.int .i64 p.li,.int .i64 p.lt,.int .i64 p.cm,.int .i64 p.ok,.int .i64 p.hi,.slice x p.es.length cx]/\p=l[k].m/\l[k].v=.slice x p.es.length cx:=⟨l[k].a,l[k].c,l[k].m,rfl,rfl,rfl⟩;obtain ⟨y,cy,ey⟩:∃(y:Option Addr) (cy:Nat),omC L[k] = [.int .i64 p.ki,.int .i64 p.fr,.int .i64 p.td,.int .i64 p.tm,.int .i64 p.li,.int .i64 p.lt,.int .i64 p.cm,.int .i64 p.ok,.int .i64 p.hi,.slice y p.es.length cy]/\L[k].v=.slice y p.es.length cy:=⟨L[k].a,L[k].c,by rw [ep.1,hcc];rfl,by rw [ep.1,hcc];rfl⟩;rw [ex] at hr;rw [ey.1] at hr';rw [ep.2,<-ep.1] at hes;rw [ey.2,<-ep.1] at heu;have c0:wr.cell? ⟨b,off+k*10,none⟩=some (.int .i64 p.ki):=hr 0 _ rfl;have c1:wr.cell? ⟨b,off+k*10+1,none⟩=some (.int .i64 p.fr):=hr 1 _ rfl;have c2:wr.cell? ⟨b,off+k*10+2,none⟩=some (.int .i64 p.td):=hr 2 _ rfl;have c3:wr.cell? ⟨b,off+k*10+3,none⟩=some (.int .i64 p.tm):=hr 3 _ rfl;have c4:wr.cell? ⟨b,off+k*10+4,none⟩=some (.int .i64 p.li):=hr 4 _ rfl;have c5:wr.cell? ⟨b,off+k*10+5,none⟩=some (.int .i64 p.lt):=hr 5 _ rfl;have c6:wr.cell? ⟨b,off+k*10+6,none⟩=some (.int .i64 p.cm):=hr 6 _ rfl;have c7:wr.cell? ⟨b,off+k*10+7,none⟩=some (.int .i64 p.ok):=hr 7 _ rfl;have c8:wr.cell? ⟨b,off+k*10+8,none⟩=some (.int .i64 p.hi):=hr 8 _ rfl;have c9:wr.cell? ⟨b,off+k*10+9,none⟩=some (.slice x p.es.length cx):=hr 9 _ rfl;have d0:wr.cell? ⟨b',off'+k*10,none⟩=some (.int .i64 p.ki):=hr' 0 _ rfl;have d1:wr.cell? ⟨b',off'+k*10+1,none⟩=some (.int .i64 p.fr):=hr' 1 _ rfl;have d2:wr.cell? ⟨b',off'+k*10+2,none⟩=some (.int .i64 p.td):=hr' 2 _ rfl;have d3:wr.cell? ⟨b',off'+k*10+3,none⟩=some (.int .i64 p.tm):=hr' 3 _ rfl;have d4:wr.cell? ⟨b',off'+k*10+4,none⟩=some (.int .i64 p.li):=hr' 4 _ rfl;have d5:wr.cell? ⟨b',off'+k*10+5,none⟩=some (.int .i64 p.lt):=hr' 5 _ rfl;have d6:wr.cell? ⟨b',off'+k*10+6,none⟩=some (.int .i64 p.cm):=hr' 6 _ rfl;have d7:wr.cell? ⟨b',off'+k*10+7,none⟩=some (.int .i64 p.ok):=hr' 7 _ rfl;have d8:wr.cell? ⟨b',off'+k*10+8,none⟩=some (.int .i64 p.hi):=hr' 8 _ rfl;have d9:wr.cell? ⟨b',off'+k*10+9,none⟩=some (.slice y p.es.length cy):=hr' 9 _ rfl;have HQ:Hid (∀ w',Below wr.heap.size wr w'->Calls Tryz.prog 43 #[.agg #[.int .i64 p.ki,.int .i64 p.fr,.int .i64 p.td,.int .i64 p.tm,.int .i64 p.li,.int .i64 p.lt,.int .i64 p.cm,.int .i64 p.ok,.int .i64 p.hi,.slice x p.es.length cx],.agg #[.int .i64 p.ki,.int .i64 p.fr,.int .i64 p.td,.int .i64 p.tm,.int .i64 p.li,.int .i64 p.lt,.int .i64 p.cm,.int .i64 p.ok,.int .i64 p.hi,.slice y p.es.length cy]] w' fun e w''=>e=.returned (.bool true)/\Below w'.heap.size w' w''):=fun w' hb=>Z53 _ _ _ _ _ _ _ _ _ _ _ p.es w' (hes.below hb) (heu.below hb)
   clear Yn hcell' hca hca' ex ey ep hes heu hcc hc he hE hr hr';go_wp2
   go_region_held3 (fun w'=>w'.cell? ⟨b,off+k*10,none⟩=some (.int .i64 p.ki)/\w'.cell? ⟨b,off+k*10+1,none⟩=some (.int .i64 p.fr)/\w'.cell? ⟨b,off+k*10+2,none⟩=some (.int .i64 p.td)/\w'.cell? ⟨b,off+k*10+3,none⟩=some (.int .i64 p.tm)/\w'.cell? ⟨b,off+k*10+4,none⟩=some (.int .i64 p.li)/\w'.cell? ⟨b,off+k*10+5,none⟩=some (.int .i64 p.lt)/\w'.cell? ⟨b,off+k*10+6,none⟩=some (.int .i64 p.cm)/\w'.cell? ⟨b,off+k*10+7,none⟩=some (.int .i64 p.ok)/\w'.cell? ⟨b,off+k*10+8,none⟩=some (.int .i64 p.hi)/\w'.cell? ⟨b,off+k*10+9,none⟩=some (.slice x p.es.length cx)/\w'.cell? ⟨b',off'+k*10,none⟩=some (.int .i64 p.ki)/\w'.cell? ⟨b',off'+k*10+1,none⟩=some (.int .i64 p.fr)/\w'.cell? ⟨b',off'+k*10+2,none⟩=some (.int .i64 p.td)/\w'.cell? ⟨b',off'+k*10+3,none⟩=some (.int .i64 p.tm)/\w'.cell? ⟨b',off'+k*10+4,none⟩=some (.int .i64 p.li)/\w'.cell? ⟨b',off'+k*10+5,none⟩=some (.int .i64 p.lt)/\w'.cell? ⟨b',off'+k*10+6,none⟩=some (.int .i64 p.cm)/\w'.cell? ⟨b',off'+k*10+7,none⟩=some (.int .i64 p.ok)/\w'.cell? ⟨b',off'+k*10+8,none⟩=some (.int .i64 p.hi)/\w'.cell? ⟨b',off'+k*10+9,none⟩=some (.slice y p.es.length cy)) (simp [*,go_sem])
    (first
     |(go_at_call 43;refine (HQ.out _ ((Below.refl _ _).drew)).mono ?_;rintro r w1 ⟨rfl,hb⟩;have q1:=fun (o:Nat)=>hb.cell (p:=⟨b,o,none⟩) (show b<wr.heap.size by omega);have q2:=fun (o:Nat)=>hb.cell (p:=⟨b',o,none⟩) (show b'<wr.heap.size by omega)))
   all_goals go_wp2
   go_roundw
   case rel=>exact ⟨k+1,by omega,by go_num,hB.trans (((Below.refl _ _).drew).trans (hb.mono hsz))⟩
   case measure=>simp [intOf];omega
  ·go_wp2
   go_ret;exact ⟨rfl,hB⟩
theorem sizeNdQ:(Tryz.prog.info? 36).map (·.size)=some 18:=by kernel_rfl
theorem Z5s (cd dw i0 i1 i2 i3 i4 i5 i6 i7 i8 i9 i10 i11:Int)(l12:List Ent)(l13 l14 l15 l16 l17:List Int)(l L:List Om)(w:World)(v12 u12 v13 u13 v14 u14 v15 u15 v16 u16 v17 u17 vo uo:Value)(h12:Es w v12 l12)(k12:Es w u12 l12)(h13:Ix w v13 l13)(k13:Ix w u13 l13)(h14:Ix w v14 l14)(k14:Ix w u14 l14)(h15:Ix w v15 l15)(k15:Ix w u15 l15)(h16:Ix w v16 l16)(k16:Ix w u16 l16)(h17:Ix w v17 l17)(k17:Ix w u17 l17)(ho:Sl omC 10 w vo l)(ko:Sl omC 10 w uo L)(he:∀ p∈l,Es w p.v p.m.es)(hE:∀ p∈L,Es w p.v p.m.es)(hc:l.map (·.m)=L.map (·.m))(hl:l.length<=1000) :
  Calls Tryz.prog 13 #[.agg #[.int .i64 cd,.int .i64 dw,.int .i64 i0,.int .i64 i1,.int .i64 i2,.int .i64 i3,.int .i64 i4,.int .i64 i5,.int .i64 i6,.int .i64 i7,.int .i64 i8,.int .i64 i9,.int .i64 i10,.int .i64 i11,v12,v13,v14,v15,v16,v17,vo],.agg #[.int .i64 cd,.int .i64 dw,.int .i64 i0,.int .i64 i1,.int .i64 i2,.int .i64 i3,.int .i64 i4,.int .i64 i5,.int .i64 i6,.int .i64 i7,.int .i64 i8,.int .i64 i9,.int .i64 i10,.int .i64 i11,u12,u13,u14,u15,u16,u17,uo]] w fun e w'=>e=.returned (.bool true)/\Below w.heap.size w w':=by
 have HN:Hid (∀ z,Below w.heap.size w z->Calls Tryz.prog 14 #[.agg #[.int .i64 i0,.int .i64 i1,.int .i64 i2,.int .i64 i3,.int .i64 i4,.int .i64 i5,.int .i64 i6,.int .i64 i7,.int .i64 i8,.int .i64 i9,.int .i64 i10,.int .i64 i11,v12,v13,v14,v15,v16,v17],.agg #[.int .i64 i0,.int .i64 i1,.int .i64 i2,.int .i64 i3,.int .i64 i4,.int .i64 i5,.int .i64 i6,.int .i64 i7,.int .i64 i8,.int .i64 i9,.int .i64 i10,.int .i64 i11,u12,u13,u14,u15,u16,u17]] z fun e w'=>e=.returned (.bool true)/\Below z.heap.size z w'):=fun z hz=>eqNode_u i0 i1 i2 i3 i4 i5 i6 i7 i8 i9 i10 i11 l12 l13 l14 l15 l16 l17 z v12 u12 v13 u13 v14 u14 v15 u15 v16 u16 v17 u17 (h12.below hz) (k12.below hz) (h13.below hz) (k13.below hz) (h14.below hz) (k14.below hz) (h15.below hz) (k15.below hz) (h16.below hz) (k16.below hz) (h17.below hz) (k17.below hz)
 have HM:Hid (∀ z,Below w.heap.size w z->Calls Tryz.prog 40 #[vo,uo] z fun e w'=>e=.returned (.bool true)/\Below z.heap.size z w'):=fun z hz=>eqMsgS_same vo uo l L z (ho.below hz) (ko.below hz) (fun p hp=>(he p hp).below hz) (fun p hp=>(hE p hp).below hz) hc hl
 obtain ⟨_,_,a12,c12,rfl,_⟩:=h12;obtain ⟨_,_,b12,d12,rfl,_⟩:=k12;obtain ⟨_,a13,c13,rfl,_⟩:=h13;obtain ⟨_,b13,d13,rfl,_⟩:=k13;obtain ⟨_,a14,c14,rfl,_⟩:=h14;obtain ⟨_,b14,d14,rfl,_⟩:=k14;obtain ⟨_,a15,c15,rfl,_⟩:=h15;obtain ⟨_,b15,d15,rfl,_⟩:=k15;obtain ⟨_,a16,c16,rfl,_⟩:=h16;obtain ⟨_,b16,d16,rfl,_⟩:=k16;obtain ⟨_,a17,c17,rfl,_⟩:=h17;obtain ⟨_,b17,d17,rfl,_⟩:=k17;obtain ⟨_,xo,co,rfl,_⟩:=ho;obtain ⟨_,yo,do_,rfl,_⟩:=ko;clear he hE;obtain ⟨W,hW⟩:∃ W,W=(w.alloc (.cells #[.int .i64 cd,.int .i64 dw,.int .i64 i0,.int .i64 i1,.int .i64 i2,.int .i64 i3,.int .i64 i4,.int .i64 i5,.int .i64 i6,.int .i64 i7,.int .i64 i8,.int .i64 i9,.int .i64 i10,.int .i64 i11,.slice a12 l12.length c12,.slice a13 l13.length c13,.slice a14 l14.length c14,.slice a15 l15.length c15,.slice a16 l16.length c16,.slice a17 l17.length c17,.slice xo l.length co] 39)).alloc (.cells #[.int .i64 cd,.int .i64 dw,.int .i64 i0,.int .i64 i1,.int .i64 i2,.int .i64 i3,.int .i64 i4,.int .i64 i5,.int .i64 i6,.int .i64 i7,.int .i64 i8,.int .i64 i9,.int .i64 i10,.int .i64 i11,.slice b12 l12.length d12,.slice b13 l13.length d13,.slice b14 l14.length d14,.slice b15 l15.length d15,.slice b16 l16.length d16,.slice b17 l17.length d17,.slice yo L.length do_] 39):=⟨_,rfl⟩;have BA:Hid (Blk W w.heap.size #[.int .i64 cd,.int .i64 dw,.int .i64 i0,.int .i64 i1,.int .i64 i2,.int .i64 i3,.int .i64 i4,.int .i64 i5,.int .i64 i6,.int .i64 i7,.int .i64 i8,.int .i64 i9,.int .i64 i10,.int .i64 i11,.slice a12 l12.length c12,.slice a13 l13.length c13,.slice a14 l14.length c14,.slice a15 l15.length c15,.slice a16 l16.length c16,.slice a17 l17.length c17,.slice xo l.length co] 39):=by rw [hW];exact (Blk.new _ _ _).alloc _
 have BB:Hid (Blk W (w.heap.size+1) #[.int .i64 cd,.int .i64 dw,.int .i64 i0,.int .i64 i1,.int .i64 i2,.int .i64 i3,.int .i64 i4,.int .i64 i5,.int .i64 i6,.int .i64 i7,.int .i64 i8,.int .i64 i9,.int .i64 i10,.int .i64 i11,.slice b12 l12.length d12,.slice b13 l13.length d13,.slice b14 l14.length d14,.slice b15 l15.length d15,.slice b16 l16.length d16,.slice b17 l17.length d17,.slice yo L.length do_] 39):=by rw [hW];exact Blk.new' _ _ _ (by simp)
 have HB:Hid (Below w.heap.size w W):=by rw [hW];exact ((Below.refl _ _).alloc (Nat.le_refl _) _).alloc (by simp) _
 have cA:=BA.out.cell;have cB:=BB.out.cell;go_enter Tryz.func13,Tryz.ntmps13
 go_upto_region 1 with fail
 rw [<-hW];clear hW
 go_wp2_with (first
  |(have hBA:=BA;refine Z7 36 (.tmp 15) rfl ?_;clear hBA;refine wpList_load_mid rfl 36 (.tmp 15) rfl w.heap.size 2 rfl [.int .i64 i0,.int .i64 i1,.int .i64 i2,.int .i64 i3,.int .i64 i4,.int .i64 i5,.int .i64 i6,.int .i64 i7,.int .i64 i8,.int .i64 i9,.int .i64 i10,.int .i64 i11,.slice a12 l12.length c12,.slice a13 l13.length c13,.slice a14 l14.length c14,.slice a15 l15.length c15,.slice a16 l16.length c16,.slice a17 l17.length c17] _ (Y5 BA.out 2 [.int .i64 i0,.int .i64 i1,.int .i64 i2,.int .i64 i3,.int .i64 i4,.int .i64 i5,.int .i64 i6,.int .i64 i7,.int .i64 i8,.int .i64 i9,.int .i64 i10,.int .i64 i11,.slice a12 l12.length c12,.slice a13 l13.length c13,.slice a14 l14.length c14,.slice a15 l15.length c15,.slice a16 l16.length c16,.slice a17 l17.length c17] rfl) Tryz.underlying36 rfl (by rw [sizeNdQ];rfl) ?_)
  |(have hBA:=BA;refine Z7 36 (.tmp 17) rfl ?_;clear hBA;refine wpList_load_mid rfl 36 (.tmp 17) rfl (w.heap.size+1) 2 rfl [.int .i64 i0,.int .i64 i1,.int .i64 i2,.int .i64 i3,.int .i64 i4,.int .i64 i5,.int .i64 i6,.int .i64 i7,.int .i64 i8,.int .i64 i9,.int .i64 i10,.int .i64 i11,.slice b12 l12.length d12,.slice b13 l13.length d13,.slice b14 l14.length d14,.slice b15 l15.length d15,.slice b16 l16.length d16,.slice b17 l17.length d17] _ (Y5 BB.out 2 [.int .i64 i0,.int .i64 i1,.int .i64 i2,.int .i64 i3,.int .i64 i4,.int .i64 i5,.int .i64 i6,.int .i64 i7,.int .i64 i8,.int .i64 i9,.int .i64 i10,.int .i64 i11,.slice b12 l12.length d12,.slice b13 l13.length d13,.slice b14 l14.length d14,.slice b15 l15.length d15,.slice b16 l16.length d16,.slice b17 l17.length d17] rfl) Tryz.underlying36 rfl (by rw [sizeNdQ];rfl) ?_)
  |(go_at_call 14;refine Calls.mono (HN.out _ HB.out) ?_;rintro e w1 ⟨rfl,hb⟩;replace BA:Hid (Blk w1 w.heap.size _ 39):=BA.out.below hb BA.out.lt;replace BB:Hid (Blk w1 (w.heap.size+1) _ 39):=BB.out.below hb BB.out.lt;replace cA:=BA.out.cell;replace cB:=BB.out.cell;replace HB:Hid (Below w.heap.size w w1):=HB.out.trans (hb.mono HB.out.size);clear hb)
  |(go_at_call 40;refine Calls.mono (HM.out _ HB.out) ?_;rintro e w2 ⟨rfl,hb⟩;replace HB:Hid (Below w.heap.size w w2):=HB.out.trans (hb.mono HB.out.size);clear hb))
 go_ret;exact ⟨rfl,HB.out⟩
theorem Z0w {w:World}{B B':Nat}{r:Rn}{x y:RV}(h:Xx w B r x)(k:Xx w B' r y)(hs:Sm 7 r) :
  Calls Tryz.prog 13 #[.agg (saC r x),.agg (saC r y)] w fun e w'=>e=.returned (.bool true)/\Below w.heap.size w w':=by
 have hm:∀ n:Nat,n<=5000->n<=maxLen:=fun n hn=>by unfold maxLen;omega
 have h1:x.L.length<=7:=by have:=hs.out;rw [<-h.outC,List.length_map] at this;exact this
 have h2:y.L.length<=7:=by have:=hs.out;rw [<-k.outC,List.length_map] at this;exact this
 have i1:∀ {v:Value} {l:List Int} {B:Nat},Z6 inC 1 3 w B v l->l.length<=1000->Ix w v l:=fun ho hl=>ix_sl (Z6.sl Z1d ho (hm _ (by omega)))
 have e1:∀ p∈x.L,Es w p.v p.m.es:=fun p hp=>(h.ents p hp).es (hm _ (by have:=hs.es p.m (by rw [<-h.outC];exact List.mem_map_of_mem hp);omega))
 have e2:∀ p∈y.L,Es w p.v p.m.es:=fun p hp=>(k.ents p hp).es (hm _ (by have:=hs.es p.m (by rw [<-k.outC];exact List.mem_map_of_mem hp);omega))
 exact Z5s r.code r.drew r.n.id r.n.sz r.n.el r.n.bt r.n.tm r.n.vo r.n.ro r.n.ld r.n.cm r.n.nw r.n.dl r.n.hd r.n.log r.n.gr r.n.nx r.n.mt r.n.se r.n.st x.L y.L w x.vl y.vl x.vg y.vg x.vn y.vn x.vm y.vm x.vs y.vs x.vt y.vt x.vo y.vo (h.log.es (hm _ hs.log)) (k.log.es (hm _ hs.log)) (i1 h.gr hs.gr) (i1 k.gr hs.gr) (i1 h.nx hs.nx) (i1 k.nx hs.nx) (i1 h.mt hs.mt) (i1 k.mt hs.mt) (i1 h.se hs.se) (i1 k.se hs.se) (i1 h.st hs.st) (i1 k.st hs.st) (Z6.sl omLaw h.out (hm _ (by omega))) (Z6.sl omLaw k.out (hm _ (by omega))) e1 e2 (by rw [h.outC,k.outC]) (by omega)
end Go.Proofs.YtmmpoppgabadmaaGreat
