import Derived.Test.YtmmpoppgabadmaaGreatG31
import Derived.Test.YtmmpoppgabadmaaGreatG32
import Derived.Test.YtmmpoppgabadmaaGreatG24
set_option linter.unusedVariables false
set_option linter.unusedSimpArgs false
set_option maxRecDepth 100000
set_option maxHeartbeats 16000000
namespace Go.Proofs.YtmmpoppgabadmaaGreat
open Go.RowKit
structure Jr (w:World) (B:Nat) (r:Rn) (x:RV):Prop where
 log:Zp w B x.vl r.n.log
 gr:Zg inC 1 3 w B x.vg r.n.gr
 nx:Zg inC 1 3 w B x.vn r.n.nx
 mt:Zg inC 1 3 w B x.vm r.n.mt
 se:Zg inC 1 3 w B x.vs r.n.se
 st:Zg inC 1 3 w B x.vt r.n.st
 out:Zg omC 10 43 w B x.vo x.L
 outC:x.L.map (·.m)=r.out
 ents:∀ p∈x.L,Zp w B p.v p.m.es
 ap:[x.vg,x.vn,x.vm,x.vs,x.vt].Pairwise Ya
theorem Zv.ans {w:World}{B b:Nat}{r:Rn}{x:RV}(h:Zv w B b r x):Jr w B r x:=⟨h.log,h.gr,h.nx,h.mt,h.se,h.st,h.out,h.outC,h.ents,h.ap⟩
theorem Jr.one {w:World}{B:Nat}{r:Rn}{x:RV}(h:Jr w B r x):(saC r x).all (·.oneCell')=true:=by
 obtain ⟨a1,c1,e1⟩:=h.log.shape;obtain ⟨a2,c2,e2⟩:=h.gr.shape;obtain ⟨a3,c3,e3⟩:=h.nx.shape;obtain ⟨a4,c4,e4⟩:=h.mt.shape;obtain ⟨a5,c5,e5⟩:=h.se.shape;obtain ⟨a6,c6,e6⟩:=h.st.shape;obtain ⟨a7,c7,e7⟩:=h.out.shape;unfold saC;rw [e1,e2,e3,e4,e5,e6,e7];simp [Value.oneCell']
theorem Jr.block {w w':World}{B:Nat}{r:Rn}{x:RV}(h:Jr w B r x)(hk:∀ k,B<=k->w'.heap[k]? = w.heap[k]?):Jr w' B r x:=by
 have hg:∀ {α:Type} {cs:α->List Value} {m:Nat} {T:TypeId} {v:Value} {l:List α},Zg cs m T w B v l->Zg cs m T w' B v l:=fun ho=>ho.block fun k e=>hk k (ho.lts k e).1
 have he:∀ {v:Value} {l:List Ent},Zp w B v l->Zp w' B v l:=fun ho=>ho.block fun k e=>hk k (World.ownsRow.lt ho.2 k e).1
 exact ⟨he h.log,hg h.gr,hg h.nx,hg h.mt,hg h.se,hg h.st,hg h.out,h.outC,fun p hp=>he (h.ents p hp),h.ap⟩
theorem Jr.le {w:World}{B B':Nat}{r:Rn}{x:RV}(h:Jr w B r x)(hB:B'<=B):Jr w B' r x:=
 ⟨h.log.le hB,h.gr.le hB,h.nx.le hB,h.mt.le hB,h.se.le hB,h.st.le hB,h.out.le hB,h.outC,fun p hp=>(h.ents p hp).le hB,h.ap⟩
def rn9:Rn:=⟨⟨0,0,0,0,0,0,0,0,0,0,0,0,[],[],[],[],[],[]⟩,[],9,0,0⟩
def rv9:RV:=⟨.slice none 0 0,.slice none 0 0,.slice none 0 0,.slice none 0 0,.slice none 0 0,.slice none 0 0,.slice none 0 0,[]⟩
theorem Z06 (v:Value):Ya (.slice none 0 0) v:=fun k h=>by cases h
theorem ans9 (w:World)(B:Nat):Jr w B rn9 rv9:=by
 refine ⟨⟨(fun e h=>by cases h),World.ownsRow_nil w B _ _⟩,Zg.nil _ _ _ _ _,Zg.nil _ _ _ _ _,Zg.nil _ _ _ _ _,Zg.nil _ _ _ _ _,Zg.nil _ _ _ _ _,Zg.nil _ _ _ _ _,rfl,(fun p h=>by cases h),?_⟩;simp only [rv9,List.pairwise_cons,List.mem_cons,List.not_mem_nil,or_false,forall_eq_or_imp,forall_eq,List.Pairwise.nil,and_true,false_imp_iff,implies_true];exact ⟨⟨Z06 _,Z06 _,Z06 _,Z06 _⟩,⟨Z06 _,Z06 _,Z06 _⟩,⟨Z06 _,Z06 _⟩,Z06 _⟩
def Z05 (n:Nd)(dr ki:Int)(m:Mg)(cl sq op:Int)(k v o:ByteArray):Rn:=if Yo n=0 then stepP n dr ki m cl sq op k v o else rn9
theorem Jk:(Tryz.prog.info? 39).map (·.size)=some 21:=by kernel_rfl
theorem sizeInA:(Tryz.prog.info? 46).map (·.size)=some 18:=by kernel_rfl
theorem Z3f (n:Nd)(m:Mg)(ki dr cl sq op:Int)(k v o:ByteArray)(a12 a13 a14 a15 a16 a17 ea:Option Addr)(c12 c13 c14 c15 c16 c17 ec:Nat)(w:World)(h12:Es w (.slice a12 n.log.length c12) n.log)(h13:Ix w (.slice a13 n.gr.length c13) n.gr)(h14:Ix w (.slice a14 n.nx.length c14) n.nx)(h15:Ix w (.slice a15 n.mt.length c15) n.mt)(h16:Ix w (.slice a16 n.se.length c16) n.se)(h17:Ix w (.slice a17 n.st.length c17) n.st)(z12:n.log.length<=1048576)(z13:n.gr.length<=1048576)(z14:n.nx.length<=1048576)(z15:n.mt.length<=1048576)(z16:n.se.length<=1048576)(z17:n.st.length<=1048576)(he:Es w (.slice ea m.es.length ec) m.es)(hlo:∀ k,(Value.slice ea m.es.length ec).ownBlock=some k->k<w.heap.size)(hen:m.es.length<=1048576)(hd : -(2^63)<=dr)(hD:dr<2^63)(hk:k.size<=maxLen)(hv:v.size<=maxLen)(ho:o.size<=maxLen)(hki:Hid (ki=1)) :
  Calls Tryz.prog 9 #[.agg #[.int .i64 n.id,.int .i64 n.sz,.int .i64 n.el,.int .i64 n.bt,.int .i64 n.tm,.int .i64 n.vo,.int .i64 n.ro,.int .i64 n.ld,.int .i64 n.cm,.int .i64 n.nw,.int .i64 n.dl,.int .i64 n.hd,.slice a12 n.log.length c12,.slice a13 n.gr.length c13,.slice a14 n.nx.length c14,.slice a15 n.mt.length c15,.slice a16 n.se.length c16,.slice a17 n.st.length c17],.agg #[.int .i64 ki,.int .i64 dr,.int .i64 m.ki,.int .i64 m.fr,.int .i64 m.td,.int .i64 m.tm,.int .i64 m.li,.int .i64 m.lt,.int .i64 m.cm,.int .i64 m.ok,.int .i64 m.hi,.slice ea m.es.length ec,.int .i64 cl,.int .i64 sq,.int .i64 op,.string k,.string v,.string o]] w fun e w'=>∃ x,e=.returned (.agg (saC (Z05 n dr ki m cl sq op k v o) x))/\Jr w' w.heap.size (Z05 n dr ki m cl sq op k v o) x/\Below w.heap.size w w':=by
 generalize hRP:Z05 n dr ki m cl sq op k v o=RP;have HRP:Hid (Z05 n dr ki m cl sq op k v o=RP):=hRP;clear hRP;obtain ⟨W,hW⟩:∃ W,W=((w.alloc (.cells #[.int .i64 n.id,.int .i64 n.sz,.int .i64 n.el,.int .i64 n.bt,.int .i64 n.tm,.int .i64 n.vo,.int .i64 n.ro,.int .i64 n.ld,.int .i64 n.cm,.int .i64 n.nw,.int .i64 n.dl,.int .i64 n.hd,.slice a12 n.log.length c12,.slice a13 n.gr.length c13,.slice a14 n.nx.length c14,.slice a15 n.mt.length c15,.slice a16 n.se.length c16,.slice a17 n.st.length c17] 36)).alloc (.cells #[.int .i64 ki,.int .i64 dr,.int .i64 m.ki,.int .i64 m.fr,.int .i64 m.td,.int .i64 m.tm,.int .i64 m.li,.int .i64 m.lt,.int .i64 m.cm,.int .i64 m.ok,.int .i64 m.hi,.slice ea m.es.length ec,.int .i64 cl,.int .i64 sq,.int .i64 op,.string k,.string v,.string o] 46)).alloc (.cells #[.int .i64 0,.int .i64 0,.int .i64 0,.int .i64 0,.int .i64 0,.int .i64 0,.int .i64 0,.int .i64 0,.int .i64 0,.int .i64 0,.int .i64 0,.int .i64 0,.int .i64 0,.int .i64 0,.slice none 0 0,.slice none 0 0,.slice none 0 0,.slice none 0 0,.slice none 0 0,.slice none 0 0,.slice none 0 0] 39):=⟨_,rfl⟩;have HW:Hid _:=hW;have HBn:Hid (Blk W w.heap.size #[.int .i64 n.id,.int .i64 n.sz,.int .i64 n.el,.int .i64 n.bt,.int .i64 n.tm,.int .i64 n.vo,.int .i64 n.ro,.int .i64 n.ld,.int .i64 n.cm,.int .i64 n.nw,.int .i64 n.dl,.int .i64 n.hd,.slice a12 n.log.length c12,.slice a13 n.gr.length c13,.slice a14 n.nx.length c14,.slice a15 n.mt.length c15,.slice a16 n.se.length c16,.slice a17 n.st.length c17] 36):=by unfold Hid;rw [hW];exact ((Blk.new _ _ _).alloc _).alloc _
 have HBi:Hid (Blk W (w.heap.size+1) #[.int .i64 ki,.int .i64 dr,.int .i64 m.ki,.int .i64 m.fr,.int .i64 m.td,.int .i64 m.tm,.int .i64 m.li,.int .i64 m.lt,.int .i64 m.cm,.int .i64 m.ok,.int .i64 m.hi,.slice ea m.es.length ec,.int .i64 cl,.int .i64 sq,.int .i64 op,.string k,.string v,.string o] 46):=by unfold Hid;rw [hW];exact (Blk.new' _ _ _ (by simp)).alloc _
 have HBa:Hid (Blk W (w.heap.size+1+1) #[.int .i64 0,.int .i64 0,.int .i64 0,.int .i64 0,.int .i64 0,.int .i64 0,.int .i64 0,.int .i64 0,.int .i64 0,.int .i64 0,.int .i64 0,.int .i64 0,.int .i64 0,.int .i64 0,.slice none 0 0,.slice none 0 0,.slice none 0 0,.slice none 0 0,.slice none 0 0,.slice none 0 0,.slice none 0 0] 39):=by unfold Hid;rw [hW];exact Blk.new' _ _ _ (by simp)
 have HBw:Hid (Below w.heap.size w W):=by unfold Hid;rw [hW];exact (((Below.refl _ _).alloc (Nat.le_refl _) _).alloc (by simp) _).alloc (by simp;omega) _
 have HWs:Hid (W.heap.size=w.heap.size+3):=by unfold Hid;rw [hW];simp
 have HF:Hid (∀ z,Below w.heap.size w z->Calls Tryz.prog 22 #[.agg #[.int .i64 n.id,.int .i64 n.sz,.int .i64 n.el,.int .i64 n.bt,.int .i64 n.tm,.int .i64 n.vo,.int .i64 n.ro,.int .i64 n.ld,.int .i64 n.cm,.int .i64 n.nw,.int .i64 n.dl,.int .i64 n.hd,.slice a12 n.log.length c12,.slice a13 n.gr.length c13,.slice a14 n.nx.length c14,.slice a15 n.mt.length c15,.slice a16 n.se.length c16,.slice a17 n.st.length c17]] z fun e w'=>e=.returned (.int .i64 (Yo n))/\Below z.heap.size z w'):=fun z hz=>
  Z34 n.id n.sz n.el n.bt n.tm n.vo n.ro n.ld n.cm n.nw n.dl n.hd a12 a13 a14 a15 a16 a17 c12 c13 c14 c15 c16 c17 n.log n.gr n.nx n.mt n.se n.st z (h12.below hz) (h13.below hz) (h14.below hz) (h15.below hz) (h16.below hz) (h17.below hz) z12 z13 z14 z15 z16 z17
 have HS:Hid (Yo n=0->∀ z,Below w.heap.size w z->Calls Tryz.prog 32 #[.agg #[.int .i64 n.id,.int .i64 n.sz,.int .i64 n.el,.int .i64 n.bt,.int .i64 n.tm,.int .i64 n.vo,.int .i64 n.ro,.int .i64 n.ld,.int .i64 n.cm,.int .i64 n.nw,.int .i64 n.dl,.int .i64 n.hd,.slice a12 n.log.length c12,.slice a13 n.gr.length c13,.slice a14 n.nx.length c14,.slice a15 n.mt.length c15,.slice a16 n.se.length c16,.slice a17 n.st.length c17],.agg #[.int .i64 ki,.int .i64 dr,.int .i64 m.ki,.int .i64 m.fr,.int .i64 m.td,.int .i64 m.tm,.int .i64 m.li,.int .i64 m.lt,.int .i64 m.cm,.int .i64 m.ok,.int .i64 m.hi,.slice ea m.es.length ec,.int .i64 cl,.int .i64 sq,.int .i64 op,.string k,.string v,.string o]] z fun e w'=>∃(b:Nat) (X:RV),e=.returned (.agg (saC (stepP n dr ki m cl sq op k v o) X))/\Zv w' z.heap.size b (stepP n dr ki m cl sq op k v o) X/\Below z.heap.size z w'):=fun h0 z hz=>by
  obtain ⟨hb,t0,t1,hod,hgl,hcm,hg,hl⟩:=Jv n h0
  have hL:n.nx.length<=100000/\n.mt.length<=100000/\n.se.length<=100000/\n.st.length<=100000:=by
   have h9:=hl;have hz7:=hb.sz1;have hz3:=hb.sz0;unfold Yr at h9;rw [Bool.and_eq_true,Xj] at h9;split at h9 <;> omega
  exact l4step_tick n m ki dr cl sq op k v o a12 a13 a14 a15 a16 a17 ea c12 c13 c14 c15 c16 c17 ec z ⟨h12.below hz,h13.below hz,h14.below hz,h15.below hz,h16.below hz,h17.below hz⟩ hb.ln (by omega) hL.1 hL.2.1 hL.2.2.1 hL.2.2.2 (he.below hz) (fun j e=>Nat.lt_of_lt_of_le (hlo j e) hz.size) hen hb hd hD t0 t1 hod hgl (fun hro=>(Z1q n hro (by have:=hb.sz0;omega) hb.nw0 hl).1) (fun hro=>(Z1q n hro (by have:=hb.sz0;omega) hb.nw0 hl).2) hcm hk hv ho hki
 clear h12 h13 h14 h15 h16 h17 z12 z13 z14 z15 z16 z17 he hlo hen hd hD hk hv ho hW;go_enter Tryz.func9,Tryz.ntmps9
 go_upto_region 1 with fail
 rw [<-HW.out];clear HW;generalize hai:w.heap.size+1+1=ba at *;generalize hii:w.heap.size+1=bi at *;have HOrd:Hid (w.heap.size<bi/\bi<ba/\ba<W.heap.size):=by have:=HWs.out;unfold Hid;omega
 clear hai hii;have HF1:Hid _:=HF.out W HBw.out;by_cases hz0:Yo n=0
 ·have HSt:Hid _:=HS.out hz0
  have HRs:Hid (stepP n dr ki m cl sq op k v o=RP):=by have h9:=HRP.out;unfold Z05 at h9;rw [if_pos hz0] at h9;exact h9
  have hzb:(Yo n != 0)=false:=by simp [hz0]
  clear hz0
  go_wp2_with (first
   |(have hBA:=HF1;refine Zx 36 (.tmp 2) rfl ?_;clear hBA;refine Zk rfl 36 (.tmp 2) rfl w.heap.size rfl HBn.out Tryz.underlying36 rfl Jb rfl ?_)
   |(go_at_call 22;go_loud (refine Calls.mono HF1.out ?_;rintro e w1 ⟨rfl,hb1⟩;have HB1:Hid _:=hb1;have HN1:Hid (Blk w1 w.heap.size _ 36):=HBn.out.below hb1 HBn.out.lt;have HI1:Hid (Blk w1 bi _ 46):=HBi.out.below hb1 HBi.out.lt;have HA1:Hid (Blk w1 ba _ 39):=HBa.out.below hb1 HBa.out.lt;have HC1:Hid _:=HSt.out w1 (HBw.out.trans (hb1.mono HBw.out.size));clear hb1 HF1))
   |(have hBA:=HN1;refine Zx 36 (.tmp 2) rfl ?_;clear hBA;refine Zk rfl 36 (.tmp 2) rfl w.heap.size rfl HN1.out Tryz.underlying36 rfl Jb rfl ?_)
   |(have hBA:=HI1;refine Zx 46 (.tmp 3) rfl ?_;clear hBA;refine Zk rfl 46 (.tmp 3) rfl bi rfl HI1.out Tryz.underlying46 rfl sizeInA rfl ?_)
   |(go_at_call 32;go_loud (refine Calls.mono HC1.out ?_;rintro e w2 ⟨b2,X,rfl,hr2,hb2⟩;rw [HRs.out] at hr2 ⊢;have HR2:Hid (Jr w2 w1.heap.size RP X):=hr2.ans;have HB2:Hid _:=hb2;have HA2:Hid (Blk w2 ba _ 39):=HA1.out.below hb2 HA1.out.lt;clear hr2 hb2))
   |(have hBA:=HA2;refine Y6 39 (.tmp 4) _ rfl ?_;clear hBA;go_loud (refine Zz rfl 39 (.tmp 4) _ rfl ba rfl rfl HA2.out Jk rfl rfl HR2.out.one ?_)))
  have hb9:ba<w1.heap.size:=HA1.out.lt;refine bodyPost_ret (v:=.agg (saC RP X)) (Y5 Tryz.results9 rfl (HA2.out.row _) Tryz.underlying39 rfl Jk rfl) rfl ⟨X,rfl,(HR2.out.block fun k hk=>setRow_other _ _ _ _ (by omega)).le (by have:=HOrd.out;omega),X4 ((HBw.out.trans (HB1.out.mono HBw.out.size)).trans (HB2.out.mono (by have:=HOrd.out;omega))) (by have:=HOrd.out;omega) _⟩
 ·have HRs:Hid (rn9=RP):=by have h9:=HRP.out;unfold Z05 at h9;rw [if_neg hz0] at h9;exact h9
  have hzb:(Yo n != 0)=true:=by simpa using hz0
  clear hz0
  go_wp2_with (first
   |(have hBA:=HF1;refine Zx 36 (.tmp 2) rfl ?_;clear hBA;refine Zk rfl 36 (.tmp 2) rfl w.heap.size rfl HBn.out Tryz.underlying36 rfl Jb rfl ?_)
   |(go_at_call 22;go_loud (refine Calls.mono HF1.out ?_;rintro e w1 ⟨rfl,hb1⟩;have HB1:Hid _:=hb1;have HA1:Hid (Blk w1 ba _ 39):=HBa.out.below hb1 HBa.out.lt;clear hb1 HF1))
   |(have hBA:=HA1;refine Y6 39 (.tmp 4) _ rfl ?_;clear hBA;go_loud (refine Zz rfl 39 (.tmp 4) _ rfl ba rfl rfl HA1.out Jk rfl rfl (by simp [Value.oneCell']) ?_)))
  rw [<-HRs.out];refine bodyPost_ret (v:=.agg (saC rn9 rv9)) (Y5 Tryz.results9 rfl (HA1.out.row _) Tryz.underlying39 rfl Jk rfl) rfl ⟨rv9,rfl,ans9 _ _,X4 (HBw.out.trans (HB1.out.mono HBw.out.size)) (by have:=HOrd.out;omega) _⟩
section
variable {Q:Exit->Act->World->Prop} {K:Act->World->Prop} {c:DC} {d:DnS} {X:RV} {a:Act} {w:World}
theorem Z2h (T:Int)(L:List Ent)(o i:Nat):(Yy T L o)[i]? = if i<L.length-o then L[i]? else L[i]?.map (setTE T):=by
 unfold Yy;have hl:(L.take (L.length-o)).length=L.length-o:=by simp
 split
 ·rename_i h
  rw [List.getElem?_append_left (by rw [hl];exact h),List.getElem?_take_of_lt h]
 ·rename_i h
  rw [List.getElem?_append_right (by rw [hl];omega),hl,List.getElem?_map,List.getElem?_drop];congr 2;omega
theorem Ji (T:Int)(L:List Ent)(o:Nat):(Yy T L o).length=L.length:=by
 unfold Yy;simp <;> omega
theorem dnOwn_zero (T:Int)(L:List Ent):Yy T L 0=L:=by unfold Yy;simp
theorem dnOwn_most (T:Int)(L:List Ent)(o:Nat)(h:L.length<=o):Yy T L o=Yy T L L.length:=by
 unfold Yy;rw [show L.length-o=0 by omega,show L.length-L.length=0 by omega]
theorem dnOwn_succ (T:Int)(L:List Ent)(q i:Nat)(hi:i+1+q=L.length):Yy T L (q+1)=(Yy T L q).set i (setTE T ((Yy T L q)[i]'(by rw [Ji];omega))):=by
 have hi2:i<L.length:=by omega
 have hv:(Yy T L q)[i]'(by rw [Ji];omega)=L[i]:=by
  have h1:=Z2h T L q i;rw [if_pos (by omega),List.getElem?_eq_getElem hi2,List.getElem?_eq_getElem (by rw [Ji];omega)] at h1;injection h1
 rw [hv];refine List.ext_getElem? fun j=>?_
 rw [Z2h,List.getElem?_set,Ji,Z2h];by_cases h1:i=j
 ·subst h1
  rw [if_neg (by omega),if_pos rfl,if_pos hi2,List.getElem?_eq_getElem hi2];rfl
 ·rw [if_neg h1]
  by_cases h2:j<L.length-(q+1)
  ·rw [if_pos h2,if_pos (by omega)]
  ·rw [if_neg h2]
   by_cases h3:j<L.length-q
   ·omega
   ·rw [if_neg h3]
theorem dnR43 (hc:c.Ok){m:Nat}(hm0:m<=899000000)(hb:DB d m)(hF:c.Fr a)(hS:c.N w d X)(hK:∀ a' w',c.Fr a'->c.N w' d X/\a'.eval (.tmp 192)=.bool (decide (d.n.ro=3))->K a' w'):(Z2 0 (Z2 18 (Z9 Tryz.f51))).wp Tryz.prog (Exit.then K Q) a w:=by
 obtain ⟨t,rfl⟩:=hF.opened;have hsz:=hc.sz;have hel:=hc.el;have hid:=hc.id;have hnw:=hb.nw;have hkb:=hb.k;have hlg:=hb.lg;clear hF;have HS:Hid (c.N w d X):=hS;clear hS;obtain ⟨r,hr⟩:∃ r,r=d.n.ro:=⟨_,rfl⟩;have c6:w.cell? ⟨c.b9,6,none⟩=some (.int .i64 r):=by rw [hr];exact HS.out.blk.cell 6
 rw [<-hr] at hK;clear hr
 conv=>arg 2;whnf
 go_wp2_with fail
 exact hK _ _ ⟨rfl,rfl,rfl,rfl,rfl,rfl,rfl,rfl,rfl⟩ ⟨HS.out,by simp [Act.eval];rfl⟩
theorem dnR44 (hc:c.Ok){m:Nat}(hm0:m<=899000000)(hb:DB d m)(hF:c.Fr a)(hS:c.N w d X)(hK:∀ a' w',c.Fr a'->c.N w' ⟨d.n,d.k+1⟩ X/\a'.eval (.tmp 13)=.int .i64 (Z4 c.l d.k 4:Nat)->K a' w'):(Z2 0 (Zo (Z1 1 (Z2 18 (Z9 Tryz.f51))))).wp Tryz.prog (Exit.then K Q) a w:=by
 obtain ⟨t,rfl⟩:=hF.opened;have hsz:=hc.sz;have hel:=hc.el;have hid:=hc.id;have hnw:=hb.nw;have hkb:=hb.k;have hlg:=hb.lg;clear hF;have HS:Hid (c.N w d X):=hS;clear hS;obtain ⟨p,hp⟩:∃ p,p=Z4 c.l d.k 4:=⟨_,rfl⟩;have Hp:Hid (p=Z4 c.l d.k 4):=hp;rw [<-hp] at hK;have bp:p<4:=by rw [hp];exact Zi _ _ _ (by omega)
 clear hp
 conv=>arg 2;whnf
 go_wp2_with (go_at_call 53;go_loud (refine (HS.out.pick1 hc 4 (by omega) (by omega) (by omega)).mono ?_;rw [<-Hp.out];rintro r w9 ⟨rfl,hd⟩;have HS9:Hid (c.N w9 ⟨d.n,d.k+1⟩ X):=hd;clear hd))
 exact hK _ _ ⟨rfl,rfl,rfl,rfl,rfl,rfl,rfl,rfl,rfl⟩ ⟨HS9.out,rfl⟩
theorem dnR45 (hc:c.Ok){m:Nat}(hm0:m<=899000000)(hb:DB d m){e13:Value}(h13:a.eval (.tmp 13)=e13)(hF:c.Fr a)(hS:c.N w d X)(hK:∀ a' w',c.Fr a'->c.N w' d X/\a'.eval (.tmp 13)=e13/\a'.eval (.tmp 14)=.int .i64 ((d.n.log.length:Int)-1)->K a' w'):(Z2 0 (Z2 1 (Zo (Z1 1 (Z2 18 (Z9 Tryz.f51)))))).wp Tryz.prog (Exit.then K Q) a w:=by
 obtain ⟨t,rfl⟩:=hF.opened;have hsz:=hc.sz;have hel:=hc.el;have hid:=hc.id;have hnw:=hb.nw;have hkb:=hb.k;have hlg:=hb.lg;clear hF;have HS:Hid (c.N w d X):=hS;clear hS;have ht:t 13=e13:=h13;obtain ⟨ra,rc,hvl⟩:=HS.out.vl;have c12:w.cell? ⟨c.b9,12,none⟩=some (.slice ra d.n.log.length rc):=by rw [<-hvl];exact HS.out.blk.cell 12
 clear hvl;have Ht:Hid (t 13=e13):=ht;clear ht
 conv=>arg 2;whnf
 go_wp2_with fail
 exact hK _ _ ⟨rfl,rfl,rfl,rfl,rfl,rfl,rfl,rfl,rfl⟩ ⟨HS.out,Ht.out,rfl⟩
theorem dnO1 {L:List Ent}{o q i:Nat}(hc:c.Ok){m:Nat}(hm0:m<=899000000)(hb:DB d m)(hLL:L.length<=200)(hqi:i+1+q=L.length)(hqo:q<o)(ho:o<=10)(hF:c.Fr a)(h14:a.eval (.tmp 14)=.int .i64 ((i:Nat):Int))(h13:a.eval (.tmp 13)=.int .i64 (((o-q:Nat):Int)))(hS:c.N w ⟨{ d.n with log:=Yy d.n.tm L q },d.k⟩ X)(hP:∀ a' w',c.Fr a'->a'.eval (.tmp 14)=.int .i64 ((i:Int)-1)->a'.eval (.tmp 13)=.int .i64 (((o-q:Nat):Int)-1)->c.N w' ⟨{ d.n with log:=Yy d.n.tm L (q+1) },d.k⟩ X->K a' w'):(Zy (Zf (Z1 1 (Z2 1 (Zo (Z1 1 (Z2 18 (Z9 Tryz.f51)))))))).wp Tryz.prog (Exit.then K Q) a w:=by
 obtain ⟨t,rfl⟩:=hF.opened;have hsz:=hc.sz;have hel:=hc.el;have hid:=hc.id;have hnw:=hb.nw;have hkb:=hb.k;have hlg:=hb.lg;clear hF;have HS:Hid (c.N w ⟨{ d.n with log:=Yy d.n.tm L q },d.k⟩ X):=hS;clear hS;have ht:t 14=.int .i64 ((i:Nat):Int):=h14;have ht2:t 13=.int .i64 (((o-q:Nat):Int)):=h13;obtain ⟨D,hD⟩:∃ D,D=o-q:=⟨_,rfl⟩;rw [<-hD] at ht2 hP;have hD1:0<D:=by omega
 have hD2:D<=10:=by omega
 rw [ht,ht2];clear ht ht2 h13 h14 hD;obtain ⟨LQ,hLQ⟩:∃ LQ,LQ=Yy d.n.tm L q:=⟨_,rfl⟩;have hlen:LQ.length=L.length:=by rw [hLQ,Ji]
 have hil:i<LQ.length:=by omega
 have HSu:Hid (Yy d.n.tm L (q+1)=LQ.set i (setTE d.n.tm LQ[i])):=by unfold Hid;rw [dnOwn_succ d.n.tm L q i hqi];subst hLQ;rfl
 have HS1:Hid (c.N w ⟨{ d.n with log:=LQ },d.k⟩ X):=by unfold Hid;rw [hLQ];exact HS.out
 clear HS hLQ;obtain ⟨ra,rc,hvl⟩:=HS1.out.vl;obtain ⟨p,hpa,hE,hfz⟩:=ownAt (k:=i) (by rw [<-hvl];exact HS1.out.logOwn) rfl hil (by unfold maxLen;show LQ.length<=_;omega);subst hpa;have Hvl:Hid (X.vl=.slice (some ⟨p,0,none⟩) LQ.length rc):=hvl;clear hvl;obtain ⟨N,hN⟩:∃ N,N=LQ.length:=⟨_,rfl⟩;have c12:w.cell? ⟨c.b9,12,none⟩=some (.slice (some ⟨p,0,none⟩) N rc):=by rw [hN,<-Hvl.out];exact HS1.out.blk.cell 12
 have c4:w.cell? ⟨c.b9,4,none⟩=some (.int .i64 d.n.tm):=HS1.out.blk.cell 4;have e0:w.cell? ⟨p,i*7,none⟩=some (.int .i64 LQ[i].t):=hE.1;have f0:=hfz (i*7);have hiN:i<N:=by omega
 have hN2:N<=200:=by omega
 have HN:Hid (N=LQ.length):=hN;have Hil:Hid (i<LQ.length):=hil;obtain ⟨T,hT⟩:∃ T,T=d.n.tm:=⟨_,rfl⟩;rw [<-hT] at c4;have HT:Hid (T=d.n.tm):=hT;clear hN hE hfz hlen hT
 conv=>arg 2;whnf
 go_wp2_with fail
 refine hP _ _ ⟨rfl,rfl,rfl,rfl,rfl,rfl,rfl,rfl,rfl⟩ rfl rfl ?_;rw [HSu.out,HT.out];exact HS1.out.logT Hvl.out i Hil.out d.n.tm
theorem dnO2 {R:Exit->Act->World->Prop}{e13 e14:Int}(hc:c.Ok){m:Nat}(hm0:m<=899000000)(hb:DB d m)(hx:e14<0∨e13<=0)(hF:c.Fr a)(h14:a.eval (.tmp 14)=.int .i64 e14)(h13:a.eval (.tmp 13)=.int .i64 e13)(hP:∀ a',c.Fr a'->R (.exit 2) a' w):(Zy (Zf (Z1 1 (Z2 1 (Zo (Z1 1 (Z2 18 (Z9 Tryz.f51)))))))).wp Tryz.prog (Exit.then K R) a w:=by
 obtain ⟨t,rfl⟩:=hF.opened;have hsz:=hc.sz;have hel:=hc.el;have hid:=hc.id;have hnw:=hb.nw;have hkb:=hb.k;have hlg:=hb.lg;clear hF;have ht:t 14=.int .i64 e14:=h14;have ht2:t 13=.int .i64 e13:=h13;rw [ht,ht2];clear ht ht2 h13 h14;have HP:Hid (∀ a',c.Fr a'->R (.exit 2) a' w):=hP;clear hP
 conv=>arg 2;whnf
 by_cases h1:e14<0
 ·go_wp2_with fail
  exact HP.out _ ⟨rfl,rfl,rfl,rfl,rfl,rfl,rfl,rfl,rfl⟩
 ·have h2:e13<=0:=by omega
  have h3:¬ 0<e13:=by omega
  have h4:0<=e14:=by omega
  go_wp2_with fail
  exact HP.out _ ⟨rfl,rfl,rfl,rfl,rfl,rfl,rfl,rfl,rfl⟩
theorem dnO3 {o:Nat}(hc:c.Ok){m:Nat}(hm0:m<=899000000)(hb:DB d m)(ho:o<=10)(hF:c.Fr a)(h14:a.eval (.tmp 14)=.int .i64 ((d.n.log.length:Int)-1))(h13:a.eval (.tmp 13)=.int .i64 (o:Nat))(hS:c.N w d X)(hK:∀ a' w',c.Fr a'->c.N w' ⟨{ d.n with log:=Yy d.n.tm d.n.log o },d.k⟩ X->K a' w'):(Z1 1 (Z2 1 (Zo (Z1 1 (Z2 18 (Z9 Tryz.f51)))))).wp Tryz.prog (Exit.then K Q) a w:=by
 have hlg:=hb.lg;rw [show Z1 1 (Z2 1 (Zo (Z1 1 (Z2 18 (Z9 Tryz.f51)))))=.block 2 (.loop (Zy (Zf (Z1 1 (Z2 1 (Zo (Z1 1 (Z2 18 (Z9 Tryz.f51))))))))) from rfl];refine wp_block ?_;refine wp_loop (fun a w=>∃ q:Nat,q<=o/\q<=d.n.log.length/\c.Fr a/\a.eval (.tmp 14)=.int .i64 ((d.n.log.length:Int)-1-q)/\a.eval (.tmp 13)=.int .i64 (((o-q:Nat):Int))/\c.N w ⟨{ d.n with log:=Yy d.n.tm d.n.log q },d.k⟩ X) (fun a _=>(intOf (a.eval (.tmp 13))).toNat) ⟨0,Nat.zero_le _,Nat.zero_le _,hF,by rw [h14];simp,by rw [h13];rfl,by rw [dnOwn_zero];exact hS⟩ ?_;rintro a1 w1 ⟨q,q1,q2,f1,g14,g13,s1⟩;by_cases hq:q<o/\q<d.n.log.length
 ·obtain ⟨i,hi⟩:∃ i,i+1+q=d.n.log.length:=⟨d.n.log.length-1-q,by omega⟩
  refine dnO1 (L:=d.n.log) (o:=o) (q:=q) (i:=i) hc hm0 hb hlg hi hq.1 ho f1 (by rw [g14];congr 1;omega) g13 s1 ?_;intro a' w' f2 k14 k13 s2;refine ⟨⟨q+1,by omega,by omega,f2,by rw [k14];congr 1;push_cast;omega,by rw [k13];congr 1;omega,s2⟩,?_⟩;rw [k13,g13];simp only [intOf];omega
 ·refine dnO2 hc hm0 hb (e14:=(d.n.log.length:Int)-1-q) (e13:=((o-q:Nat):Int)) (by omega) f1 g14 g13 ?_
  intro a' f2;show Exit.inBlock 2 (Exit.then K Q) (.exit 2) a' w1
  have he:Yy d.n.tm d.n.log q=Yy d.n.tm d.n.log o:=by
   rcases Nat.lt_or_ge q o with h | h
   ·have:q=d.n.log.length:=by omega
    rw [dnOwn_most _ _ o (by omega),this]
   ·have:q=o:=by omega
    rw [this]
  rw [he] at s1;exact hK a' w1 f2 s1
theorem dnR50 (hc:c.Ok){m:Nat}(hm0:m<=899000000)(hb:DB d m)(hF:c.Fr a)(hS:c.N w d X)(hK:∀ a' w',c.Fr a'->c.N w' ⟨d.n,d.k+1⟩ X/\a'.eval (.tmp 218)=.bool (decide (Z4 c.l d.k 2=0))->K a' w'):(Z2 0 (Z2 2 (Zo (Z1 1 (Z2 18 (Z9 Tryz.f51)))))).wp Tryz.prog (Exit.then K Q) a w:=by
 obtain ⟨t,rfl⟩:=hF.opened;have hsz:=hc.sz;have hel:=hc.el;have hid:=hc.id;have hnw:=hb.nw;have hkb:=hb.k;have hlg:=hb.lg;clear hF;have HS:Hid (c.N w d X):=hS;clear hS;obtain ⟨p,hp⟩:∃ p,p=Z4 c.l d.k 2:=⟨_,rfl⟩;have Hp:Hid (p=Z4 c.l d.k 2):=hp;rw [<-hp] at hK;have bp:p<2:=by rw [hp];exact Zi _ _ _ (by omega)
 clear hp
 conv=>arg 2;whnf
 go_wp2_with (go_at_call 53;go_loud (refine (HS.out.pick1 hc 2 (by omega) (by omega) (by omega)).mono ?_;rw [<-Hp.out];rintro r w9 ⟨rfl,hd⟩;have HS9:Hid (c.N w9 ⟨d.n,d.k+1⟩ X):=hd;clear hd))
 exact hK _ _ ⟨rfl,rfl,rfl,rfl,rfl,rfl,rfl,rfl,rfl⟩ ⟨HS9.out,by simp [Act.eval,beq0]⟩
theorem dnR51 (hc:c.Ok){m:Nat}(hm0:m<=899000000)(hb:DB d m)(hF:c.Fr a)(hS:c.N w d X)(hK:∀ a' w',c.Fr a'->c.N w' ⟨{ d.n with cm:=max 0 ((d.n.log.length:Int)-2) },d.k⟩ X->K a' w'):(Zo (Z1 1 (Z2 2 (Zo (Z1 1 (Z2 18 (Z9 Tryz.f51))))))).wp Tryz.prog (Exit.then K Q) a w:=by
 obtain ⟨t,rfl⟩:=hF.opened;have hsz:=hc.sz;have hel:=hc.el;have hid:=hc.id;have hnw:=hb.nw;have hkb:=hb.k;have hlg:=hb.lg;clear hF;have HS:Hid (c.N w d X):=hS;clear hS;obtain ⟨ra,rc,hvl⟩:=HS.out.vl;have c12:w.cell? ⟨c.b9,12,none⟩=some (.slice ra d.n.log.length rc):=by rw [<-hvl];exact HS.out.blk.cell 12
 clear hvl;have c8:w.cell? ⟨c.b9,8,none⟩=some (.int .i64 d.n.cm):=HS.out.blk.cell 8;have f8:w.frozen? ⟨c.b9,8,none⟩=false:=HS.out.blk.free 8;obtain ⟨M,hM⟩:∃ M,M=max 0 ((d.n.log.length:Int)-2):=⟨_,rfl⟩;have HM:Hid (M=max 0 ((d.n.log.length:Int)-2)):=hM;rw [<-hM] at hK;clear hM
 conv=>arg 2;whnf
 go_wp2_with (go_at_call 94;go_loud (refine (l1max_any _ _ _).mono ?_;rw [<-HM.out];rintro r w9 ⟨rfl,hw⟩;obtain rfl:=hw.symm;clear hw))
 exact hK _ _ ⟨rfl,rfl,rfl,rfl,rfl,rfl,rfl,rfl,rfl⟩ (HS.out.set 8 (by omega) _ rfl rfl rfl rfl rfl rfl rfl)
theorem dnI182 (hc:c.Ok){m:Nat}(hm0:m<=898999000)(hb:DB d m)(hF:c.Fr a)(hS:c.N w d X)(hK:∀ a' w',c.Fr a'->c.N w' (if Z4 c.l d.k 2=0 then ⟨{ d.n with cm:=max 0 ((d.n.log.length:Int)-2) },d.k+1⟩ else ⟨d.n,d.k+1⟩) X->K a' w'):(Z2 2 (Zo (Z1 1 (Z2 18 (Z9 Tryz.f51))))).wp Tryz.prog (Exit.then K Q) a w:=by
 rw [show Z2 2 (Zo (Z1 1 (Z2 18 (Z9 Tryz.f51))))=.seq (Z2 0 (Z2 2 (Zo (Z1 1 (Z2 18 (Z9 Tryz.f51)))))) (.cond (.tmp 218) (Zo (Z1 1 (Z2 2 (Zo (Z1 1 (Z2 18 (Z9 Tryz.f51))))))) .skip) from rfl];refine wp_seq_k ?_;intro K2 hK2;refine dnR50 hc (by omega) hb hF hS fun a' w' h1 h2=>hK2 _ _ ?_
 refine wp_cond h2.2 ?_;by_cases h:Z4 c.l d.k 2=0
 ·simp only [h,decide_true,if_true] at hK ⊢
  exact dnR51 (d:=⟨d.n,d.k+1⟩) hc (m:=m+1) (by omega) (hb.step 1 (Nat.le_refl _) rfl rfl rfl) h1 h2.1 hK
 ·simp only [h,decide_false,if_false,Bool.false_eq_true] at hK ⊢
  exact wp_skip (hK _ _ h1 h2.1)
end
section
variable {Q:Exit->Act->World->Prop} {K:Act->World->Prop} {c:DC} {d:DnS} {X:RV} {a:Act} {w:World}
theorem dnG3 {s0:DnG}(hc:c.Ok){m:Nat}(hm0:m<=890000000)(hb:DB d m)(hs0:s0.gr.length<=100)(hs1:s0.ex<=100)(hs2:s0.k<=890000000)(hF:c.Fr a)(h12:a.eval (.tmp 12)=.int .i64 1)(h11:a.eval (.tmp 11)=.int .i64 (s0.ex:Nat))(hS:c.N w ⟨{ d.n with gr:=s0.gr },s0.k⟩ X)(hK:∀ a' w' x',c.Fr a'->c.N w' ⟨{ d.n with gr:=(Xt c.l c.ID s0 c.SZ).gr },(Xt c.l c.ID s0 c.SZ).k⟩ x'->K a' w'):(Z1 2 (Zo (Z1 1 (Z2 17 (Z9 Tryz.f51))))).wp Tryz.prog (Exit.then K Q) a w:=by
 have hsz:=hc.sz;rw [show Z1 2 (Zo (Z1 1 (Z2 17 (Z9 Tryz.f51))))=.block 0 (.loop (Zy (Zf (Z1 2 (Zo (Z1 1 (Z2 17 (Z9 Tryz.f51)))))))) from rfl];refine wp_block ?_;refine wp_loop (fun a w=>∃(j:Nat) (x:RV),j<=c.SZ/\c.Fr a/\a.eval (.tmp 12)=.int .i64 ((j:Int)+1)/\a.eval (.tmp 11)=.int .i64 ((Xt c.l c.ID s0 j).ex:Nat)/\c.N w ⟨{ d.n with gr:=(Xt c.l c.ID s0 j).gr },(Xt c.l c.ID s0 j).k⟩ x) (fun a _=>c.SZ+1-(intOf (a.eval (.tmp 12))).toNat) ⟨0,X,Nat.zero_le _,hF,h12,h11,hS⟩ ?_;rintro a1 w1 ⟨j,x,hj,f1,g12,g11,s1⟩;have hle:=dnGrK_le c.l c.ID s0 j;rcases Nat.lt_or_ge j c.SZ with hlt | hge
 ·refine dnG1 (d:=d) (s:=Xt c.l c.ID s0 j) hc (by omega) hb hlt (by omega) (by omega) (by omega) f1 g12 g11 s1 ?_
  intro a' w' x' f2 k12 k11 s2;refine ⟨⟨j+1,x',by omega,f2,by rw [k12];rfl,k11,s2⟩,?_⟩;rw [k12,g12];simp only [intOf];omega
 ·have he:j=c.SZ:=by omega
  subst he;refine dnG2 (d:=⟨{ d.n with gr:=(Xt c.l c.ID s0 c.SZ).gr },(Xt c.l c.ID s0 c.SZ).k⟩) (e11:=undef) hc (m:=895000000) (by omega) ⟨by show (Xt c.l c.ID s0 c.SZ).k<=_;omega,hb.nw,hb.lg,hb.tm⟩ f1 g12 s1 ?_;intro a' f2;exact hK a' w1 x f2 s1
theorem dnI17 (hc:c.Ok){m:Nat}(hm0:m<=880000000)(hb:DB d m)(hg:d.n.gr.length<=100)(hF:c.Fr a)(hS:c.N w d X)(hK:∀ a' w' x',c.Fr a'->c.N w' (J1 c.l c.h d) x'->K a' w'):(Z2 17 (Z9 Tryz.f51)).wp Tryz.prog (Exit.then K Q) a w:=by
 have hsz:=hc.sz;have hkb:=hb.k;rw [show Z2 17 (Z9 Tryz.f51)=.seq (Z2 0 (Z2 17 (Z9 Tryz.f51))) (.cond (.tmp 156) (Zo (Z1 1 (Z2 17 (Z9 Tryz.f51)))) .skip) from rfl];refine wp_seq_k ?_;intro K2 hK2;refine dnR33 hc (by omega) hb hF hS fun a1 w1 f1 h1=>hK2 _ _ ?_
 refine wp_cond h1.2 ?_;unfold J1 at hK;by_cases h:d.n.ro=1∨d.n.ro=2
 ·simp only [h,decide_true,if_true] at hK ⊢
  rw [show Zo (Z1 1 (Z2 17 (Z9 Tryz.f51)))=.seq (Z2 0 (Zo (Z1 1 (Z2 17 (Z9 Tryz.f51))))) (.seq (Z2 1 (Zo (Z1 1 (Z2 17 (Z9 Tryz.f51))))) (Z1 2 (Zo (Z1 1 (Z2 17 (Z9 Tryz.f51)))))) from rfl];refine wp_seq_k ?_;intro K3 hK3;refine dnR34 hc (by omega) hb f1 h1.1 fun a2 w2 f2 h2=>hK3 _ _ ?_
  refine wp_seq_k ?_;intro K4 hK4;have hp:=Zi c.l d.k (c.SZ / 2) (by omega);refine dnR35 (d:=⟨d.n,d.k+1⟩) hc (m:=m+1) (by omega) (hb.step 1 (Nat.le_refl _) rfl rfl rfl) h2.2 f2 h2.1 fun a3 w3 f3 h3=>hK4 _ _ ?_
  exact dnG3 (d:=d) (s0:=⟨d.n.gr,Z4 c.l d.k (c.SZ / 2),d.k+1⟩) hc (m:=m) (by omega) hb hg (by show Z4 c.l d.k (c.SZ / 2)<=100;omega) (by show d.k+1<=_;omega) f3 h3.2.2 h3.2.1 h3.1 hK
 ·simp only [h,decide_false,if_false,Bool.false_eq_true] at hK ⊢
  exact wp_skip (hK _ _ _ f1 h1.1)
def Z0r (l:List Int)(h:DnH)(LN:Nat)(nw:Int)(r:DnR)(j:Nat):DnR:=
  if j+1=h.id then ⟨r.nx ++ [0],r.mt ++ [0],r.se ++ [0],r.st ++ [0],r.k⟩
  else
   let m6:=min LN 6+1
   let next:Nat:=LN+1-Z4 l r.k m6
   let k1:=r.k+1
   let mt0:=Z4 l k1 next
   let k2:=k1+Zn next
   let mt:Int:=if Z4 l k2 2=0 then (next:Int)-1 else mt0
   let bk:=min nw.toNat (h.el+2)+1
   let se:Int:=nw-(Z4 l (k2+1) bk:Nat)
   let st:Int:=nw-(Z4 l (k2+1+Zn bk) bk:Nat)
   ⟨r.nx ++ [(next:Int)],r.mt ++ [mt],r.se ++ [se],r.st ++ [st],k2+1+Zn bk+Zn bk⟩
theorem Z1i (l:List Int)(h:DnH)(LN:Nat)(nw:Int)(s:DnR)(j:Nat):Xh l h LN nw s (j+1)=Z0r l h LN nw (Xh l h LN nw s j) j:=rfl
theorem Xc (m:Nat):Zn m<=10:=Nat.le_trans (pickK_le m) (by decide)
theorem Z1z (l:List Int)(h:DnH)(LN:Nat)(nw:Int)(s:DnR):∀ j,(Xh l h LN nw s j).nx.length=s.nx.length+j/\(Xh l h LN nw s j).mt.length=s.mt.length+j/\(Xh l h LN nw s j).se.length=s.se.length+j/\(Xh l h LN nw s j).st.length=s.st.length+j/\(Xh l h LN nw s j).k<=s.k+40*j
 | 0=>⟨rfl,rfl,rfl,rfl,Nat.le_refl _⟩
 | j+1=>by
  have ih:=Z1z l h LN nw s j;rw [Z1i];unfold Z0r;generalize Xh l h LN nw s j=r at *;split
  ·simp only [List.length_append,List.length_singleton]
   omega
  ·simp only [List.length_append,List.length_singleton]
   have p1:=Xc (LN+1-Z4 l r.k (min LN 6+1));have p2:=Xc (min nw.toNat (h.el+2)+1);omega
def ndL (n:Nd)(r:DnR):Nd:={ n with nx:=r.nx,mt:=r.mt,se:=r.se,st:=r.st }
theorem dnLY {j:Nat}(hc:c.Ok){m:Nat}(hm0:m<=890000000)(hb:DB d m)(hj:j<c.SZ)(hi:j+1≠c.ID){e16 e17 e18 e19:Value}(hF:c.Fr a)(h15:a.eval (.tmp 15)=.int .i64 ((j:Int)+1))(hS:c.N w d X)(hK:∀ a' w',c.Fr a'->a'.eval (.tmp 15)=.int .i64 ((j:Int)+1)->a'.eval (.tmp 16)=.int .i64 ((d.n.log.length+1-Z4 c.l d.k (min d.n.log.length 6+1):Nat):Int)->a'.eval (.tmp 17)=.int .i64 (if Z4 c.l (d.k+1+Zn (d.n.log.length+1-Z4 c.l d.k (min d.n.log.length 6+1))) 2=0 then ((d.n.log.length+1-Z4 c.l d.k (min d.n.log.length 6+1):Nat):Int)-1 else ((Z4 c.l (d.k+1) (d.n.log.length+1-Z4 c.l d.k (min d.n.log.length 6+1)):Nat):Int))->a'.eval (.tmp 18)=.int .i64 (d.n.nw-((Z4 c.l (d.k+1+Zn (d.n.log.length+1-Z4 c.l d.k (min d.n.log.length 6+1))+1) (min d.n.nw.toNat (c.EL+2)+1):Nat):Int))->a'.eval (.tmp 19)=.int .i64 (d.n.nw-((Z4 c.l (d.k+1+Zn (d.n.log.length+1-Z4 c.l d.k (min d.n.log.length 6+1))+1+Zn (min d.n.nw.toNat (c.EL+2)+1)) (min d.n.nw.toNat (c.EL+2)+1):Nat):Int))->c.N w' ⟨d.n,d.k+1+Zn (d.n.log.length+1-Z4 c.l d.k (min d.n.log.length 6+1))+1+Zn (min d.n.nw.toNat (c.EL+2)+1)+Zn (min d.n.nw.toNat (c.EL+2)+1)⟩ X->K a' w'):(Zo (Z1 1 (Z2 1 (Zf (Z2 1 (Zy (Zf (Z1 4 (Zo (Z1 1 (Z2 18 (Z9 Tryz.f51)))))))))))).wp Tryz.prog (Exit.then K Q) a w:=by
 have hkb:=hb.k;have hlg:=hb.lg;have hel:=hc.el;have hp0:=Zi c.l d.k (min d.n.log.length 6+1) (by omega);rw [show Zo (Z1 1 (Z2 1 (Zf (Z2 1 (Zy (Zf (Z1 4 (Zo (Z1 1 (Z2 18 (Z9 Tryz.f51)))))))))))=.seq (Z2 0 (Zo (Z1 1 (Z2 1 (Zf (Z2 1 (Zy (Zf (Z1 4 (Zo (Z1 1 (Z2 18 (Z9 Tryz.f51))))))))))))) (.seq (Z2 1 (Zo (Z1 1 (Z2 1 (Zf (Z2 1 (Zy (Zf (Z1 4 (Zo (Z1 1 (Z2 18 (Z9 Tryz.f51))))))))))))) (.seq (Z2 2 (Zo (Z1 1 (Z2 1 (Zf (Z2 1 (Zy (Zf (Z1 4 (Zo (Z1 1 (Z2 18 (Z9 Tryz.f51))))))))))))) (.seq (Z2 3 (Zo (Z1 1 (Z2 1 (Zf (Z2 1 (Zy (Zf (Z1 4 (Zo (Z1 1 (Z2 18 (Z9 Tryz.f51))))))))))))) (.seq (Z2 4 (Zo (Z1 1 (Z2 1 (Zf (Z2 1 (Zy (Zf (Z1 4 (Zo (Z1 1 (Z2 18 (Z9 Tryz.f51))))))))))))) (Z1 5 (Zo (Z1 1 (Z2 1 (Zf (Z2 1 (Zy (Zf (Z1 4 (Zo (Z1 1 (Z2 18 (Z9 Tryz.f51))))))))))))))))) from rfl];refine wp_seq_k ?_;intro K1 hK1;refine dnL57 hc (by omega) hb h15 hF hS fun a1 w1 f1 g15 g16 s1=>hK1 _ _ ?_
 obtain ⟨NX,hNX⟩:∃ q,q=d.n.log.length+1-Z4 c.l d.k (min d.n.log.length 6+1):=⟨_,rfl⟩;rw [<-hNX] at hK g16;have pkN:=Xc NX;have pkB:=Xc (min d.n.nw.toNat (c.EL+2)+1);refine wp_seq_k ?_;intro K2 hK2;refine dnL58 (d:=⟨d.n,d.k+1⟩) (NX:=NX) hc (m:=m+1) (by omega) (hb.step 1 (Nat.le_refl _) rfl rfl rfl) (by omega) (by omega) g15 g16 f1 s1 fun a2 w2 f2 k15 k16 k17 s2=>hK2 _ _ ?_
 refine wp_seq_k ?_;intro K3 hK3;have hb2:DB ⟨d.n,d.k+1+Zn NX⟩ (m+20):=hb.step 20 (by show d.k+1+Zn NX<=_;omega) rfl rfl rfl;have hb3:DB ⟨d.n,d.k+1+Zn NX+1⟩ (m+20):=hb.step 20 (by show d.k+1+Zn NX+1<=_;omega) rfl rfl rfl;rw [show Z2 2 (Zo (Z1 1 (Z2 1 (Zf (Z2 1 (Zy (Zf (Z1 4 (Zo (Z1 1 (Z2 18 (Z9 Tryz.f51))))))))))))=.seq (Z2 0 (Z2 2 (Zo (Z1 1 (Z2 1 (Zf (Z2 1 (Zy (Zf (Z1 4 (Zo (Z1 1 (Z2 18 (Z9 Tryz.f51)))))))))))))) (.cond (.tmp 250) (Zo (Z1 1 (Z2 2 (Zo (Z1 1 (Z2 1 (Zf (Z2 1 (Zy (Zf (Z1 4 (Zo (Z1 1 (Z2 18 (Z9 Tryz.f51))))))))))))))) .skip) from rfl];refine wp_seq_k ?_;intro K4 hK4;refine dnL59 (d:=⟨d.n,d.k+1+Zn NX⟩) hc (m:=m+20) (by omega) hb2 k15 k16 k17 f2 s2 fun a3 w3 f3 l15 l16 l17 l250 s3=>hK4 _ _ ?_
 have hrest:∀ a4 w4,c.Fr a4->a4.eval (.tmp 15)=.int .i64 ((j:Int)+1)->a4.eval (.tmp 16)=.int .i64 ((NX:Nat):Int)->a4.eval (.tmp 17)=.int .i64 (if Z4 c.l (d.k+1+Zn NX) 2=0 then ((NX:Nat):Int)-1 else ((Z4 c.l (d.k+1) NX:Nat):Int))->c.N w4 ⟨d.n,d.k+1+Zn NX+1⟩ X->K3 a4 w4:=by
  intro a4 w4 f4 m15 m16 m17 s4;refine hK3 _ _ ?_;refine wp_seq_k ?_;intro K5 hK5;refine dnL61 (d:=⟨d.n,d.k+1+Zn NX+1⟩) hc (m:=m+20) (by omega) hb3 m15 m16 m17 f4 s4 fun a5 w5 f5 n15 n16 n17 n20 s5=>hK5 _ _ ?_
  refine wp_seq_k ?_;intro K6 hK6;have n20c:=n20;refine dnL62 (d:=⟨d.n,d.k+1+Zn NX+1⟩) (bk:=min d.n.nw.toNat (c.EL+2)) hc (m:=m+20) (by omega) hb3 (by omega) n15 n16 n17 n20 f5 s5 fun a6 w6 f6 o15 o16 o17 o20 o18 s6=>hK6 _ _ ?_
  refine dnL63 (d:=⟨d.n,d.k+1+Zn NX+1+Zn (min d.n.nw.toNat (c.EL+2)+1)⟩) (bk:=min d.n.nw.toNat (c.EL+2)) hc (m:=m+40) (by omega) (hb.step 40 (by show d.k+1+Zn NX+1+Zn (min d.n.nw.toNat (c.EL+2)+1)<=_;omega) rfl rfl rfl) (by omega) o15 o16 o17 o18 o20 f6 s6 fun a7 w7 f7 p15 p16 p17 p18 p19 s7=>?_
  exact hK _ _ f7 p15 p16 p17 p18 p19 s7
 refine wp_cond l250 ?_;by_cases h:Z4 c.l (d.k+1+Zn NX) 2=0
 ·simp only [h,decide_true,if_true] at hrest ⊢
  refine dnL60 (d:=⟨d.n,d.k+1+Zn NX+1⟩) (NX:=NX) hc (m:=m+20) (by omega) hb3 (by omega) (by omega) l15 l16 f3 s3 fun a4 w4 f4 m15 m16 m17 s4=>?_
  exact hrest _ _ f4 m15 m16 m17 s4
 ·simp only [h,decide_false,if_false,Bool.false_eq_true] at hrest ⊢
  exact wp_skip (hrest _ _ f3 l15 l16 l17 s3)
theorem dnLX {j:Nat}{r:DnR}(hc:c.Ok){m:Nat}(hm0:m<=890000000)(hb:DB d m)(hj:j<c.SZ)(h1:r.nx.length<=100)(h2:r.mt.length<=100)(h3:r.se.length<=100)(h4:r.st.length<=100)(hrk:r.k<=890000000)(hF:c.Fr a)(h15:a.eval (.tmp 15)=.int .i64 ((j:Int)+1))(hS:c.N w ⟨ndL d.n r,r.k⟩ X)(hK:∀ a' w' x',c.Fr a'->a'.eval (.tmp 15)=.int .i64 ((j:Int)+1+1)->c.N w' ⟨ndL d.n (Z0r c.l c.h d.n.log.length d.n.nw r j),(Z0r c.l c.h d.n.log.length d.n.nw r j).k⟩ x'->K a' w'):(Zy (Zf (Z1 4 (Zo (Z1 1 (Z2 18 (Z9 Tryz.f51))))))).wp Tryz.prog (Exit.then K Q) a w:=by
 have hlg:=hb.lg;have hel:=hc.el;have hbr:∀ kk,kk<=895000000->∀ r':DnR,DB ⟨ndL d.n r',kk⟩ 895000000:=fun kk hk r'=>⟨hk,hb.nw,hb.lg,hb.tm⟩
 rw [show Zy (Zf (Z1 4 (Zo (Z1 1 (Z2 18 (Z9 Tryz.f51))))))=.seq (Z2 0 (Zy (Zf (Z1 4 (Zo (Z1 1 (Z2 18 (Z9 Tryz.f51)))))))) (.seq (.block 5 (Zf (Z2 1 (Zy (Zf (Z1 4 (Zo (Z1 1 (Z2 18 (Z9 Tryz.f51)))))))))) (Z1 2 (Zy (Zf (Z1 4 (Zo (Z1 1 (Z2 18 (Z9 Tryz.f51))))))))) from rfl];refine wp_seq_k ?_;intro K1 hK1;refine dnL53 (d:=⟨ndL d.n r,r.k⟩) hc (m:=895000000) (by omega) (hbr _ (by omega) r) hj h15 hF hS fun a1 w1 f1 g15 s1=>hK1 _ _ ?_
 refine wp_seq_k ?_;intro K2 hK2;refine wp_block ?_
 have hend:∀ a4 w4 kk e16 e17 e18 e19,kk<=895000000->c.Fr a4->a4.eval (.tmp 15)=.int .i64 ((j:Int)+1)->a4.eval (.tmp 16)=.int .i64 e16->a4.eval (.tmp 17)=.int .i64 e17->a4.eval (.tmp 18)=.int .i64 e18->a4.eval (.tmp 19)=.int .i64 e19->c.N w4 ⟨ndL d.n r,kk⟩ X->(∀ a' w' x',c.Fr a'->a'.eval (.tmp 15)=.int .i64 ((j:Int)+1+1)->c.N w' ⟨ndL d.n ⟨r.nx ++ [e16],r.mt ++ [e17],r.se ++ [e18],r.st ++ [e19],kk⟩,kk⟩ x'->K a' w')->(Code.seq (Z2 2 (Zf (Z2 1 (Zy (Zf (Z1 4 (Zo (Z1 1 (Z2 18 (Z9 Tryz.f51)))))))))) (.seq (Z2 3 (Zf (Z2 1 (Zy (Zf (Z1 4 (Zo (Z1 1 (Z2 18 (Z9 Tryz.f51)))))))))) (.seq (Z2 4 (Zf (Z2 1 (Zy (Zf (Z1 4 (Zo (Z1 1 (Z2 18 (Z9 Tryz.f51)))))))))) (Z1 5 (Zf (Z2 1 (Zy (Zf (Z1 4 (Zo (Z1 1 (Z2 18 (Z9 Tryz.f51))))))))))))).wp Tryz.prog (Exit.inBlock 5 (Exit.then K2 (Exit.then K Q))) a4 w4:=by
  intro a4 w4 kk e16 e17 e18 e19 hkk f4 m15 m16 m17 m18 m19 s4 hk;refine wp_seq_k ?_;intro K4 hK4;refine dnL64 (d:=⟨ndL d.n r,kk⟩) (e:=e16) hc (m:=895000000) (by omega) (hbr _ hkk r) (by show r.nx.length<=1000;omega) m15 m17 m18 m19 m16 f4 s4 fun a5 w5 x5 f5 n15 n17 n18 n19 s5=>hK4 _ _ ?_
  refine wp_seq_k ?_;intro K5 hK5;refine dnL65 (d:=⟨ndL d.n ⟨r.nx ++ [e16],r.mt,r.se,r.st,kk⟩,kk⟩) (e:=e17) hc (m:=895000000) (by omega) (hbr _ hkk ⟨r.nx ++ [e16],r.mt,r.se,r.st,kk⟩) (by show r.mt.length<=1000;omega) n15 n18 n19 n17 f5 s5 fun a6 w6 x6 f6 o15 o18 o19 s6=>hK5 _ _ ?_
  refine wp_seq_k ?_;intro K6 hK6;refine dnL66 (d:=⟨ndL d.n ⟨r.nx ++ [e16],r.mt ++ [e17],r.se,r.st,kk⟩,kk⟩) (e:=e18) hc (m:=895000000) (by omega) (hbr _ hkk ⟨r.nx ++ [e16],r.mt ++ [e17],r.se,r.st,kk⟩) (by show r.se.length<=1000;omega) o15 o19 o18 f6 s6 fun a7 w7 x7 f7 p15 p19 s7=>hK6 _ _ ?_
  refine wp_mono (Q:=Exit.then K2 (fun _ _ _=>False)) ?_ ?_
  ·refine dnL67 (d:=⟨ndL d.n ⟨r.nx ++ [e16],r.mt ++ [e17],r.se ++ [e18],r.st,kk⟩,kk⟩) (e:=e19) hc (m:=895000000) (by omega) (hbr _ hkk ⟨r.nx ++ [e16],r.mt ++ [e17],r.se ++ [e18],r.st,kk⟩) (by show r.st.length<=1000;omega) p15 p19 f7 s7 fun a8 w8 x8 f8 q15 s8=>?_
   refine hK2 _ _ ?_;refine dnL54 (d:=⟨ndL d.n ⟨r.nx ++ [e16],r.mt ++ [e17],r.se ++ [e18],r.st ++ [e19],kk⟩,kk⟩) hc (m:=895000000) (by omega) (hbr _ hkk ⟨r.nx ++ [e16],r.mt ++ [e17],r.se ++ [e18],r.st ++ [e19],kk⟩) hj q15 f8 s8 fun a9 w9 f9 r15 s9=>?_
   exact hk _ _ _ f9 r15 s9
  ·intro e a' w' h
   cases e with
   | normal=>exact h
   | exit id=>exact h.elim
   | goto l=>exact h.elim
   | ret=>exact h.elim
   | panic ch=>exact h.elim
   | outgrown=>exact h.elim
 rw [show Zf (Z2 1 (Zy (Zf (Z1 4 (Zo (Z1 1 (Z2 18 (Z9 Tryz.f51))))))))=.seq (Z2 0 (Zf (Z2 1 (Zy (Zf (Z1 4 (Zo (Z1 1 (Z2 18 (Z9 Tryz.f51)))))))))) (.seq (Z2 1 (Zf (Z2 1 (Zy (Zf (Z1 4 (Zo (Z1 1 (Z2 18 (Z9 Tryz.f51)))))))))) (.seq (Z2 2 (Zf (Z2 1 (Zy (Zf (Z1 4 (Zo (Z1 1 (Z2 18 (Z9 Tryz.f51)))))))))) (.seq (Z2 3 (Zf (Z2 1 (Zy (Zf (Z1 4 (Zo (Z1 1 (Z2 18 (Z9 Tryz.f51)))))))))) (.seq (Z2 4 (Zf (Z2 1 (Zy (Zf (Z1 4 (Zo (Z1 1 (Z2 18 (Z9 Tryz.f51)))))))))) (Z1 5 (Zf (Z2 1 (Zy (Zf (Z1 4 (Zo (Z1 1 (Z2 18 (Z9 Tryz.f51)))))))))))))) from rfl];refine wp_seq_k ?_;intro K3 hK3;refine dnL55 (d:=⟨ndL d.n r,r.k⟩) hc (m:=895000000) (by omega) (hbr _ (by omega) r) g15 f1 s1 fun a2 w2 f2 k15 k16 k17 k18 k19 s2=>hK3 _ _ ?_
 refine wp_seq_k ?_;intro K4 hK4;rw [show Z2 1 (Zf (Z2 1 (Zy (Zf (Z1 4 (Zo (Z1 1 (Z2 18 (Z9 Tryz.f51)))))))))=.seq (Z2 0 (Z2 1 (Zf (Z2 1 (Zy (Zf (Z1 4 (Zo (Z1 1 (Z2 18 (Z9 Tryz.f51))))))))))) (.cond (.tmp 232) (Zo (Z1 1 (Z2 1 (Zf (Z2 1 (Zy (Zf (Z1 4 (Zo (Z1 1 (Z2 18 (Z9 Tryz.f51)))))))))))) .skip) from rfl];refine wp_seq_k ?_;intro K5 hK5;refine dnL56 (d:=⟨ndL d.n r,r.k⟩) hc (m:=895000000) (by omega) (hbr _ (by omega) r) k16 k17 k18 k19 k15 f2 s2 fun a3 w3 f3 l16 l17 l18 l19 l15 l232 s3=>hK5 _ _ ?_
 refine wp_cond l232 ?_;by_cases hi:j+1=c.ID
 ·rw [show (decide (j+1≠c.ID))=false by simp [hi]]
  refine wp_skip (hK4 _ _ ?_);refine hend a3 w3 r.k 0 0 0 0 (by omega) f3 l15 l16 l17 l18 l19 s3 fun a' w' x' f' e' s'=>hK a' w' x' f' e' ?_
  rw [show Z0r c.l c.h d.n.log.length d.n.nw r j=⟨r.nx ++ [0],r.mt ++ [0],r.se ++ [0],r.st ++ [0],r.k⟩ by unfold Z0r;rw [if_pos (show j+1=c.h.id from hi)]];exact s'
 ·rw [show (decide (j+1≠c.ID))=true by simp [hi]]
  have pkN:=Xc (d.n.log.length+1-Z4 c.l r.k (min d.n.log.length 6+1));have pkB:=Xc (min d.n.nw.toNat (c.EL+2)+1);refine dnLY (d:=⟨ndL d.n r,r.k⟩) (j:=j) (e16:=undef) (e17:=undef) (e18:=undef) (e19:=undef) hc (m:=890000000) (by omega) ⟨hrk,hb.nw,hb.lg,hb.tm⟩ hj hi f3 l15 s3 fun a4 w4 f4 m15 m16 m17 m18 m19 s4=>hK4 _ _ ?_
  refine hend a4 w4 _ _ _ _ _ ?_ f4 m15 m16 m17 m18 m19 s4 fun a' w' x' f' e' s'=>hK a' w' x' f' e' ?_
  ·show r.k+1+Zn (d.n.log.length+1-Z4 c.l r.k (min d.n.log.length 6+1))+1+Zn (min d.n.nw.toNat (c.EL+2)+1)+Zn (min d.n.nw.toNat (c.EL+2)+1)<=895000000
   omega
  ·have he:Z0r c.l c.h d.n.log.length d.n.nw r j=⟨r.nx ++ [((d.n.log.length+1-Z4 c.l r.k (min d.n.log.length 6+1):Nat):Int)],r.mt ++ [if Z4 c.l (r.k+1+Zn (d.n.log.length+1-Z4 c.l r.k (min d.n.log.length 6+1))) 2=0 then ((d.n.log.length+1-Z4 c.l r.k (min d.n.log.length 6+1):Nat):Int)-1 else ((Z4 c.l (r.k+1) (d.n.log.length+1-Z4 c.l r.k (min d.n.log.length 6+1)):Nat):Int)],r.se ++ [d.n.nw-((Z4 c.l (r.k+1+Zn (d.n.log.length+1-Z4 c.l r.k (min d.n.log.length 6+1))+1) (min d.n.nw.toNat (c.EL+2)+1):Nat):Int)],r.st ++ [d.n.nw-((Z4 c.l (r.k+1+Zn (d.n.log.length+1-Z4 c.l r.k (min d.n.log.length 6+1))+1+Zn (min d.n.nw.toNat (c.EL+2)+1)) (min d.n.nw.toNat (c.EL+2)+1):Nat):Int)],r.k+1+Zn (d.n.log.length+1-Z4 c.l r.k (min d.n.log.length 6+1))+1+Zn (min d.n.nw.toNat (c.EL+2)+1)+Zn (min d.n.nw.toNat (c.EL+2)+1)⟩:=by
    unfold Z0r;rw [if_neg (show ¬ j+1=c.h.id from hi)];rfl
   rw [he];exact s'
theorem dnL3 {s0:DnR}(hc:c.Ok){m:Nat}(hm0:m<=890000000)(hb:DB d m)(h1:s0.nx.length<=50)(h2:s0.mt.length<=50)(h3:s0.se.length<=50)(h4:s0.st.length<=50)(hs2:s0.k<=889000000)(hF:c.Fr a)(h15:a.eval (.tmp 15)=.int .i64 1)(hS:c.N w ⟨ndL d.n s0,s0.k⟩ X)(hK:∀ a' w' x',c.Fr a'->c.N w' ⟨ndL d.n (Xh c.l c.h d.n.log.length d.n.nw s0 c.SZ),(Xh c.l c.h d.n.log.length d.n.nw s0 c.SZ).k⟩ x'->K a' w'):(Z1 4 (Zo (Z1 1 (Z2 18 (Z9 Tryz.f51))))).wp Tryz.prog (Exit.then K Q) a w:=by
 have hsz:=hc.sz;rw [show Z1 4 (Zo (Z1 1 (Z2 18 (Z9 Tryz.f51))))=.block 4 (.loop (Zy (Zf (Z1 4 (Zo (Z1 1 (Z2 18 (Z9 Tryz.f51)))))))) from rfl];refine wp_block ?_;refine wp_loop (fun a w=>∃(j:Nat) (x:RV),j<=c.SZ/\c.Fr a/\a.eval (.tmp 15)=.int .i64 ((j:Int)+1)/\c.N w ⟨ndL d.n (Xh c.l c.h d.n.log.length d.n.nw s0 j),(Xh c.l c.h d.n.log.length d.n.nw s0 j).k⟩ x) (fun a _=>c.SZ+1-(intOf (a.eval (.tmp 15))).toNat) ⟨0,X,Nat.zero_le _,hF,h15,hS⟩ ?_;rintro a1 w1 ⟨j,x,hj,f1,g15,s1⟩;have hle:=Z1z c.l c.h d.n.log.length d.n.nw s0 j;rcases Nat.lt_or_ge j c.SZ with hlt | hge
 ·refine dnLX (d:=d) (r:=Xh c.l c.h d.n.log.length d.n.nw s0 j) hc (by omega) hb hlt (by omega) (by omega) (by omega) (by omega) (by omega) f1 g15 s1 ?_
  intro a' w' x' f2 k15 s2;refine ⟨⟨j+1,x',by omega,f2,by rw [k15];rfl,s2⟩,?_⟩;rw [k15,g15];simp only [intOf];omega
 ·have he:j=c.SZ:=by omega
  subst he;refine dnL0 (d:=⟨ndL d.n (Xh c.l c.h d.n.log.length d.n.nw s0 c.SZ),(Xh c.l c.h d.n.log.length d.n.nw s0 c.SZ).k⟩) hc (m:=895000000) (by omega) ⟨by show (Xh c.l c.h d.n.log.length d.n.nw s0 c.SZ).k<=_;omega,hb.nw,hb.lg,hb.tm⟩ f1 g15 ?_;intro a' f2;exact hK a' w1 x f2 s1
theorem dnR52 (hc:c.Ok){m:Nat}(hm0:m<=899000000)(hb:DB d m)(hF:c.Fr a)(hS:c.N w d X)(hK:∀ a' w',c.Fr a'->c.N w' d X/\a'.eval (.tmp 15)=.int .i64 1->K a' w'):(Z2 3 (Zo (Z1 1 (Z2 18 (Z9 Tryz.f51))))).wp Tryz.prog (Exit.then K Q) a w:=by
 obtain ⟨t,rfl⟩:=hF.opened;have hsz:=hc.sz;have hel:=hc.el;have hid:=hc.id;have hnw:=hb.nw;have hkb:=hb.k;have hlg:=hb.lg;clear hF;have HS:Hid (c.N w d X):=hS;clear hS
 conv=>arg 2;whnf
 go_wp2_with fail
 exact hK _ _ ⟨rfl,rfl,rfl,rfl,rfl,rfl,rfl,rfl,rfl⟩ ⟨HS.out,rfl⟩
theorem dnI18 (hc:c.Ok){m:Nat}(hm0:m<=880000000)(hb:DB d m)(h1:d.n.nx.length<=50)(h2:d.n.mt.length<=50)(h3:d.n.se.length<=50)(h4:d.n.st.length<=50)(hF:c.Fr a)(hS:c.N w d X)(hK:∀ a' w' x',c.Fr a'->c.N w' (Z0a c.l c.h d) x'->K a' w'):(Z2 18 (Z9 Tryz.f51)).wp Tryz.prog (Exit.then K Q) a w:=by
 have hsz:=hc.sz;have hkb:=hb.k;rw [show Z2 18 (Z9 Tryz.f51)=.seq (Z2 0 (Z2 18 (Z9 Tryz.f51))) (.cond (.tmp 192) (Zo (Z1 1 (Z2 18 (Z9 Tryz.f51)))) .skip) from rfl];refine wp_seq_k ?_;intro K2 hK2;refine dnR43 hc (by omega) hb hF hS fun a1 w1 f1 g1=>hK2 _ _ ?_
 refine wp_cond g1.2 ?_;unfold Z0a at hK;by_cases h:d.n.ro=3
 ·rw [if_pos h] at hK
  rw [if_pos (show decide (d.n.ro=3)=true by simp [h])];rw [show Zo (Z1 1 (Z2 18 (Z9 Tryz.f51)))=.seq (Z2 0 (Zo (Z1 1 (Z2 18 (Z9 Tryz.f51))))) (.seq (Z2 1 (Zo (Z1 1 (Z2 18 (Z9 Tryz.f51))))) (.seq (Z2 2 (Zo (Z1 1 (Z2 18 (Z9 Tryz.f51))))) (.seq (Z2 3 (Zo (Z1 1 (Z2 18 (Z9 Tryz.f51))))) (Z1 4 (Zo (Z1 1 (Z2 18 (Z9 Tryz.f51)))))))) from rfl];refine wp_seq_k ?_;intro K3 hK3;refine dnR44 hc (by omega) hb f1 g1.1 fun a2 w2 f2 g2=>hK3 _ _ ?_
  have hp:=Zi c.l d.k 4 (by omega);have hb1:DB ⟨d.n,d.k+1⟩ (m+1):=hb.step 1 (Nat.le_refl _) rfl rfl rfl;refine wp_seq_k ?_;intro K4 hK4;rw [show Z2 1 (Zo (Z1 1 (Z2 18 (Z9 Tryz.f51))))=.seq (Z2 0 (Z2 1 (Zo (Z1 1 (Z2 18 (Z9 Tryz.f51)))))) (Z1 1 (Z2 1 (Zo (Z1 1 (Z2 18 (Z9 Tryz.f51)))))) from rfl];refine wp_seq_k ?_;intro K5 hK5;refine dnR45 (d:=⟨d.n,d.k+1⟩) hc (m:=m+1) (by omega) hb1 g2.2 f2 g2.1 fun a3 w3 f3 g3=>hK5 _ _ ?_
  refine dnO3 (d:=⟨d.n,d.k+1⟩) (o:=Z4 c.l d.k 4) hc (m:=m+1) (by omega) hb1 (by omega) f3 g3.2.2 g3.2.1 g3.1 fun a4 w4 f4 s4=>hK4 _ _ ?_
  have hlen:=Ji d.n.tm d.n.log (Z4 c.l d.k 4);have hb2:DB ⟨{ d.n with log:=Yy d.n.tm d.n.log (Z4 c.l d.k 4) },d.k+1⟩ (m+1):=hb.step 1 (Nat.le_refl _) rfl hlen rfl;refine wp_seq_k ?_;intro K6 hK6;refine dnI182 (d:=⟨{ d.n with log:=Yy d.n.tm d.n.log (Z4 c.l d.k 4) },d.k+1⟩) hc (m:=m+1) (by omega) hb2 f4 s4 fun a5 w5 f5 s5=>hK6 _ _ ?_
  refine wp_seq_k ?_;intro K7 hK7
  have s5':c.N w5 ⟨{ d.n with log:=Yy d.n.tm d.n.log (Z4 c.l d.k 4),cm:=if Z4 c.l (d.k+1) 2=0 then max 0 (((Yy d.n.tm d.n.log (Z4 c.l d.k 4)).length:Int)-2) else d.n.cm },d.k+1+1⟩ X:=by
   by_cases h2:Z4 c.l (d.k+1) 2=0
   ·simp only [h2,if_true] at s5 ⊢;exact s5
   ·simp only [h2,if_false] at s5 ⊢;exact s5
  have hb3:DB ⟨{ d.n with log:=Yy d.n.tm d.n.log (Z4 c.l d.k 4),cm:=if Z4 c.l (d.k+1) 2=0 then max 0 (((Yy d.n.tm d.n.log (Z4 c.l d.k 4)).length:Int)-2) else d.n.cm },d.k+1+1⟩ (m+2):=hb.step 2 (Nat.le_refl _) rfl hlen rfl;refine dnR52 (d:=⟨{ d.n with log:=Yy d.n.tm d.n.log (Z4 c.l d.k 4),cm:=if Z4 c.l (d.k+1) 2=0 then max 0 (((Yy d.n.tm d.n.log (Z4 c.l d.k 4)).length:Int)-2) else d.n.cm },d.k+1+1⟩) hc (m:=m+2) (by omega) hb3 f5 s5' fun a6 w6 f6 g6=>hK7 _ _ ?_
  exact dnL3 (d:=⟨{ d.n with log:=Yy d.n.tm d.n.log (Z4 c.l d.k 4),cm:=if Z4 c.l (d.k+1) 2=0 then max 0 (((Yy d.n.tm d.n.log (Z4 c.l d.k 4)).length:Int)-2) else d.n.cm },d.k+1+1⟩) (s0:=⟨d.n.nx,d.n.mt,d.n.se,d.n.st,d.k+1+1⟩) hc (m:=m+2) (by omega) hb3 h1 h2 h3 h4 (by show d.k+1+1<=_;omega) f6 g6.2 g6.1 hK
 ·simp only [h,decide_false,if_false,Bool.false_eq_true] at hK ⊢
  exact wp_skip (hK _ _ _ f1 g1.1)
end
section
variable {Q:Exit->Act->World->Prop} {K:Act->World->Prop} {c:DC} {d:DnS} {X:RV} {a:Act} {w:World}
theorem Z3k:(Tryz.prog.info? 36).map (·.size)=some 18:=by kernel_rfl
structure NdO (w:World) (B:Nat) (n:Nd) (x:RV):Prop where
 log:Zp w B x.vl n.log
 gr:Zg inC 1 3 w B x.vg n.gr
 nx:Zg inC 1 3 w B x.vn n.nx
 mt:Zg inC 1 3 w B x.vm n.mt
 se:Zg inC 1 3 w B x.vs n.se
 st:Zg inC 1 3 w B x.vt n.st
 ap:[x.vg,x.vn,x.vm,x.vs,x.vt].Pairwise Ya
theorem NdO.keep {w w':World}{B:Nat}{n:Nd}{x:RV}(h:NdO w B n x)(hk:∀ q,B<=q->q<w.heap.size->w'.heap[q]? = w.heap[q]?):NdO w' B n x:=by
 have hg:∀ {v:Value} {l:List Int},Zg inC 1 3 w B v l->Zg inC 1 3 w' B v l:=fun ho=>ho.block fun q e=>hk q (ho.lts q e).1 (ho.lts q e).2
 exact ⟨h.log.block fun q e=>hk q (World.ownsRow.lt h.log.2 q e).1 (World.ownsRow.lt h.log.2 q e).2,hg h.gr,hg h.nx,hg h.mt,hg h.se,hg h.st,h.ap⟩
theorem NdO.le {w:World}{B B':Nat}{n:Nd}{x:RV}(h:NdO w B n x)(hB:B'<=B):NdO w B' n x:=⟨h.log.le hB,h.gr.le hB,h.nx.le hB,h.mt.le hB,h.se.le hB,h.st.le hB,h.ap⟩
theorem NdO.one {w:World}{B:Nat}{n:Nd}{x:RV}(h:NdO w B n x):(ndC n x).all (·.oneCell')=true/\NoU8 (ndC n x):=by
 obtain ⟨a1,c1,e1⟩:=h.log.shape;obtain ⟨a2,c2,e2⟩:=h.gr.shape;obtain ⟨a3,c3,e3⟩:=h.nx.shape;obtain ⟨a4,c4,e4⟩:=h.mt.shape;obtain ⟨a5,c5,e5⟩:=h.se.shape;obtain ⟨a6,c6,e6⟩:=h.st.shape;unfold ndC;rw [e1,e2,e3,e4,e5,e6];exact ⟨by simp [Value.oneCell'],Yl rfl⟩
structure RtN (c:DC) (w:World) (d:DnS) (x:RV):Prop where
 dr:Dr c.w0 w c.g c.v c.l d.k [(c.b4,ndC d.n x,36),(c.b5,c.S,104),(c.b9,ndC d.n x,36)]
 own:NdO w c.w0.heap.size d.n x
theorem DC.N.ndo (h:c.N w d X):NdO w c.w0.heap.size d.n X:=⟨NS.log h,NS.gr h,NS.nx h,NS.mt h,NS.se h,NS.st h,NS.ap h⟩
theorem DC.N.rt (h:c.N w d X):RtN c (w.setRow c.b4 (ndC d.n X)) d X:=by
 have hR:=(NS.dr h).row 0 rfl (ndC d.n X) h.ndo.one.2;have hset:∀ q,q≠c.b4->(w.setRow c.b4 (ndC d.n X)).heap[q]? = w.heap[q]?:=fun q hq=>setRow_other _ _ _ _ hq
 have hg:∀ {v:Value} {l:List Int},Zg inC 1 3 w c.w0.heap.size v l->Zg inC 1 3 (w.setRow c.b4 (ndC d.n X)) c.w0.heap.size v l:=fun ho=>ho.block fun q e=>hset q (Zu ho h.res (by decide) q e)
 exact ⟨hR,h.ndo.log.block fun q e=>hset q (Ym h.ndo.log h.res (by decide) q e),hg h.ndo.gr,hg h.ndo.nx,hg h.ndo.mt,hg h.ndo.se,hg h.ndo.st,h.ndo.ap⟩
theorem dnR68 (hc:c.Ok){m:Nat}(hm0:m<=899000000)(hb:DB d m)(hF:c.Fr a)(hS:c.N w d X)(hP:∀ a' w',c.Fr a'->RtN c w' d X->K a' w'):(Z2 19 (Z9 Tryz.f51)).wp Tryz.prog (Exit.then K Q) a w:=by
 obtain ⟨t,rfl⟩:=hF.opened;have hsz:=hc.sz;have hel:=hc.el;have hid:=hc.id;have hnw:=hb.nw;have hkb:=hb.k;have hlg:=hb.lg;clear hF;have HS:Hid (c.N w d X):=hS;clear hS;have Ho:Hid ((ndC d.n X).all (·.oneCell')=true):=HS.out.ndo.one.1;obtain ⟨C,hC⟩:∃ C,C=ndC d.n X:=⟨_,rfl⟩;have HB:Hid (Blk w c.b9 C 36):=by unfold Hid;rw [hC];exact HS.out.blk
 have HR:Hid (RtN c (w.setRow c.b4 C) d X):=by unfold Hid;rw [hC];exact HS.out.rt
 have HC1:Hid (18=C.size):=by unfold Hid;rw [hC];rfl
 rw [<-hC] at Ho;clear hC;have HR4:Hid (Blk w c.b4 J9 36):=HS.out.res;have hBA:True:=trivial;have hBB:True:=trivial
 conv=>arg 2;whnf
 go_wp2_with (first
  |(refine Zx 36 (.tmp 9) rfl ?_;clear hBA;refine Zk rfl 36 (.tmp 9) rfl c.b9 rfl HB.out Tryz.underlying36 rfl Z3k HC1.out ?_)
  |(refine Y6 36 (.tmp 4) _ rfl ?_;clear hBB;refine Zz rfl 36 (.tmp 4) _ rfl c.b4 rfl rfl HR4.out Z3k HC1.out HC1.out Ho.out ?_))
 exact hP _ _ ⟨rfl,rfl,rfl,rfl,rfl,rfl,rfl,rfl,rfl⟩ HR.out
theorem dnRo_n (l:List Int)(h:DnH)(T:Int)(d:DnS):(Jn l h T d).n.nw=d.n.nw/\(Jn l h T d).n.log=d.n.log/\(Jn l h T d).n.tm=d.n.tm/\(Jn l h T d).n.gr=d.n.gr/\(Jn l h T d).n.nx=d.n.nx/\(Jn l h T d).n.mt=d.n.mt/\(Jn l h T d).n.se=d.n.se/\(Jn l h T d).n.st=d.n.st/\(Jn l h T d).k<=d.k+2:=by
 unfold Jn;dsimp only;split
 ·exact ⟨rfl,rfl,rfl,rfl,rfl,rfl,rfl,rfl,Nat.le_refl _⟩
 ·split
  ·exact ⟨rfl,rfl,rfl,rfl,rfl,rfl,rfl,rfl,by dsimp only;omega⟩
  ·split
   ·exact ⟨rfl,rfl,rfl,rfl,rfl,rfl,rfl,rfl,by dsimp only;omega⟩
   ·split
    ·exact ⟨rfl,rfl,rfl,rfl,rfl,rfl,rfl,rfl,by dsimp only;omega⟩
    ·exact ⟨rfl,rfl,rfl,rfl,rfl,rfl,rfl,rfl,by dsimp only;omega⟩
theorem dnDl_n (l:List Int)(el:Nat)(d:DnS):(Ja l el d).n.nw=d.n.nw/\(Ja l el d).n.log=d.n.log/\(Ja l el d).n.tm=d.n.tm/\(Ja l el d).n.gr=d.n.gr/\(Ja l el d).n.nx=d.n.nx/\(Ja l el d).n.mt=d.n.mt/\(Ja l el d).n.se=d.n.se/\(Ja l el d).n.st=d.n.st/\(Ja l el d).k<=d.k+12:=by
 have:=Xc (2*el+1);unfold Ja;dsimp only;split
 ·exact ⟨rfl,rfl,rfl,rfl,rfl,rfl,rfl,rfl,by dsimp only;omega⟩
 ·exact ⟨rfl,rfl,rfl,rfl,rfl,rfl,rfl,rfl,by dsimp only;omega⟩
theorem dnGr_n (l:List Int)(h:DnH)(d:DnS):(J1 l h d).n.nw=d.n.nw/\(J1 l h d).n.log=d.n.log/\(J1 l h d).n.tm=d.n.tm/\(J1 l h d).n.nx=d.n.nx/\(J1 l h d).n.mt=d.n.mt/\(J1 l h d).n.se=d.n.se/\(J1 l h d).n.st=d.n.st/\(J1 l h d).k<=d.k+1+h.sz:=by
 unfold J1;split
 ·have:=dnGrK_le l h.id ⟨d.n.gr,Z4 l d.k (h.sz / 2),d.k+1⟩ h.sz
  exact ⟨rfl,rfl,rfl,rfl,rfl,rfl,rfl,by dsimp only;exact this.2.1⟩
 ·exact ⟨rfl,rfl,rfl,rfl,rfl,rfl,rfl,by omega⟩
theorem dnTail (hc:c.Ok){m:Nat}(hm0:m<=860000000)(hb:DB d m)(hz:d.n.gr = []/\d.n.nx = []/\d.n.mt = []/\d.n.se = []/\d.n.st = [])(hF:c.Fr a)(hS:c.N w d X)(hK:∀ a' w' x',c.Fr a'->RtN c w' (Z0a c.l c.h (J1 c.l c.h (Jn c.l c.h c.T (Z07 c.l (Jo c.l c.EL (Ja c.l c.EL d)))))) x'->Q .ret a' w'):(Z1 11 (Z9 Tryz.f51)).wp Tryz.prog Q a w:=by
 have hsz:=hc.sz;have hkb:=hb.k;rw [show Z1 11 (Z9 Tryz.f51)=.seq (Z2 11 (Z9 Tryz.f51)) (.seq (Z2 12 (Z9 Tryz.f51)) (.seq (Z2 13 (Z9 Tryz.f51)) (.seq (Z2 14 (Z9 Tryz.f51)) (.seq (Z2 15 (Z9 Tryz.f51)) (.seq (Z2 16 (Z9 Tryz.f51)) (.seq (Z2 17 (Z9 Tryz.f51)) (.seq (Z2 18 (Z9 Tryz.f51)) (.seq (Z2 19 (Z9 Tryz.f51)) .ret)))))))) from rfl];refine wp_seq_k ?_;intro K1 hK1;refine dnR14 hc (by omega) hb hF hS fun a1 w1 f1 s1=>hK1 _ _ ?_
 have pk1:=Xc (2*c.EL+1);refine wp_seq_k ?_;intro K2 hK2;refine dnI12 (d:=⟨{ d.n with dl:=d.n.nw+(Z4 c.l d.k (2*c.EL+1):Nat) },d.k+Zn (2*c.EL+1)⟩) hc (m:=m+20) (by omega) (hb.step 20 (by dsimp only;omega) rfl rfl rfl) f1 s1 fun a2 w2 f2 s2=>hK2 _ _ ?_
 have s2':c.N w2 (Ja c.l c.EL d) X:=by
  unfold Ja;dsimp only at s2 ⊢;split
  ·rename_i h;rw [if_pos h] at s2;exact s2
  ·rename_i h;rw [if_neg h] at s2;exact s2
 obtain ⟨u1,u2,u3,u4,u5,u6,u7,u8,u9⟩:=dnDl_n c.l c.EL d;clear s2 s1;obtain ⟨d2,hd2⟩:∃ e,e=Ja c.l c.EL d:=⟨_,rfl⟩;rw [<-hd2] at s2' hK u1 u2 u3 u4 u5 u6 u7 u8 u9;have hb2:DB d2 (m+20):=hb.step 20 (by omega) u1 (by rw [u2]) u3;refine wp_seq_k ?_;intro K3 hK3;refine dnR17 hc (m:=m+20) (by omega) hb2 f2 s2' fun a3 w3 f3 s3=>hK3 _ _ ?_
 have pk3:=Xc (min d2.n.nw.toNat (2*c.EL)+1);have hb3:DB (Jo c.l c.EL d2) (m+20+20):=hb2.step 20 (by unfold Jo;dsimp only;omega) rfl rfl rfl;refine wp_seq_k ?_;intro K4 hK4;refine dnR18 hc (m:=m+20+20) (by omega) hb3 f3 s3 fun a4 w4 f4 s4=>hK4 _ _ ?_
 have pk4:=Xc ((Jo c.l c.EL d2).n.log.length+1);have hb4:DB (Z07 c.l (Jo c.l c.EL d2)) (m+20+20+20):=hb3.step 20 (by unfold Z07;dsimp only;omega) rfl rfl rfl;have y1:(Z07 c.l (Jo c.l c.EL d2)).n.gr=d2.n.gr:=rfl;have y2:(Z07 c.l (Jo c.l c.EL d2)).n.nx=d2.n.nx:=rfl;have y3:(Z07 c.l (Jo c.l c.EL d2)).n.mt=d2.n.mt:=rfl;have y4:(Z07 c.l (Jo c.l c.EL d2)).n.se=d2.n.se:=rfl;have y5:(Z07 c.l (Jo c.l c.EL d2)).n.st=d2.n.st:=rfl;obtain ⟨d4,hd4⟩:∃ e,e=Z07 c.l (Jo c.l c.EL d2):=⟨_,rfl⟩;rw [<-hd4] at s4 hK hb4 y1 y2 y3 y4 y5;refine wp_seq_k ?_;intro K5 hK5;refine dnR19 hc (m:=m+20+20+20) (by omega) hb4 f4 s4 fun a5 w5 f5 s5=>hK5 _ _ ?_
 refine wp_seq_k ?_;intro K6 hK6;refine dnI16 (d:=d4) hc (m:=m+20+20+20) (by omega) hb4 s5.2 f5 s5.1 fun a6 w6 f6 s6=>hK6 _ _ ?_
 obtain ⟨r1,r2,r3,r4,r5,r6,r7,r8,r9⟩:=dnRo_n c.l c.h c.T d4;obtain ⟨d6,hd6⟩:∃ e,e=Jn c.l c.h c.T d4:=⟨_,rfl⟩;rw [<-hd6] at s6 hK r1 r2 r3 r4 r5 r6 r7 r8 r9;have hb6:DB d6 (m+20+20+20+2):=hb4.step 2 (by omega) r1 (by rw [r2]) r3;refine wp_seq_k ?_;intro K7 hK7;refine dnI17 (d:=d6) hc (m:=m+20+20+20+2) (by omega) hb6 (by rw [r4,y1,u4,hz.1];exact Nat.zero_le _) f6 s6 fun a7 w7 x7 f7 s7=>hK7 _ _ ?_
 obtain ⟨g1,g2,g3,g4,g5,g6,g7,g8⟩:=dnGr_n c.l c.h d6;have hsz':c.h.sz<=7:=hsz.2;have hb7:DB (J1 c.l c.h d6) (m+20+20+20+2+20):=hb6.step 20 (by omega) g1 (by rw [g2]) g3;refine wp_seq_k ?_;intro K8 hK8;refine dnI18 (d:=J1 c.l c.h d6) hc (m:=m+20+20+20+2+20) (by omega) hb7 (by rw [g4,r5,y2,u5,hz.2.1];exact Nat.zero_le _) (by rw [g5,r6,y3,u6,hz.2.2.1];exact Nat.zero_le _) (by rw [g6,r7,y4,u7,hz.2.2.2.1];exact Nat.zero_le _) (by rw [g7,r8,y5,u8,hz.2.2.2.2];exact Nat.zero_le _) f7 s7 fun a8 w8 x8 f8 s8=>hK8 _ _ ?_
 refine wp_seq_k ?_;intro K9 hK9
 have hb8:DB (Z0a c.l c.h (J1 c.l c.h d6)) 899000000:=by
  have hk7:=hb7.k;unfold Z0a;split
  ·have hl:=Z1z c.l c.h (Yy (J1 c.l c.h d6).n.tm (J1 c.l c.h d6).n.log (Z4 c.l (J1 c.l c.h d6).k 4)).length (J1 c.l c.h d6).n.nw ⟨(J1 c.l c.h d6).n.nx,(J1 c.l c.h d6).n.mt,(J1 c.l c.h d6).n.se,(J1 c.l c.h d6).n.st,(J1 c.l c.h d6).k+1+1⟩ c.h.sz
   refine ⟨?_,hb7.nw,?_,hb7.tm⟩
   ·refine Nat.le_trans hl.2.2.2.2 ?_
    dsimp only;omega
   ·dsimp only;rw [Ji];exact hb7.lg
  ·exact ⟨by omega,hb7.nw,hb7.lg,hb7.tm⟩
 refine dnR68 (d:=Z0a c.l c.h (J1 c.l c.h d6)) hc (m:=899000000) (by omega) hb8 f8 s8 fun a9 w9 f9 s9=>hK9 _ _ ?_
 exact wp_ret (hK _ _ _ f9 s9)
end
structure NdS (w:World) (B b:Nat) (n:Nd) (x:RV):Prop where
 blk:Blk w b (ndC n x) 36
 own:NdO w B n x
theorem Z1y (w:World)(B:Nat)(hB:B<=w.heap.size)(A:Array Value){q:List Int}(hA:A.toList=gC inC q)(hq:q.length<=1000):Zg inC 1 3 (w.alloc (.cells A 3)) B (.slice (some ⟨w.heap.size,0,none⟩) q.length q.length) q:=by
 have hl:A.size=q.length:=by
  have:=congrArg List.length hA;rw [gC_len (m:=1) (fun _=>rfl)] at this;simpa using this
 refine ⟨by rw [gC_len (m:=1) (fun _=>rfl)],.inr ⟨w.heap.size,q.length,A,rfl,hB,?_,Nat.le_refl _,by unfold maxLen;omega,?_,?_⟩⟩
 ·show (w.heap.push _)[_]? = _
  simp
 ·rw [hl];omega
 ·rw [<-hA,<-hl];simp [List.take_of_length_le]
section
variable {w w2 w3 w':World} {B B' b:Nat} {n n':Nd} {x x':RV} {u:Value} {q:List Int}
theorem NdS.keep (h:NdS w B b n x)(hk:∀ q,B<=q∨q=b->q<w.heap.size->w'.heap[q]? = w.heap[q]?):NdS w' B b n x:=⟨h.blk.keep (hk b (.inr rfl) h.blk.lt),h.own.keep fun q h1 h2=>hk q (.inl h1) h2⟩
theorem NdS.below (h:NdS w B b n x)(hb:Below w.heap.size w w'):NdS w' B b n x:=h.keep fun q _ h2=>hb.block q h2
theorem NdO.neB (h:NdO w B n x){b':Nat}{C:Array Value}{t:TypeId}(hb:Blk w b' C t)(h1:118≠t)(h2:3≠t)(hk:∀ q,q≠b'->w'.heap[q]? = w.heap[q]?):NdO w' B n x:=by
 have hg:∀ {v:Value} {l:List Int},Zg inC 1 3 w B v l->Zg inC 1 3 w' B v l:=fun ho=>ho.block fun q e=>hk q (Zu ho hb h2 q e)
 exact ⟨h.log.block fun q e=>hk q (Ym h.log hb h1 q e),hg h.gr,hg h.nx,hg h.mt,hg h.se,hg h.st,h.ap⟩
theorem NdS.set (h:NdS w B b n x)(j:Nat)(hj:j<12)(y:Int)(hc:(ndC n x).setIfInBounds j (.int .i64 y)=ndC n' x)
  (e1:n'.log=n.log) (e2:n'.gr=n.gr) (e3:n'.nx=n.nx) (e4:n'.mt=n.mt) (e5:n'.se=n.se) (e6:n'.st=n.st):NdS (w.setCell ⟨b,j,none⟩ (.int .i64 y)) B b n' x:=by
 have h1:=h.own.neB (w':=w.setCell ⟨b,j,none⟩ (.int .i64 y)) h.blk (by decide) (by decide) fun q hq=>Below.heap_setCell _ _ _ _ hq
 have h2:=h.blk.set j (.int .i64 y);rw [hc] at h2;exact ⟨h2,by rw [e1];exact h1.log,by rw [e2];exact h1.gr,by rw [e3];exact h1.nx,by rw [e4];exact h1.mt,by rw [e5];exact h1.se,by rw [e6];exact h1.st,h1.ap⟩
theorem NdS.row {C:Array Value}(hb:Blk w b C 36)(hs:C.size=18)(h:NdO w B n x):NdS (w.setRow b (ndC n x)) B b n x:=
 ⟨hb.row (ndC n x),h.neB hb (by decide) (by decide) fun q hq=>setRow_other _ _ _ _ hq⟩
theorem NdS.grNew (h:NdS w B b n x)(h2:Below w.heap.size w w2)(ho:Zg inC 1 3 w3 B u q)(hg:Xa w2 x.vg w3 u) :
  Blk w3 b (ndC n x) 36/\NdS (w3.setCell ⟨b,13,none⟩ u) B b { n with gr:=q } { x with vg:=u }:=by
 have hs2:=h2.size;have hno:∀ p,x.vg.ownBlock=some p->B<=p/\p<w.heap.size/\p≠b:=fun p e=>⟨(h.own.gr.lts p e).1,(h.own.gr.lts p e).2,Zu h.own.gr h.blk (by decide) p e⟩
 have hk3:∀ p,p<w.heap.size->x.vg.ownBlock≠some p->w3.heap[p]? = w.heap[p]?:=fun p hp hne=>(hg.g.block p (by omega) (fun e=>hne e.symm)).trans (h2.block p hp)
 have hset:∀ p,p≠b->(w3.setCell ⟨b,13,none⟩ u).heap[p]? = w3.heap[p]?:=fun p hp=>Below.heap_setCell _ _ _ _ hp
 have hmv:∀ {α:Type} {cs:α->List Value} {m':Nat} {T:TypeId} {y:Value} {q:List α},T≠36->Zg cs m' T w B y q->Ya x.vg y->Zg cs m' T (w3.setCell ⟨b,13,none⟩ u) B y q:=fun h1 ho' ha=>ho'.block fun p e=>(hset p (Zu ho' h.blk h1 p e)).trans (hk3 p (ho'.lts p e).2 fun e'=>ha p e' e)
 have hnb:∀ p,u.ownBlock=some p->p≠b:=fun p e=>by
  rcases hg.at' with e' | ⟨r,e',hp⟩
  ·rw [e] at e';exact (hno p e'.symm).2.2
  ·rw [e] at e';cases e';have:=h.blk.lt;omega
 have hA:∀ {y:Value} {q':List Int},Zg inC 1 3 w B y q'->Ya x.vg y->Ya u y:=fun hu ha p e1 e2=>by
  rcases hg.at' with e' | ⟨r,e',hp⟩
  ·rw [e1] at e';exact ha p e'.symm e2
  ·rw [e1] at e';cases e';have:=(hu.lts _ e2).2;omega
 have hB3:Blk w3 b (ndC n x) 36:=h.blk.keep (hk3 b h.blk.lt fun e=>(hno b e).2.2 rfl);refine ⟨hB3,hB3.set 13 u,Zg.e (hmv (by decide) h.own.log.g (J3 h.own.gr h.own.log.g (by decide))) h.own.log.1,ho.block fun p e=>hset p (hnb p e),hmv (by decide) h.own.nx (Zc h.own.ap 0 1 (by decide) rfl rfl),hmv (by decide) h.own.mt (Zc h.own.ap 0 2 (by decide) rfl rfl),hmv (by decide) h.own.se (Zc h.own.ap 0 3 (by decide) rfl rfl),hmv (by decide) h.own.st (Zc h.own.ap 0 4 (by decide) rfl rfl),pw5 ((hA h.own.nx (Zc h.own.ap 0 1 (by decide) rfl rfl))) ((hA h.own.mt (Zc h.own.ap 0 2 (by decide) rfl rfl))) ((hA h.own.se (Zc h.own.ap 0 3 (by decide) rfl rfl))) ((hA h.own.st (Zc h.own.ap 0 4 (by decide) rfl rfl))) ((Zc h.own.ap 1 2 (by decide) rfl rfl)) ((Zc h.own.ap 1 3 (by decide) rfl rfl)) ((Zc h.own.ap 1 4 (by decide) rfl rfl)) ((Zc h.own.ap 2 3 (by decide) rfl rfl)) ((Zc h.own.ap 2 4 (by decide) rfl rfl)) ((Zc h.own.ap 3 4 (by decide) rfl rfl))⟩
theorem NdS.nxNew (h:NdS w B b n x)(h2:Below w.heap.size w w2)(ho:Zg inC 1 3 w3 B u q)(hg:Xa w2 x.vn w3 u) :
  Blk w3 b (ndC n x) 36/\NdS (w3.setCell ⟨b,14,none⟩ u) B b { n with nx:=q } { x with vn:=u }:=by
 have hs2:=h2.size;have hno:∀ p,x.vn.ownBlock=some p->B<=p/\p<w.heap.size/\p≠b:=fun p e=>⟨(h.own.nx.lts p e).1,(h.own.nx.lts p e).2,Zu h.own.nx h.blk (by decide) p e⟩
 have hk3:∀ p,p<w.heap.size->x.vn.ownBlock≠some p->w3.heap[p]? = w.heap[p]?:=fun p hp hne=>(hg.g.block p (by omega) (fun e=>hne e.symm)).trans (h2.block p hp)
 have hset:∀ p,p≠b->(w3.setCell ⟨b,14,none⟩ u).heap[p]? = w3.heap[p]?:=fun p hp=>Below.heap_setCell _ _ _ _ hp
 have hmv:∀ {α:Type} {cs:α->List Value} {m':Nat} {T:TypeId} {y:Value} {q:List α},T≠36->Zg cs m' T w B y q->Ya x.vn y->Zg cs m' T (w3.setCell ⟨b,14,none⟩ u) B y q:=fun h1 ho' ha=>ho'.block fun p e=>(hset p (Zu ho' h.blk h1 p e)).trans (hk3 p (ho'.lts p e).2 fun e'=>ha p e' e)
 have hnb:∀ p,u.ownBlock=some p->p≠b:=fun p e=>by
  rcases hg.at' with e' | ⟨r,e',hp⟩
  ·rw [e] at e';exact (hno p e'.symm).2.2
  ·rw [e] at e';cases e';have:=h.blk.lt;omega
 have hA:∀ {y:Value} {q':List Int},Zg inC 1 3 w B y q'->Ya x.vn y->Ya u y:=fun hu ha p e1 e2=>by
  rcases hg.at' with e' | ⟨r,e',hp⟩
  ·rw [e1] at e';exact ha p e'.symm e2
  ·rw [e1] at e';cases e';have:=(hu.lts _ e2).2;omega
 have hB3:Blk w3 b (ndC n x) 36:=h.blk.keep (hk3 b h.blk.lt fun e=>(hno b e).2.2 rfl);refine ⟨hB3,hB3.set 14 u,Zg.e (hmv (by decide) h.own.log.g (J3 h.own.nx h.own.log.g (by decide))) h.own.log.1,hmv (by decide) h.own.gr (Zc h.own.ap 0 1 (by decide) rfl rfl).symm,ho.block fun p e=>hset p (hnb p e),hmv (by decide) h.own.mt (Zc h.own.ap 1 2 (by decide) rfl rfl),hmv (by decide) h.own.se (Zc h.own.ap 1 3 (by decide) rfl rfl),hmv (by decide) h.own.st (Zc h.own.ap 1 4 (by decide) rfl rfl),pw5 ((hA h.own.gr (Zc h.own.ap 0 1 (by decide) rfl rfl).symm).symm) ((Zc h.own.ap 0 2 (by decide) rfl rfl)) ((Zc h.own.ap 0 3 (by decide) rfl rfl)) ((Zc h.own.ap 0 4 (by decide) rfl rfl)) ((hA h.own.mt (Zc h.own.ap 1 2 (by decide) rfl rfl))) ((hA h.own.se (Zc h.own.ap 1 3 (by decide) rfl rfl))) ((hA h.own.st (Zc h.own.ap 1 4 (by decide) rfl rfl))) ((Zc h.own.ap 2 3 (by decide) rfl rfl)) ((Zc h.own.ap 2 4 (by decide) rfl rfl)) ((Zc h.own.ap 3 4 (by decide) rfl rfl))⟩
theorem NdS.nxLit (h:NdS w B b n x)(hB:B<=w.heap.size)(A:Array Value)(hA:A.toList=gC inC q)(hq:q.length<=1000):Blk (w.alloc (.cells A 3)) b (ndC n x) 36/\NdS ((w.alloc (.cells A 3)).setCell ⟨b,14,none⟩ (.slice (some ⟨w.heap.size,0,none⟩) q.length q.length)) B b { n with nx:=q } { x with vn:=.slice (some ⟨w.heap.size,0,none⟩) q.length q.length }:=by
 refine h.nxNew (Below.refl _ _) (Z1y w B hB A hA hq) ⟨World.grownBy_alloc _ _ _,.inr ⟨w.heap.size,rfl,Nat.le_refl _⟩⟩
theorem NdS.mtNew (h:NdS w B b n x)(h2:Below w.heap.size w w2)(ho:Zg inC 1 3 w3 B u q)(hg:Xa w2 x.vm w3 u) :
  Blk w3 b (ndC n x) 36/\NdS (w3.setCell ⟨b,15,none⟩ u) B b { n with mt:=q } { x with vm:=u }:=by
 have hs2:=h2.size;have hno:∀ p,x.vm.ownBlock=some p->B<=p/\p<w.heap.size/\p≠b:=fun p e=>⟨(h.own.mt.lts p e).1,(h.own.mt.lts p e).2,Zu h.own.mt h.blk (by decide) p e⟩
 have hk3:∀ p,p<w.heap.size->x.vm.ownBlock≠some p->w3.heap[p]? = w.heap[p]?:=fun p hp hne=>(hg.g.block p (by omega) (fun e=>hne e.symm)).trans (h2.block p hp)
 have hset:∀ p,p≠b->(w3.setCell ⟨b,15,none⟩ u).heap[p]? = w3.heap[p]?:=fun p hp=>Below.heap_setCell _ _ _ _ hp
 have hmv:∀ {α:Type} {cs:α->List Value} {m':Nat} {T:TypeId} {y:Value} {q:List α},T≠36->Zg cs m' T w B y q->Ya x.vm y->Zg cs m' T (w3.setCell ⟨b,15,none⟩ u) B y q:=fun h1 ho' ha=>ho'.block fun p e=>(hset p (Zu ho' h.blk h1 p e)).trans (hk3 p (ho'.lts p e).2 fun e'=>ha p e' e)
 have hnb:∀ p,u.ownBlock=some p->p≠b:=fun p e=>by
  rcases hg.at' with e' | ⟨r,e',hp⟩
  ·rw [e] at e';exact (hno p e'.symm).2.2
  ·rw [e] at e';cases e';have:=h.blk.lt;omega
 have hA:∀ {y:Value} {q':List Int},Zg inC 1 3 w B y q'->Ya x.vm y->Ya u y:=fun hu ha p e1 e2=>by
  rcases hg.at' with e' | ⟨r,e',hp⟩
  ·rw [e1] at e';exact ha p e'.symm e2
  ·rw [e1] at e';cases e';have:=(hu.lts _ e2).2;omega
 have hB3:Blk w3 b (ndC n x) 36:=h.blk.keep (hk3 b h.blk.lt fun e=>(hno b e).2.2 rfl);refine ⟨hB3,hB3.set 15 u,Zg.e (hmv (by decide) h.own.log.g (J3 h.own.mt h.own.log.g (by decide))) h.own.log.1,hmv (by decide) h.own.gr (Zc h.own.ap 0 2 (by decide) rfl rfl).symm,hmv (by decide) h.own.nx (Zc h.own.ap 1 2 (by decide) rfl rfl).symm,ho.block fun p e=>hset p (hnb p e),hmv (by decide) h.own.se (Zc h.own.ap 2 3 (by decide) rfl rfl),hmv (by decide) h.own.st (Zc h.own.ap 2 4 (by decide) rfl rfl),pw5 ((Zc h.own.ap 0 1 (by decide) rfl rfl)) ((hA h.own.gr (Zc h.own.ap 0 2 (by decide) rfl rfl).symm).symm) ((Zc h.own.ap 0 3 (by decide) rfl rfl)) ((Zc h.own.ap 0 4 (by decide) rfl rfl)) ((hA h.own.nx (Zc h.own.ap 1 2 (by decide) rfl rfl).symm).symm) ((Zc h.own.ap 1 3 (by decide) rfl rfl)) ((Zc h.own.ap 1 4 (by decide) rfl rfl)) ((hA h.own.se (Zc h.own.ap 2 3 (by decide) rfl rfl))) ((hA h.own.st (Zc h.own.ap 2 4 (by decide) rfl rfl))) ((Zc h.own.ap 3 4 (by decide) rfl rfl))⟩
theorem NdS.mtLit (h:NdS w B b n x)(hB:B<=w.heap.size)(A:Array Value)(hA:A.toList=gC inC q)(hq:q.length<=1000):Blk (w.alloc (.cells A 3)) b (ndC n x) 36/\NdS ((w.alloc (.cells A 3)).setCell ⟨b,15,none⟩ (.slice (some ⟨w.heap.size,0,none⟩) q.length q.length)) B b { n with mt:=q } { x with vm:=.slice (some ⟨w.heap.size,0,none⟩) q.length q.length }:=by
 refine h.mtNew (Below.refl _ _) (Z1y w B hB A hA hq) ⟨World.grownBy_alloc _ _ _,.inr ⟨w.heap.size,rfl,Nat.le_refl _⟩⟩
theorem NdS.seNew (h:NdS w B b n x)(h2:Below w.heap.size w w2)(ho:Zg inC 1 3 w3 B u q)(hg:Xa w2 x.vs w3 u) :
  Blk w3 b (ndC n x) 36/\NdS (w3.setCell ⟨b,16,none⟩ u) B b { n with se:=q } { x with vs:=u }:=by
 have hs2:=h2.size;have hno:∀ p,x.vs.ownBlock=some p->B<=p/\p<w.heap.size/\p≠b:=fun p e=>⟨(h.own.se.lts p e).1,(h.own.se.lts p e).2,Zu h.own.se h.blk (by decide) p e⟩
 have hk3:∀ p,p<w.heap.size->x.vs.ownBlock≠some p->w3.heap[p]? = w.heap[p]?:=fun p hp hne=>(hg.g.block p (by omega) (fun e=>hne e.symm)).trans (h2.block p hp)
 have hset:∀ p,p≠b->(w3.setCell ⟨b,16,none⟩ u).heap[p]? = w3.heap[p]?:=fun p hp=>Below.heap_setCell _ _ _ _ hp
 have hmv:∀ {α:Type} {cs:α->List Value} {m':Nat} {T:TypeId} {y:Value} {q:List α},T≠36->Zg cs m' T w B y q->Ya x.vs y->Zg cs m' T (w3.setCell ⟨b,16,none⟩ u) B y q:=fun h1 ho' ha=>ho'.block fun p e=>(hset p (Zu ho' h.blk h1 p e)).trans (hk3 p (ho'.lts p e).2 fun e'=>ha p e' e)
 have hnb:∀ p,u.ownBlock=some p->p≠b:=fun p e=>by
  rcases hg.at' with e' | ⟨r,e',hp⟩
  ·rw [e] at e';exact (hno p e'.symm).2.2
  ·rw [e] at e';cases e';have:=h.blk.lt;omega
 have hA:∀ {y:Value} {q':List Int},Zg inC 1 3 w B y q'->Ya x.vs y->Ya u y:=fun hu ha p e1 e2=>by
  rcases hg.at' with e' | ⟨r,e',hp⟩
  ·rw [e1] at e';exact ha p e'.symm e2
  ·rw [e1] at e';cases e';have:=(hu.lts _ e2).2;omega
 have hB3:Blk w3 b (ndC n x) 36:=h.blk.keep (hk3 b h.blk.lt fun e=>(hno b e).2.2 rfl);refine ⟨hB3,hB3.set 16 u,Zg.e (hmv (by decide) h.own.log.g (J3 h.own.se h.own.log.g (by decide))) h.own.log.1,hmv (by decide) h.own.gr (Zc h.own.ap 0 3 (by decide) rfl rfl).symm,hmv (by decide) h.own.nx (Zc h.own.ap 1 3 (by decide) rfl rfl).symm,hmv (by decide) h.own.mt (Zc h.own.ap 2 3 (by decide) rfl rfl).symm,ho.block fun p e=>hset p (hnb p e),hmv (by decide) h.own.st (Zc h.own.ap 3 4 (by decide) rfl rfl),pw5 ((Zc h.own.ap 0 1 (by decide) rfl rfl)) ((Zc h.own.ap 0 2 (by decide) rfl rfl)) ((hA h.own.gr (Zc h.own.ap 0 3 (by decide) rfl rfl).symm).symm) ((Zc h.own.ap 0 4 (by decide) rfl rfl)) ((Zc h.own.ap 1 2 (by decide) rfl rfl)) ((hA h.own.nx (Zc h.own.ap 1 3 (by decide) rfl rfl).symm).symm) ((Zc h.own.ap 1 4 (by decide) rfl rfl)) ((hA h.own.mt (Zc h.own.ap 2 3 (by decide) rfl rfl).symm).symm) ((Zc h.own.ap 2 4 (by decide) rfl rfl)) ((hA h.own.st (Zc h.own.ap 3 4 (by decide) rfl rfl)))⟩
theorem NdS.seLit (h:NdS w B b n x)(hB:B<=w.heap.size)(A:Array Value)(hA:A.toList=gC inC q)(hq:q.length<=1000):Blk (w.alloc (.cells A 3)) b (ndC n x) 36/\NdS ((w.alloc (.cells A 3)).setCell ⟨b,16,none⟩ (.slice (some ⟨w.heap.size,0,none⟩) q.length q.length)) B b { n with se:=q } { x with vs:=.slice (some ⟨w.heap.size,0,none⟩) q.length q.length }:=by
 refine h.seNew (Below.refl _ _) (Z1y w B hB A hA hq) ⟨World.grownBy_alloc _ _ _,.inr ⟨w.heap.size,rfl,Nat.le_refl _⟩⟩
theorem NdS.stNew (h:NdS w B b n x)(h2:Below w.heap.size w w2)(ho:Zg inC 1 3 w3 B u q)(hg:Xa w2 x.vt w3 u) :
  Blk w3 b (ndC n x) 36/\NdS (w3.setCell ⟨b,17,none⟩ u) B b { n with st:=q } { x with vt:=u }:=by
 have hs2:=h2.size;have hno:∀ p,x.vt.ownBlock=some p->B<=p/\p<w.heap.size/\p≠b:=fun p e=>⟨(h.own.st.lts p e).1,(h.own.st.lts p e).2,Zu h.own.st h.blk (by decide) p e⟩
 have hk3:∀ p,p<w.heap.size->x.vt.ownBlock≠some p->w3.heap[p]? = w.heap[p]?:=fun p hp hne=>(hg.g.block p (by omega) (fun e=>hne e.symm)).trans (h2.block p hp)
 have hset:∀ p,p≠b->(w3.setCell ⟨b,17,none⟩ u).heap[p]? = w3.heap[p]?:=fun p hp=>Below.heap_setCell _ _ _ _ hp
 have hmv:∀ {α:Type} {cs:α->List Value} {m':Nat} {T:TypeId} {y:Value} {q:List α},T≠36->Zg cs m' T w B y q->Ya x.vt y->Zg cs m' T (w3.setCell ⟨b,17,none⟩ u) B y q:=fun h1 ho' ha=>ho'.block fun p e=>(hset p (Zu ho' h.blk h1 p e)).trans (hk3 p (ho'.lts p e).2 fun e'=>ha p e' e)
 have hnb:∀ p,u.ownBlock=some p->p≠b:=fun p e=>by
  rcases hg.at' with e' | ⟨r,e',hp⟩
  ·rw [e] at e';exact (hno p e'.symm).2.2
  ·rw [e] at e';cases e';have:=h.blk.lt;omega
 have hA:∀ {y:Value} {q':List Int},Zg inC 1 3 w B y q'->Ya x.vt y->Ya u y:=fun hu ha p e1 e2=>by
  rcases hg.at' with e' | ⟨r,e',hp⟩
  ·rw [e1] at e';exact ha p e'.symm e2
  ·rw [e1] at e';cases e';have:=(hu.lts _ e2).2;omega
 have hB3:Blk w3 b (ndC n x) 36:=h.blk.keep (hk3 b h.blk.lt fun e=>(hno b e).2.2 rfl);refine ⟨hB3,hB3.set 17 u,Zg.e (hmv (by decide) h.own.log.g (J3 h.own.st h.own.log.g (by decide))) h.own.log.1,hmv (by decide) h.own.gr (Zc h.own.ap 0 4 (by decide) rfl rfl).symm,hmv (by decide) h.own.nx (Zc h.own.ap 1 4 (by decide) rfl rfl).symm,hmv (by decide) h.own.mt (Zc h.own.ap 2 4 (by decide) rfl rfl).symm,hmv (by decide) h.own.se (Zc h.own.ap 3 4 (by decide) rfl rfl).symm,ho.block fun p e=>hset p (hnb p e),pw5 ((Zc h.own.ap 0 1 (by decide) rfl rfl)) ((Zc h.own.ap 0 2 (by decide) rfl rfl)) ((Zc h.own.ap 0 3 (by decide) rfl rfl)) ((hA h.own.gr (Zc h.own.ap 0 4 (by decide) rfl rfl).symm).symm) ((Zc h.own.ap 1 2 (by decide) rfl rfl)) ((Zc h.own.ap 1 3 (by decide) rfl rfl)) ((hA h.own.nx (Zc h.own.ap 1 4 (by decide) rfl rfl).symm).symm) ((Zc h.own.ap 2 3 (by decide) rfl rfl)) ((hA h.own.mt (Zc h.own.ap 2 4 (by decide) rfl rfl).symm).symm) ((hA h.own.se (Zc h.own.ap 3 4 (by decide) rfl rfl).symm).symm)⟩
theorem NdS.stLit (h:NdS w B b n x)(hB:B<=w.heap.size)(A:Array Value)(hA:A.toList=gC inC q)(hq:q.length<=1000):Blk (w.alloc (.cells A 3)) b (ndC n x) 36/\NdS ((w.alloc (.cells A 3)).setCell ⟨b,17,none⟩ (.slice (some ⟨w.heap.size,0,none⟩) q.length q.length)) B b { n with st:=q } { x with vt:=.slice (some ⟨w.heap.size,0,none⟩) q.length q.length }:=by
 refine h.stNew (Below.refl _ _) (Z1y w B hB A hA hq) ⟨World.grownBy_alloc _ _ _,.inr ⟨w.heap.size,rfl,Nat.le_refl _⟩⟩
end
end Go.Proofs.YtmmpoppgabadmaaGreat
