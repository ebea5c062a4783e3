import Derived.Test.YtmmpoppgabadmaaGreatG49
import Derived.Test.YtmmpoppgabadmaaGreatG45
set_option linter.unusedVariables false
set_option linter.unusedSimpArgs false
set_option maxRecDepth 100000
set_option maxHeartbeats 16000000
namespace Go.Proofs.YtmmpoppgabadmaaGreat
open Go.RowKit Go.Maps
theorem Zj.blockB {w w':World}{B b:Nat}{r:Rn}{x:CV}(h:Zj w B b r x)(hk:∀ k,B<=k->w'.heap[k]? = w.heap[k]?):Zj w' B b r x:=by
 have hg:∀ {α:Type} {cs:α->List Value} {m:Nat} {T:TypeId} {v:Value} {l:List α},Zg cs m T w B v l->Zg cs m T w' B v l:=fun ho=>ho.block fun k e=>hk k (ho.lts k e).1
 have he:∀ {v:Value} {l:List Ent},Zp w B v l->Zp w' B v l:=fun ho=>ho.block fun k e=>hk k (World.ownsRow.lt ho.2 k e).1
 exact ⟨h.blk.keep (hk b h.lo),h.lo,he h.log,h.gm.keep (hk _ h.gml),h.gml,h.pm.keep (hk _ h.pml),h.pml,h.gp,fun y q e=>⟨(h.pf y q e).1.keep (hk q (h.pf y q e).2),(h.pf y q e).2⟩,h.pi,h.pk,hg h.out,h.outC,fun p hp=>he (h.ents p hp),h.apE,h.ci⟩
theorem J7.le {w:World}{B B':Nat}{r:Rn}{vg vn vm vs vt:Value}(h:J7 w B r vg vn vm vs vt)(hB:B'<=B):J7 w B' r vg vn vm vs vt:=⟨h.gr.le hB,h.nx.le hB,h.mt.le hB,h.se.le hB,h.st.le hB,h.ap⟩
theorem J7.blockB {w w':World}{B:Nat}{r:Rn}{vg vn vm vs vt:Value}(h:J7 w B r vg vn vm vs vt)(hk:∀ k,B<=k->w'.heap[k]? = w.heap[k]?):J7 w' B r vg vn vm vs vt:=by
 have hg:∀ {v:Value} {l:List Int},Zg inC 1 3 w B v l->Zg inC 1 3 w' B v l:=fun ho=>ho.block fun k e=>hk k (ho.lts k e).1
 exact ⟨hg h.gr,hg h.nx,hg h.mt,hg h.se,hg h.st,h.ap⟩
theorem J7.below {w w':World}{B:Nat}{r:Rn}{vg vn vm vs vt:Value}(h:J7 w B r vg vn vm vs vt)(hb:Below w.heap.size w w'):J7 w' B r vg vn vm vs vt:=⟨h.gr.below hb,h.nx.below hb,h.mt.below hb,h.se.below hb,h.st.below hb,h.ap⟩
theorem core_ans {w:World}{B b:Nat}{r:Rn}{x:CV}{vg vn vm vs vt:Value}(h:Zj w B b r x)(ht:J7 w B r vg vn vm vs vt):Jr w B r ⟨x.vl,vg,vn,vm,vs,vt,x.vo,x.L⟩:=⟨h.log,ht.gr,ht.nx,ht.mt,ht.se,ht.st,h.out,h.outC,h.ents,ht.ap⟩
end Go.Proofs.YtmmpoppgabadmaaGreat
namespace Go.Proofs.YtmmpoppgabadmaaGreat
open Go.RowKit Go.Maps
theorem Z36 (n:Nd)(m:Mg)(ki dr cl sq op:Int)(k v o:ByteArray)(a12 a13 a14 a15 a16 a17 ea:Option Addr)(c12 c13 c14 c15 c16 c17 ec:Nat)(w:World)(h12:Es w (.slice a12 n.log.length c12) n.log)(h13:Ix w (.slice a13 n.gr.length c13) n.gr)(h14:Ix w (.slice a14 n.nx.length c14) n.nx)(h15:Ix w (.slice a15 n.mt.length c15) n.mt)(h16:Ix w (.slice a16 n.se.length c16) n.se)(h17:Ix w (.slice a17 n.st.length c17) n.st)(z12:n.log.length<=1048576)(z13:n.gr.length<=1048576)(z14:n.nx.length<=1048576)(z15:n.mt.length<=1048576)(z16:n.se.length<=1048576)(z17:n.st.length<=1048576)(he:Es w (.slice ea m.es.length ec) m.es)(hlo:∀ k,(Value.slice ea m.es.length ec).ownBlock=some k->k<w.heap.size)(hen:m.es.length<=1048576)(hd : -(2^63)<=dr)(hD:dr<2^63)(hk:k.size<=maxLen)(hv:v.size<=maxLen)(ho:o.size<=maxLen)(hec:m.es.length<=ec)(hki:Hid (ki=1)) :
  Calls Tryz.prog 12 #[.agg #[.int .i64 n.id,.int .i64 n.sz,.int .i64 n.el,.int .i64 n.bt,.int .i64 n.tm,.int .i64 n.vo,.int .i64 n.ro,.int .i64 n.ld,.int .i64 n.cm,.int .i64 n.nw,.int .i64 n.dl,.int .i64 n.hd,.slice a12 n.log.length c12,.slice a13 n.gr.length c13,.slice a14 n.nx.length c14,.slice a15 n.mt.length c15,.slice a16 n.se.length c16,.slice a17 n.st.length c17],.agg #[.int .i64 ki,.int .i64 dr,.int .i64 m.ki,.int .i64 m.fr,.int .i64 m.td,.int .i64 m.tm,.int .i64 m.li,.int .i64 m.lt,.int .i64 m.cm,.int .i64 m.ok,.int .i64 m.hi,.slice ea m.es.length ec,.int .i64 cl,.int .i64 sq,.int .i64 op,.string k,.string v,.string o]] w fun e w'=>∃ x,e=.returned (.agg (saC (Z05 n dr ki m cl sq op k v o) x))/\Jr w' w.heap.size (Z05 n dr ki m cl sq op k v o) x/\(x.vl :: x.L.map Om.v).Pairwise Ya/\Below w.heap.size w w':=by
 generalize hRP:Z05 n dr ki m cl sq op k v o=R;have HRP:Hid (Z05 n dr ki m cl sq op k v o=R):=hRP;clear hRP;obtain ⟨W,hW⟩:∃ W,W=((w.alloc (.cells #[.int .i64 n.id,.int .i64 n.sz,.int .i64 n.el,.int .i64 n.bt,.int .i64 n.tm,.int .i64 n.vo,.int .i64 n.ro,.int .i64 n.ld,.int .i64 n.cm,.int .i64 n.nw,.int .i64 n.dl,.int .i64 n.hd,.slice a12 n.log.length c12,.slice a13 n.gr.length c13,.slice a14 n.nx.length c14,.slice a15 n.mt.length c15,.slice a16 n.se.length c16,.slice a17 n.st.length c17] 36)).alloc (.cells #[.int .i64 ki,.int .i64 dr,.int .i64 m.ki,.int .i64 m.fr,.int .i64 m.td,.int .i64 m.tm,.int .i64 m.li,.int .i64 m.lt,.int .i64 m.cm,.int .i64 m.ok,.int .i64 m.hi,.slice ea m.es.length ec,.int .i64 cl,.int .i64 sq,.int .i64 op,.string k,.string v,.string o] 46)).alloc (.cells #[.int .i64 0,.int .i64 0,.int .i64 0,.int .i64 0,.int .i64 0,.int .i64 0,.int .i64 0,.int .i64 0,.int .i64 0,.int .i64 0,.int .i64 0,.int .i64 0,.int .i64 0,.int .i64 0,.slice none 0 0,.slice none 0 0,.slice none 0 0,.slice none 0 0,.slice none 0 0,.slice none 0 0,.slice none 0 0] 39):=⟨_,rfl⟩;have HW:Hid _:=hW;have HBn:Hid (Blk W w.heap.size #[.int .i64 n.id,.int .i64 n.sz,.int .i64 n.el,.int .i64 n.bt,.int .i64 n.tm,.int .i64 n.vo,.int .i64 n.ro,.int .i64 n.ld,.int .i64 n.cm,.int .i64 n.nw,.int .i64 n.dl,.int .i64 n.hd,.slice a12 n.log.length c12,.slice a13 n.gr.length c13,.slice a14 n.nx.length c14,.slice a15 n.mt.length c15,.slice a16 n.se.length c16,.slice a17 n.st.length c17] 36):=by unfold Hid;rw [hW];exact ((Blk.new _ _ _).alloc _).alloc _
 have HBi:Hid (Blk W (w.heap.size+1) #[.int .i64 ki,.int .i64 dr,.int .i64 m.ki,.int .i64 m.fr,.int .i64 m.td,.int .i64 m.tm,.int .i64 m.li,.int .i64 m.lt,.int .i64 m.cm,.int .i64 m.ok,.int .i64 m.hi,.slice ea m.es.length ec,.int .i64 cl,.int .i64 sq,.int .i64 op,.string k,.string v,.string o] 46):=by unfold Hid;rw [hW];exact (Blk.new' _ _ _ (by simp)).alloc _
 have HBa:Hid (Blk W (w.heap.size+1+1) #[.int .i64 0,.int .i64 0,.int .i64 0,.int .i64 0,.int .i64 0,.int .i64 0,.int .i64 0,.int .i64 0,.int .i64 0,.int .i64 0,.int .i64 0,.int .i64 0,.int .i64 0,.int .i64 0,.slice none 0 0,.slice none 0 0,.slice none 0 0,.slice none 0 0,.slice none 0 0,.slice none 0 0,.slice none 0 0] 39):=by unfold Hid;rw [hW];exact Blk.new' _ _ _ (by simp)
 have HBw:Hid (Below w.heap.size w W):=by unfold Hid;rw [hW];exact (((Below.refl _ _).alloc (Nat.le_refl _) _).alloc (by simp) _).alloc (by simp;omega) _
 have HWs:Hid (W.heap.size=w.heap.size+3):=by unfold Hid;rw [hW];simp
 have HF:Hid (∀ z,Below w.heap.size w z->Calls Tryz.prog 26 #[.agg #[.int .i64 n.id,.int .i64 n.sz,.int .i64 n.el,.int .i64 n.bt,.int .i64 n.tm,.int .i64 n.vo,.int .i64 n.ro,.int .i64 n.ld,.int .i64 n.cm,.int .i64 n.nw,.int .i64 n.dl,.int .i64 n.hd,.slice a12 n.log.length c12,.slice a13 n.gr.length c13,.slice a14 n.nx.length c14,.slice a15 n.mt.length c15,.slice a16 n.se.length c16,.slice a17 n.st.length c17]] z fun e w'=>e=.returned (.int .i64 (Yo n))/\Below z.heap.size z w'):=fun z hz=>
  nodeFault_any n.id n.sz n.el n.bt n.tm n.vo n.ro n.ld n.cm n.nw n.dl n.hd a12 a13 a14 a15 a16 a17 c12 c13 c14 c15 c16 c17 n.log n.gr n.nx n.mt n.se n.st z (h12.below hz) (h13.below hz) (h14.below hz) (h15.below hz) (h16.below hz) (h17.below hz) z12 z13 z14 z15 z16 z17
 have HCo:Hid (Yo n=0->∀ z,Below w.heap.size w z->Calls Tryz.prog 37 #[.agg #[.int .i64 n.id,.int .i64 n.sz,.int .i64 n.el,.int .i64 n.bt,.int .i64 n.tm,.int .i64 n.vo,.int .i64 n.ro,.int .i64 n.ld,.int .i64 n.cm,.int .i64 n.nw,.int .i64 n.dl,.int .i64 n.hd,.slice a12 n.log.length c12,.slice a13 n.gr.length c13,.slice a14 n.nx.length c14,.slice a15 n.mt.length c15,.slice a16 n.se.length c16,.slice a17 n.st.length c17]] z fun e w'=>∃ b x,e=.returned (.pointer (some ⟨b,0,none⟩))/\Zj w' z.heap.size b (rn0 n) x/\x.L = []/\Below z.heap.size z w'):=fun h0 z hz=>
  coreOf_any n a12 a13 a14 a15 a16 a17 c12 c13 c14 c15 c16 c17 z (h12.below hz) z12 (h13.below hz) (h14.below hz) (h15.below hz) (h16.below hz) (h17.below hz) (nodeN_ci n h0)
 have HS:Hid (Yo n=0->∀ z B b x,Below w.heap.size w z->w.heap.size<=B->Zj z B b (rn0 n) x->Calls Tryz.prog 38 #[.pointer (some ⟨b,0,none⟩),.agg #[.int .i64 ki,.int .i64 dr,.int .i64 m.ki,.int .i64 m.fr,.int .i64 m.td,.int .i64 m.tm,.int .i64 m.li,.int .i64 m.lt,.int .i64 m.cm,.int .i64 m.ok,.int .i64 m.hi,.slice ea m.es.length ec,.int .i64 cl,.int .i64 sq,.int .i64 op,.string k,.string v,.string o]] z fun e w'=>e=.returned (.int .i64 R.code)/\∃ x',Zj w' B b R x'/\Tch b z x w' x'):=fun h0 z B b x hz hB hC=>by
  obtain ⟨hb,t0,t1,hod,hgl,hcm,hg,hl⟩:=Jv n h0
  have e:((rn0 n).begin dr).step ki m cl sq op k v o=R:=by
   have h9:=HRP.out;unfold Z05 at h9;rw [if_pos h0] at h9;exact h9
  have h9:=step_tick b (rn0 n) x ki dr m cl sq op k v o ea ec z B hC rfl hb hd hD t0 t1 (he.below hz) (fun j e=>Nat.lt_of_lt_of_le (hlo j e) hB) hec hen (fun hro=>(Z1q n hro (by have:=hb.sz0;omega) hb.nw0 hl).1) (fun hro=>(Z1q n hro (by have:=hb.sz0;omega) hb.nw0 hl).2) hcm (nodeN_log n h0).1 hk hv ho hki;rw [e] at h9;exact h9
 clear h12 h13 h14 h15 h16 h17 z12 z13 z14 z15 z16 z17 he hlo hen hd hD hk hv ho hW hec;go_enter Tryz.func12,Tryz.ntmps12
 go_upto_region 1 with fail
 rw [<-HW.out];clear HW;generalize hai:w.heap.size+1+1=ba at *;generalize hii:w.heap.size+1=bi at *;have HOrd:Hid (w.heap.size<bi/\bi<ba/\ba<W.heap.size):=by have:=HWs.out;unfold Hid;omega
 clear hai hii;have HF1:Hid _:=HF.out W HBw.out;by_cases hz0:Yo n=0
 ·have HSt:Hid _:=HS.out hz0
  have HCt:Hid _:=HCo.out hz0;have hzb:(Yo n != 0)=false:=by simp [hz0]
  clear hz0
  go_upto_region 5 with (first
   |(have hBA:=HF1;refine Zx 36 (.tmp 2) rfl ?_;clear hBA;refine Zk rfl 36 (.tmp 2) rfl w.heap.size rfl HBn.out Tryz.underlying36 rfl Jb rfl ?_)
   |(go_at_call 26;go_loud (refine Calls.mono HF1.out ?_;rintro e w1 ⟨rfl,hb1⟩;have HB1:Hid (Below w.heap.size w w1):=HBw.out.trans (hb1.mono HBw.out.size);have HN1:Hid (Blk w1 w.heap.size _ 36):=HBn.out.below hb1 HBn.out.lt;have HI1:Hid (Blk w1 bi _ 46):=HBi.out.below hb1 HBi.out.lt;have HA1:Hid (Blk w1 ba _ 39):=HBa.out.below hb1 HBa.out.lt;have HC1:Hid _:=HCt.out w1 HB1.out;clear hb1 HF1))
   |(have hBA:=HN1;refine Zx 36 (.tmp 2) rfl ?_;clear hBA;refine Zk rfl 36 (.tmp 2) rfl w.heap.size rfl HN1.out Tryz.underlying36 rfl Jb rfl ?_)
   |(go_at_call 37;go_loud (refine Calls.mono HC1.out ?_;rintro e w2 ⟨b,x,rfl,hc2,hL2,hb2⟩;have HK2:Hid _:=hc2;have HB2:Hid (Below w.heap.size w w2):=HB1.out.trans (hb2.mono HB1.out.size);have HI2:Hid (Blk w2 bi _ 46):=HI1.out.below hb2 HI1.out.lt;have HA2:Hid (Blk w2 ba _ 39):=HA1.out.below hb2 HA1.out.lt;have HS2:Hid _:=HSt.out w2 w1.heap.size b x HB2.out HB1.out.size hc2;clear hc2 hb2 hL2))
   |(have hBA:=HI2;refine Zx 46 (.tmp 3) rfl ?_;clear hBA;refine Zk rfl 46 (.tmp 3) rfl bi rfl HI2.out Tryz.underlying46 rfl sizeInA rfl ?_)
   |(go_at_call 38;go_loud (refine Calls.mono HS2.out ?_;rintro e w3 ⟨rfl,x3,hc3,ht3⟩;have HK3:Hid _:=hc3;have HT3:Hid _:=ht3;clear hc3 ht3)))
  have HX3:Hid (∀ k,k<w1.heap.size->w3.heap[k]? = w2.heap[k]?):=fun k hk=>HT3.out.block k (by have:=HK2.out.lo;have:=HK2.out.lt;omega) (fun h=>by have:=(HK2.out.has_le h).1;omega)
  have hbaw:ba<w1.heap.size:=HA1.out.lt;have HA3:Hid (Blk w3 ba _ 39):=HA2.out.keep (HX3.out ba hbaw);have HB3:Hid (Below w.heap.size w w3):=HB2.out.trans ⟨HT3.out.os,HT3.out.tape,HT3.out.output,HT3.out.size,fun k hk=>HX3.out k (Nat.lt_of_lt_of_le hk HB1.out.size)⟩;obtain ⟨la,lc,hvl⟩:=HK3.out.log.shape;obtain ⟨oa,oc,hvo⟩:=HK3.out.out.shape;generalize R.n.log.length=LL at hvl;generalize x3.L.length=OL at hvo;have HVl:Hid (x3.vl=.slice la LL lc):=hvl;have HVo:Hid (x3.vo=.slice oa OL oc):=hvo;have e21:w3.cell? ⟨b,21,none⟩=some (.int .i64 R.drew):=HK3.out.blk.cell 21;have e23:w3.cell? ⟨b,23,none⟩=some (.slice oa OL oc):=by rw [<-hvo];exact HK3.out.blk.cell 23
  have eth:w3.there ba 0 21:=fun j hj=>⟨by rw [Nat.zero_add,HA3.out.cell j,Array.getElem?_eq_getElem (by simpa using hj)];rfl,by rw [Nat.zero_add];exact HA3.out.free j⟩
  have hi21:=Jk;have hi21:=Jk;clear hvl hvo hi21;have hwb:w.heap.size<=ba:=by have:=HOrd.out;omega
  have hw1:w.heap.size<=w1.heap.size:=HB1.out.size;refine wp_named ?_;intro a0 ha0;have hsz0:a0.tmps.size=28:=by rw [ha0];rfl
  have e4:a0.eval (.tmp 4)=.pointer (some ⟨ba,0,none⟩):=by rw [ha0];rfl
  have e5:a0.eval (.tmp 5)=.pointer (some ⟨b,0,none⟩):=by rw [ha0];rfl
  have e6:a0.eval (.tmp 6)=.int .i64 R.code:=by rw [ha0];rfl
  have HA0:Hid (a0=_):=ha0;clear ha0;refine Yv (by kernel_rfl) (fun L aF w'=>∃ x:Nat->Value,aF=frame a0 [16,17,18,19,20,21,22,23,24,25,26,27] x/\Below w.heap.size w w'/\(Zj w' w1.heap.size b R x3)/\(∃ C:Array Value,Blk w' ba C 39/\C.size=21/\(L.getD 12 false=true->∃ vg vn vm vs vt,C=saC R ⟨x3.vl,vg,vn,vm,vs,vt,x3.vo,x3.L⟩/\J7 w' w1.heap.size R vg vn vm vs vt))/\(L.getD 0 false=true->x 16=.int .i64 R.code)/\(L.getD 1 false=true->x 17=.pointer (some ⟨b,0,none⟩))/\(L.getD 2 false=true->x 18=.pointer (some ⟨b,0,none⟩))/\(L.getD 3 false=true->x 19=.pointer (some ⟨b,21,none⟩))/\(L.getD 4 false=true->x 20=.int .i64 R.drew)/\(L.getD 5 false=true->x 21=.pointer (some ⟨b,0,none⟩))/\(L.getD 6 false=true->∃ vg vn vm vs vt,x 22=.agg #[.int .i64 R.n.id,.int .i64 R.n.sz,.int .i64 R.n.el,.int .i64 R.n.bt,.int .i64 R.n.tm,.int .i64 R.n.vo,.int .i64 R.n.ro,.int .i64 R.n.ld,.int .i64 R.n.cm,.int .i64 R.n.nw,.int .i64 R.n.dl,.int .i64 R.n.hd,x3.vl,vg,vn,vm,vs,vt]/\J7 w' w1.heap.size R vg vn vm vs vt)/\(L.getD 7 false=true->x 23=.pointer (some ⟨b,0,none⟩))/\(L.getD 8 false=true->x 24=.pointer (some ⟨b,0,none⟩))/\(L.getD 9 false=true->x 25=.pointer (some ⟨b,23,none⟩))/\(L.getD 10 false=true->x 26=.slice oa OL oc)/\(L.getD 11 false=true->∃ vg vn vm vs vt,x 27=.agg #[.int .i64 R.code,.int .i64 R.drew,.int .i64 R.n.id,.int .i64 R.n.sz,.int .i64 R.n.el,.int .i64 R.n.bt,.int .i64 R.n.tm,.int .i64 R.n.vo,.int .i64 R.n.ro,.int .i64 R.n.ld,.int .i64 R.n.cm,.int .i64 R.n.nw,.int .i64 R.n.dl,.int .i64 R.n.hd,x3.vl,vg,vn,vm,vs,vt,.slice oa OL oc]/\J7 w' w1.heap.size R vg vn vm vs vt)/\(L.getD 12 false=true->True)) ?_ ?_ ?_
  ·exact ⟨_,Xn a0 [16,17,18,19,20,21,22,23,24,25,26,27],HB3.out.trans ((Below.refl _ _).drew),HK3.out.drew,⟨_,HA3.out.below (Below.refl _ _).drew HA3.out.lt,rfl,fun h=>(Zt h).elim⟩,fun h=>(Zt h).elim,fun h=>(Zt h).elim,fun h=>(Zt h).elim,fun h=>(Zt h).elim,fun h=>(Zt h).elim,fun h=>(Zt h).elim,fun h=>(Zt h).elim,fun h=>(Zt h).elim,fun h=>(Zt h).elim,fun h=>(Zt h).elim,fun h=>(Zt h).elim,fun h=>(Zt h).elim,fun h=>(Zt h).elim⟩
  ·rintro L a w' i hsL hi ⟨x,rfl,hB,hK,hA,h0,h1,h2,h3,h4,h5,h6,h7,h8,h9,h10,h11,h12⟩
   have hiL:i<13:=(Y9 hsL hi).1;have hL:L.size=13:=hsL;have hw':w.heap.size<=w'.heap.size:=hB.size;have hw1z:w1.heap.size<=w'.heap.size:=Nat.le_trans hK.lo (Nat.le_of_lt hK.lt);rcases (show i=0∨i=1∨i=2∨i=3∨i=4∨i=5∨i=6∨i=7∨i=8∨i=9∨i=10∨i=11∨i=12 by omega) with rfl | rfl | rfl | rfl | rfl | rfl | rfl | rfl | rfl | rfl | rfl | rfl | rfl
   ·skip
    refine Za rfl rfl (Y2 (.tmp 6) (Or.inl rfl) ?_);rw [Zm _ _ _ 6 rfl,e6];exact ⟨_,Zd _ _ _ 16 _ rfl,hB,hK,(let ⟨C,h1,h2,h3⟩:=hA;⟨C,h1,h2,fun h=>h3 (Z0 h (by omega) (by decide))⟩),fun h=>Zh _ _ _,ke h1 (by omega) (by decide) (by decide),ke h2 (by omega) (by decide) (by decide),ke h3 (by omega) (by decide) (by decide),ke h4 (by omega) (by decide) (by decide),ke h5 (by omega) (by decide) (by decide),fun h=>by rw [Z3 _ _ _ _ (by decide)];exact (h6 (Z0 h (by omega) (by decide))),ke h7 (by omega) (by decide) (by decide),ke h8 (by omega) (by decide) (by decide),ke h9 (by omega) (by decide) (by decide),ke h10 (by omega) (by decide) (by decide),fun h=>by rw [Z3 _ _ _ _ (by decide)];exact (h11 (Z0 h (by omega) (by decide))),fun h=>trivial⟩
   ·skip
    refine Za rfl rfl (Y2 (.tmp 5) (Or.inl rfl) ?_);rw [Zm _ _ _ 5 rfl,e5];exact ⟨_,Zd _ _ _ 17 _ rfl,hB,hK,(let ⟨C,h1,h2,h3⟩:=hA;⟨C,h1,h2,fun h=>h3 (Z0 h (by omega) (by decide))⟩),ke h0 (by omega) (by decide) (by decide),fun h=>Zh _ _ _,ke h2 (by omega) (by decide) (by decide),ke h3 (by omega) (by decide) (by decide),ke h4 (by omega) (by decide) (by decide),ke h5 (by omega) (by decide) (by decide),fun h=>by rw [Z3 _ _ _ _ (by decide)];exact (h6 (Z0 h (by omega) (by decide))),ke h7 (by omega) (by decide) (by decide),ke h8 (by omega) (by decide) (by decide),ke h9 (by omega) (by decide) (by decide),ke h10 (by omega) (by decide) (by decide),fun h=>by rw [Z3 _ _ _ _ (by decide)];exact (h11 (Z0 h (by omega) (by decide))),fun h=>trivial⟩
   ·have d1:=h1 (Z7 hi (by decide))
    have ev17:(frame a0 [16,17,18,19,20,21,22,23,24,25,26,27] x).tmps[17]?.getD undef=.pointer (some ⟨b,0,none⟩):=by have h:=(Z5 a0 [16,17,18,19,20,21,22,23,24,25,26,27] x 17 rfl (by omega)).trans d1;simpa [Act.eval] using h
    refine Za rfl rfl (Zl (v:=.pointer (some ⟨b,0,none⟩)) ?_ ?_)
    ·obtain ⟨aa,haa⟩:∃ aa,aa=frame a0 [16,17,18,19,20,21,22,23,24,25,26,27] x:=⟨_,rfl⟩
     rw [<-haa] at ev17 ⊢;clear haa HA0;go_simp
    exact ⟨_,Zd _ _ _ 18 _ rfl,hB,hK,(let ⟨C,h1,h2,h3⟩:=hA;⟨C,h1,h2,fun h=>h3 (Z0 h (by omega) (by decide))⟩),ke h0 (by omega) (by decide) (by decide),ke h1 (by omega) (by decide) (by decide),fun h=>Zh _ _ _,ke h3 (by omega) (by decide) (by decide),ke h4 (by omega) (by decide) (by decide),ke h5 (by omega) (by decide) (by decide),fun h=>by rw [Z3 _ _ _ _ (by decide)];exact (h6 (Z0 h (by omega) (by decide))),ke h7 (by omega) (by decide) (by decide),ke h8 (by omega) (by decide) (by decide),ke h9 (by omega) (by decide) (by decide),ke h10 (by omega) (by decide) (by decide),fun h=>by rw [Z3 _ _ _ _ (by decide)];exact (h11 (Z0 h (by omega) (by decide))),fun h=>trivial⟩
   ·have d2:=h2 (Z7 hi (by decide))
    have ev18:(frame a0 [16,17,18,19,20,21,22,23,24,25,26,27] x).tmps[18]?.getD undef=.pointer (some ⟨b,0,none⟩):=by have h:=(Z5 a0 [16,17,18,19,20,21,22,23,24,25,26,27] x 18 rfl (by omega)).trans d2;simpa [Act.eval] using h
    refine Za rfl rfl (Zl (v:=.pointer (some ⟨b,21,none⟩)) ?_ ?_)
    ·obtain ⟨aa,haa⟩:∃ aa,aa=frame a0 [16,17,18,19,20,21,22,23,24,25,26,27] x:=⟨_,rfl⟩
     rw [<-haa] at ev18 ⊢;clear haa HA0;go_simp
    exact ⟨_,Zd _ _ _ 19 _ rfl,hB,hK,(let ⟨C,h1,h2,h3⟩:=hA;⟨C,h1,h2,fun h=>h3 (Z0 h (by omega) (by decide))⟩),ke h0 (by omega) (by decide) (by decide),ke h1 (by omega) (by decide) (by decide),ke h2 (by omega) (by decide) (by decide),fun h=>Zh _ _ _,ke h4 (by omega) (by decide) (by decide),ke h5 (by omega) (by decide) (by decide),fun h=>by rw [Z3 _ _ _ _ (by decide)];exact (h6 (Z0 h (by omega) (by decide))),ke h7 (by omega) (by decide) (by decide),ke h8 (by omega) (by decide) (by decide),ke h9 (by omega) (by decide) (by decide),ke h10 (by omega) (by decide) (by decide),fun h=>by rw [Z3 _ _ _ _ (by decide)];exact (h11 (Z0 h (by omega) (by decide))),fun h=>trivial⟩
   ·have d3:=h3 (Z7 hi (by decide))
    have cin:w'.cell? ⟨b,21,none⟩=some (.int .i64 R.drew):=hK.blk.cell 21;have ev19:(frame a0 [16,17,18,19,20,21,22,23,24,25,26,27] x).tmps[19]?.getD undef=.pointer (some ⟨b,21,none⟩):=by have h:=(Z5 a0 [16,17,18,19,20,21,22,23,24,25,26,27] x 19 rfl (by omega)).trans d3;simpa [Act.eval] using h
    refine Za rfl rfl (Zl (v:=.int .i64 R.drew) ?_ ?_)
    ·obtain ⟨aa,haa⟩:∃ aa,aa=frame a0 [16,17,18,19,20,21,22,23,24,25,26,27] x:=⟨_,rfl⟩
     rw [<-haa] at ev19 ⊢;clear haa HA0;go_simp
    exact ⟨_,Zd _ _ _ 20 _ rfl,hB,hK,(let ⟨C,h1,h2,h3⟩:=hA;⟨C,h1,h2,fun h=>h3 (Z0 h (by omega) (by decide))⟩),ke h0 (by omega) (by decide) (by decide),ke h1 (by omega) (by decide) (by decide),ke h2 (by omega) (by decide) (by decide),ke h3 (by omega) (by decide) (by decide),fun h=>Zh _ _ _,ke h5 (by omega) (by decide) (by decide),fun h=>by rw [Z3 _ _ _ _ (by decide)];exact (h6 (Z0 h (by omega) (by decide))),ke h7 (by omega) (by decide) (by decide),ke h8 (by omega) (by decide) (by decide),ke h9 (by omega) (by decide) (by decide),ke h10 (by omega) (by decide) (by decide),fun h=>by rw [Z3 _ _ _ _ (by decide)];exact (h11 (Z0 h (by omega) (by decide))),fun h=>trivial⟩
   ·skip
    refine Za rfl rfl (Y2 (.tmp 5) (Or.inl rfl) ?_);rw [Zm _ _ _ 5 rfl,e5];exact ⟨_,Zd _ _ _ 21 _ rfl,hB,hK,(let ⟨C,h1,h2,h3⟩:=hA;⟨C,h1,h2,fun h=>h3 (Z0 h (by omega) (by decide))⟩),ke h0 (by omega) (by decide) (by decide),ke h1 (by omega) (by decide) (by decide),ke h2 (by omega) (by decide) (by decide),ke h3 (by omega) (by decide) (by decide),ke h4 (by omega) (by decide) (by decide),fun h=>Zh _ _ _,fun h=>by rw [Z3 _ _ _ _ (by decide)];exact (h6 (Z0 h (by omega) (by decide))),ke h7 (by omega) (by decide) (by decide),ke h8 (by omega) (by decide) (by decide),ke h9 (by omega) (by decide) (by decide),ke h10 (by omega) (by decide) (by decide),fun h=>by rw [Z3 _ _ _ _ (by decide)];exact (h11 (Z0 h (by omega) (by decide))),fun h=>trivial⟩
   ·have d5:=h5 (Z7 hi (by decide))
    have ev21:=(Z5 a0 [16,17,18,19,20,21,22,23,24,25,26,27] x 21 rfl (by omega)).trans d5;refine Za rfl rfl (Yi (N:=39) rfl (fun _ _=>by go_simp) #[.pointer (some ⟨b,0,none⟩)] (by simp only [List.map_toArray,List.map_cons,List.map_nil,ev21]) ?_);refine Calls.mono (told_any b R x3 w' w1.heap.size hK) ?_;rintro e w2 ⟨vg,vn,vm,vs,vt,rfl,hTd,hb⟩;refine ⟨_,rfl,?_⟩;exact ⟨_,Zd _ _ _ 22 _ rfl,hB.trans (hb.mono hw'),hK.below hb,(let ⟨C,h1,h2,h3⟩:=hA;⟨C,h1.below hb h1.lt,h2,fun h=>(let ⟨vg,vn,vm,vs,vt,q1,q2⟩:=h3 (Z0 h (by omega) (by decide));⟨vg,vn,vm,vs,vt,q1,q2.below hb⟩)⟩),ke h0 (by omega) (by decide) (by decide),ke h1 (by omega) (by decide) (by decide),ke h2 (by omega) (by decide) (by decide),ke h3 (by omega) (by decide) (by decide),ke h4 (by omega) (by decide) (by decide),ke h5 (by omega) (by decide) (by decide),fun h=>⟨vg,vn,vm,vs,vt,Zh _ _ _,hTd.le hw1z⟩,ke h7 (by omega) (by decide) (by decide),ke h8 (by omega) (by decide) (by decide),ke h9 (by omega) (by decide) (by decide),ke h10 (by omega) (by decide) (by decide),fun h=>by rw [Z3 _ _ _ _ (by decide)];exact (let ⟨vg,vn,vm,vs,vt,q1,q2⟩:=(h11 (Z0 h (by omega) (by decide)));⟨vg,vn,vm,vs,vt,q1,q2.below hb⟩),fun h=>trivial⟩
   ·skip
    refine Za rfl rfl (Y2 (.tmp 5) (Or.inl rfl) ?_);rw [Zm _ _ _ 5 rfl,e5];exact ⟨_,Zd _ _ _ 23 _ rfl,hB,hK,(let ⟨C,h1,h2,h3⟩:=hA;⟨C,h1,h2,fun h=>h3 (Z0 h (by omega) (by decide))⟩),ke h0 (by omega) (by decide) (by decide),ke h1 (by omega) (by decide) (by decide),ke h2 (by omega) (by decide) (by decide),ke h3 (by omega) (by decide) (by decide),ke h4 (by omega) (by decide) (by decide),ke h5 (by omega) (by decide) (by decide),fun h=>by rw [Z3 _ _ _ _ (by decide)];exact (h6 (Z0 h (by omega) (by decide))),fun h=>Zh _ _ _,ke h8 (by omega) (by decide) (by decide),ke h9 (by omega) (by decide) (by decide),ke h10 (by omega) (by decide) (by decide),fun h=>by rw [Z3 _ _ _ _ (by decide)];exact (h11 (Z0 h (by omega) (by decide))),fun h=>trivial⟩
   ·have d7:=h7 (Z7 hi (by decide))
    have ev23:(frame a0 [16,17,18,19,20,21,22,23,24,25,26,27] x).tmps[23]?.getD undef=.pointer (some ⟨b,0,none⟩):=by have h:=(Z5 a0 [16,17,18,19,20,21,22,23,24,25,26,27] x 23 rfl (by omega)).trans d7;simpa [Act.eval] using h
    refine Za rfl rfl (Zl (v:=.pointer (some ⟨b,0,none⟩)) ?_ ?_)
    ·obtain ⟨aa,haa⟩:∃ aa,aa=frame a0 [16,17,18,19,20,21,22,23,24,25,26,27] x:=⟨_,rfl⟩
     rw [<-haa] at ev23 ⊢;clear haa HA0;go_simp
    exact ⟨_,Zd _ _ _ 24 _ rfl,hB,hK,(let ⟨C,h1,h2,h3⟩:=hA;⟨C,h1,h2,fun h=>h3 (Z0 h (by omega) (by decide))⟩),ke h0 (by omega) (by decide) (by decide),ke h1 (by omega) (by decide) (by decide),ke h2 (by omega) (by decide) (by decide),ke h3 (by omega) (by decide) (by decide),ke h4 (by omega) (by decide) (by decide),ke h5 (by omega) (by decide) (by decide),fun h=>by rw [Z3 _ _ _ _ (by decide)];exact (h6 (Z0 h (by omega) (by decide))),ke h7 (by omega) (by decide) (by decide),fun h=>Zh _ _ _,ke h9 (by omega) (by decide) (by decide),ke h10 (by omega) (by decide) (by decide),fun h=>by rw [Z3 _ _ _ _ (by decide)];exact (h11 (Z0 h (by omega) (by decide))),fun h=>trivial⟩
   ·have d8:=h8 (Z7 hi (by decide))
    have ev24:(frame a0 [16,17,18,19,20,21,22,23,24,25,26,27] x).tmps[24]?.getD undef=.pointer (some ⟨b,0,none⟩):=by have h:=(Z5 a0 [16,17,18,19,20,21,22,23,24,25,26,27] x 24 rfl (by omega)).trans d8;simpa [Act.eval] using h
    refine Za rfl rfl (Zl (v:=.pointer (some ⟨b,23,none⟩)) ?_ ?_)
    ·obtain ⟨aa,haa⟩:∃ aa,aa=frame a0 [16,17,18,19,20,21,22,23,24,25,26,27] x:=⟨_,rfl⟩
     rw [<-haa] at ev24 ⊢;clear haa HA0;go_simp
    exact ⟨_,Zd _ _ _ 25 _ rfl,hB,hK,(let ⟨C,h1,h2,h3⟩:=hA;⟨C,h1,h2,fun h=>h3 (Z0 h (by omega) (by decide))⟩),ke h0 (by omega) (by decide) (by decide),ke h1 (by omega) (by decide) (by decide),ke h2 (by omega) (by decide) (by decide),ke h3 (by omega) (by decide) (by decide),ke h4 (by omega) (by decide) (by decide),ke h5 (by omega) (by decide) (by decide),fun h=>by rw [Z3 _ _ _ _ (by decide)];exact (h6 (Z0 h (by omega) (by decide))),ke h7 (by omega) (by decide) (by decide),ke h8 (by omega) (by decide) (by decide),fun h=>Zh _ _ _,ke h10 (by omega) (by decide) (by decide),fun h=>by rw [Z3 _ _ _ _ (by decide)];exact (h11 (Z0 h (by omega) (by decide))),fun h=>trivial⟩
   ·have d9:=h9 (Z7 hi (by decide))
    have cin:w'.cell? ⟨b,23,none⟩=some (.slice oa OL oc):=by rw [<-HVo.out];exact hK.blk.cell 23
    have ev25:(frame a0 [16,17,18,19,20,21,22,23,24,25,26,27] x).tmps[25]?.getD undef=.pointer (some ⟨b,23,none⟩):=by have h:=(Z5 a0 [16,17,18,19,20,21,22,23,24,25,26,27] x 25 rfl (by omega)).trans d9;simpa [Act.eval] using h
    refine Za rfl rfl (Zl (v:=.slice oa OL oc) ?_ ?_)
    ·obtain ⟨aa,haa⟩:∃ aa,aa=frame a0 [16,17,18,19,20,21,22,23,24,25,26,27] x:=⟨_,rfl⟩
     rw [<-haa] at ev25 ⊢;clear haa HA0;go_simp
    exact ⟨_,Zd _ _ _ 26 _ rfl,hB,hK,(let ⟨C,h1,h2,h3⟩:=hA;⟨C,h1,h2,fun h=>h3 (Z0 h (by omega) (by decide))⟩),ke h0 (by omega) (by decide) (by decide),ke h1 (by omega) (by decide) (by decide),ke h2 (by omega) (by decide) (by decide),ke h3 (by omega) (by decide) (by decide),ke h4 (by omega) (by decide) (by decide),ke h5 (by omega) (by decide) (by decide),fun h=>by rw [Z3 _ _ _ _ (by decide)];exact (h6 (Z0 h (by omega) (by decide))),ke h7 (by omega) (by decide) (by decide),ke h8 (by omega) (by decide) (by decide),ke h9 (by omega) (by decide) (by decide),fun h=>Zh _ _ _,fun h=>by rw [Z3 _ _ _ _ (by decide)];exact (h11 (Z0 h (by omega) (by decide))),fun h=>trivial⟩
   ·have d0:=h0 (Z7 hi (by decide))
    have d4:=h4 (Z7 hi (by decide));have d6:=h6 (Z7 hi (by decide));have d10:=h10 (Z7 hi (by decide));obtain ⟨vg,vn,vm,vs,vt,e22,hTd⟩:=d6;have ev16:(frame a0 [16,17,18,19,20,21,22,23,24,25,26,27] x).tmps[16]?.getD undef=.int .i64 R.code:=by have h:=(Z5 a0 [16,17,18,19,20,21,22,23,24,25,26,27] x 16 rfl (by omega)).trans d0;simpa [Act.eval] using h
    have ev20:(frame a0 [16,17,18,19,20,21,22,23,24,25,26,27] x).tmps[20]?.getD undef=.int .i64 R.drew:=by have h:=(Z5 a0 [16,17,18,19,20,21,22,23,24,25,26,27] x 20 rfl (by omega)).trans d4;simpa [Act.eval] using h
    have ev22:(frame a0 [16,17,18,19,20,21,22,23,24,25,26,27] x).tmps[22]?.getD undef=.agg #[.int .i64 R.n.id,.int .i64 R.n.sz,.int .i64 R.n.el,.int .i64 R.n.bt,.int .i64 R.n.tm,.int .i64 R.n.vo,.int .i64 R.n.ro,.int .i64 R.n.ld,.int .i64 R.n.cm,.int .i64 R.n.nw,.int .i64 R.n.dl,.int .i64 R.n.hd,x3.vl,vg,vn,vm,vs,vt]:=by have h:=(Z5 a0 [16,17,18,19,20,21,22,23,24,25,26,27] x 22 rfl (by omega)).trans e22;simpa [Act.eval] using h
    have ev26:(frame a0 [16,17,18,19,20,21,22,23,24,25,26,27] x).tmps[26]?.getD undef=.slice oa OL oc:=by have h:=(Z5 a0 [16,17,18,19,20,21,22,23,24,25,26,27] x 26 rfl (by omega)).trans d10;simpa [Act.eval] using h
    refine Za rfl rfl (Zl (v:=.agg #[.int .i64 R.code,.int .i64 R.drew,.int .i64 R.n.id,.int .i64 R.n.sz,.int .i64 R.n.el,.int .i64 R.n.bt,.int .i64 R.n.tm,.int .i64 R.n.vo,.int .i64 R.n.ro,.int .i64 R.n.ld,.int .i64 R.n.cm,.int .i64 R.n.nw,.int .i64 R.n.dl,.int .i64 R.n.hd,x3.vl,vg,vn,vm,vs,vt,.slice oa OL oc]) ?_ ?_)
    ·obtain ⟨aa,haa⟩:∃ aa,aa=frame a0 [16,17,18,19,20,21,22,23,24,25,26,27] x:=⟨_,rfl⟩
     rw [<-haa] at ev16 ev20 ev22 ev26 ⊢;clear haa HA0;go_simp
    exact ⟨_,Zd _ _ _ 27 _ rfl,hB,hK,(let ⟨C,h1,h2,h3⟩:=hA;⟨C,h1,h2,fun h=>h3 (Z0 h (by omega) (by decide))⟩),ke h0 (by omega) (by decide) (by decide),ke h1 (by omega) (by decide) (by decide),ke h2 (by omega) (by decide) (by decide),ke h3 (by omega) (by decide) (by decide),ke h4 (by omega) (by decide) (by decide),ke h5 (by omega) (by decide) (by decide),fun h=>by rw [Z3 _ _ _ _ (by decide)];exact (h6 (Z0 h (by omega) (by decide))),ke h7 (by omega) (by decide) (by decide),ke h8 (by omega) (by decide) (by decide),ke h9 (by omega) (by decide) (by decide),ke h10 (by omega) (by decide) (by decide),fun h=>⟨vg,vn,vm,vs,vt,Zh _ _ _,hTd⟩,fun h=>trivial⟩
   ·have d11:=h11 (Z7 hi (by decide))
    obtain ⟨vg,vn,vm,vs,vt,e27,hTd⟩:=d11;obtain ⟨C,hBa,hCz,hCf⟩:=hA;have hSe:saC R ⟨x3.vl,vg,vn,vm,vs,vt,x3.vo,x3.L⟩=#[.int .i64 R.code,.int .i64 R.drew,.int .i64 R.n.id,.int .i64 R.n.sz,.int .i64 R.n.el,.int .i64 R.n.bt,.int .i64 R.n.tm,.int .i64 R.n.vo,.int .i64 R.n.ro,.int .i64 R.n.ld,.int .i64 R.n.cm,.int .i64 R.n.nw,.int .i64 R.n.dl,.int .i64 R.n.hd,x3.vl,vg,vn,vm,vs,vt,.slice oa OL oc]:=by unfold saC;rw [HVo.out]
    have hOn:=(core_ans hK hTd).one;rw [hSe] at hOn;have evp:=(Zm a0 [16,17,18,19,20,21,22,23,24,25,26,27] x 4 rfl).trans e4;have evs:=(Z5 a0 [16,17,18,19,20,21,22,23,24,25,26,27] x 27 rfl (by omega)).trans e27;refine Za rfl rfl (Js 39 (.tmp 4) (.tmp 27) rfl (ba) evp evs hBa Jk rfl hCz hOn ?_);exact ⟨_,rfl,X4 hB hwb _,hK.blockB (fun k hk=>setRow_other _ _ _ _ (by omega)),⟨_,hBa.row _,rfl,fun _=>⟨vg,vn,vm,vs,vt,hSe.symm,hTd.blockB fun k hk=>setRow_other _ _ _ _ (by omega)⟩⟩,ku h0 (by omega) (by decide),ku h1 (by omega) (by decide),ku h2 (by omega) (by decide),ku h3 (by omega) (by decide),ku h4 (by omega) (by decide),ku h5 (by omega) (by decide),fun h=>(let ⟨vg,vn,vm,vs,vt,q1,q2⟩:=(h6 (Z0 h (by omega) (by decide)));⟨vg,vn,vm,vs,vt,q1,q2.blockB fun k hk=>setRow_other _ _ _ _ (by omega)⟩),ku h7 (by omega) (by decide),ku h8 (by omega) (by decide),ku h9 (by omega) (by decide),ku h10 (by omega) (by decide),fun h=>(let ⟨vg,vn,vm,vs,vt,q1,q2⟩:=(h11 (Z0 h (by omega) (by decide)));⟨vg,vn,vm,vs,vt,q1,q2.blockB fun k hk=>setRow_other _ _ _ _ (by omega)⟩),fun h=>trivial⟩
  ·rintro L a w' hsL hr ⟨x,rfl,hB,hK,hA,h0,h1,h2,h3,h4,h5,h6,h7,h8,h9,h10,h11,h12⟩
   have hall:=Xi hsL hr (by decide);replace h0:=h0 (hall 0 (by decide));replace h1:=h1 (hall 1 (by decide));replace h2:=h2 (hall 2 (by decide));replace h3:=h3 (hall 3 (by decide));replace h4:=h4 (hall 4 (by decide));replace h5:=h5 (hall 5 (by decide));replace h6:=h6 (hall 6 (by decide));replace h7:=h7 (hall 7 (by decide));replace h8:=h8 (hall 8 (by decide));replace h9:=h9 (hall 9 (by decide));replace h10:=h10 (hall 10 (by decide));replace h11:=h11 (hall 11 (by decide));replace h12:=h12 (hall 12 (by decide));rw [HA0.out];simp only [frame,List.zipIdx_cons,List.zipIdx_nil,List.map_cons,List.map_nil,List.contains_cons,List.contains_nil,Nat.reduceBEq,Nat.reduceAdd,Bool.or_false,Bool.false_or,Bool.or_true,Bool.true_or,Bool.false_eq_true,if_false,if_true,h0,h1,h2,h3,h4,h5,h7,h8,h9,h10,h12];obtain ⟨C,hBa,hCz,hCf⟩:=hA;obtain ⟨vg,vn,vm,vs,vt,rfl,hTd⟩:=hCf (hall 12 (by decide))
   (try go_wp2_with fail)
   (try simp only [Exit.inBlock,Exit.then])
   refine bodyPost_ret (v:=.agg (saC R ⟨x3.vl,vg,vn,vm,vs,vt,x3.vo,x3.L⟩)) (Y5 Tryz.results12 rfl hBa Tryz.underlying39 rfl Jk rfl) rfl ⟨⟨x3.vl,vg,vn,vm,vs,vt,x3.vo,x3.L⟩,rfl,(core_ans hK hTd).le hw1,hK.apE,hB⟩
 ·have HRs:Hid (rn9=R):=by have h9:=HRP.out;unfold Z05 at h9;rw [if_neg hz0] at h9;exact h9
  have hzb:(Yo n != 0)=true:=by simpa using hz0
  clear hz0
  go_wp2_with (first
   |(have hBA:=HF1;refine Zx 36 (.tmp 2) rfl ?_;clear hBA;refine Zk rfl 36 (.tmp 2) rfl w.heap.size rfl HBn.out Tryz.underlying36 rfl Jb rfl ?_)
   |(go_at_call 26;go_loud (refine Calls.mono HF1.out ?_;rintro e w1 ⟨rfl,hb1⟩;have HB1:Hid _:=hb1;have HA1:Hid (Blk w1 ba _ 39):=HBa.out.below hb1 HBa.out.lt;clear hb1 HF1))
   |(have hBA:=HA1;refine Y6 39 (.tmp 4) _ rfl ?_;clear hBA;go_loud (refine Zz rfl 39 (.tmp 4) _ rfl ba rfl rfl HA1.out Jk rfl rfl (by simp [Value.oneCell']) ?_)))
  rw [<-HRs.out];refine bodyPost_ret (v:=.agg (saC rn9 rv9)) (Y5 Tryz.results12 rfl (HA1.out.row _) Tryz.underlying39 rfl Jk rfl) rfl ⟨rv9,rfl,ans9 _ _,List.pairwise_singleton _ _,X4 (HBw.out.trans (HB1.out.mono HBw.out.size)) (by have:=HOrd.out;omega) _⟩
end Go.Proofs.YtmmpoppgabadmaaGreat
namespace Go.Proofs.YtmmpoppgabadmaaGreat
open Go.RowKit
theorem Z35 (n:Nd)(h:Yo n=0):n.log.length<=4096/\n.gr.length<=1000/\n.nx.length<=7/\n.mt.length<=7/\n.se.length<=7/\n.st.length<=7:=by
 obtain ⟨hb,t0,t1,ho,hgl,hcm,hg,hl⟩:=Jv n h;have h1:=(nodeN_log n h).2;have hz:=hb.sz1;have hz0:=hb.sz0;unfold Yr at hl;rw [Bool.and_eq_true,Xj] at hl;obtain ⟨⟨e1,e2,e3,e4⟩,_⟩:=hl;refine ⟨h1,hgl,?_,?_,?_,?_⟩
 ·split at e1 <;> omega
 ·split at e2 <;> omega
 ·split at e3 <;> omega
 ·split at e4 <;> omega
def inA (ki dr:Int)(m:Mg)(ve:Value)(cl sq op:Int)(k v o:ByteArray):Array Value:=#[.int .i64 ki,.int .i64 dr,.int .i64 m.ki,.int .i64 m.fr,.int .i64 m.td,.int .i64 m.tm,.int .i64 m.li,.int .i64 m.lt,.int .i64 m.cm,.int .i64 m.ok,.int .i64 m.hi,ve,.int .i64 cl,.int .i64 sq,.int .i64 op,.string k,.string v,.string o]
theorem Z08 {w:World}{B:Nat}{v:Value}{l:List Int}(h:Zg inC 1 3 w B v l)(hl:l.length<=1048576):Ix w v l:=ix_sl (h.sl Z0b (by unfold maxLen;omega))
section
variable {w:World} {B:Nat} {n:Nd} {x:RV} {m:Mg} {ki dr cl sq op:Int} {k v o:ByteArray} {ea:Option Addr} {ec:Nat}
end
theorem Jr.ndo {w:World}{B:Nat}{r:Rn}{x:RV}(h:Jr w B r x):NdO w B r.n x:=⟨h.log,h.gr,h.nx,h.mt,h.se,h.st,h.ap⟩
def inTk (dr:Int):Array Value:=inA 1 dr mg0 (.slice none 0 0) 0 0 0 ⟨#[]⟩ ⟨#[]⟩ ⟨#[]⟩
def tk (n:Nd)(dr:Int):Rn:=Rn.tick ⟨n,[],0,0,dr⟩
theorem stepA_tk (n:Nd)(dr:Int)(h:Yo n=0):Z05 n dr 1 mg0 0 0 0 ⟨#[]⟩ ⟨#[]⟩ ⟨#[]⟩=tk n dr:=by unfold Z05;rw [if_pos h];rfl
theorem esNil (w:World):Es w (.slice none 0 0) []:=⟨by simp [maxLen],(fun e h=>by cases h),none,0,rfl,fun i hi=>by simp at hi⟩
theorem specTick_o {w:World}{B:Nat}{n:Nd}{x:RV}(dr:Int)(h0:Yo n=0)(hO:NdO w B n x)(hd : -(2^63)<=dr)(hD:dr<2^63) :
  Calls Tryz.prog 9 #[.agg (ndC n x),.agg (inTk dr)] w fun e w'=>∃ X,e=.returned (.agg (saC (tk n dr) X))/\Jr w' w.heap.size (tk n dr) X/\Below w.heap.size w w':=by
 obtain ⟨z1,z2,z3,z4,z5,z6⟩:=Z35 n h0;obtain ⟨a1,c1,e1⟩:=hO.log.shape;obtain ⟨a2,c2,e2⟩:=hO.gr.shape;obtain ⟨a3,c3,e3⟩:=hO.nx.shape;obtain ⟨a4,c4,e4⟩:=hO.mt.shape;obtain ⟨a5,c5,e5⟩:=hO.se.shape;obtain ⟨a6,c6,e6⟩:=hO.st.shape;have r1:Es w (.slice a1 n.log.length c1) n.log:=by rw [<-e1];exact hO.log.es (by unfold maxLen;omega)
 have r2:Ix w (.slice a2 n.gr.length c2) n.gr:=by rw [<-e2];exact Z08 hO.gr (by omega)
 have r3:Ix w (.slice a3 n.nx.length c3) n.nx:=by rw [<-e3];exact Z08 hO.nx (by omega)
 have r4:Ix w (.slice a4 n.mt.length c4) n.mt:=by rw [<-e4];exact Z08 hO.mt (by omega)
 have r5:Ix w (.slice a5 n.se.length c5) n.se:=by rw [<-e5];exact Z08 hO.se (by omega)
 have r6:Ix w (.slice a6 n.st.length c6) n.st:=by rw [<-e6];exact Z08 hO.st (by omega)
 have h9:=Z3f n mg0 1 dr 0 0 0 ⟨#[]⟩ ⟨#[]⟩ ⟨#[]⟩ a1 a2 a3 a4 a5 a6 none c1 c2 c3 c4 c5 c6 0 w r1 r2 r3 r4 r5 r6 (by omega) (by omega) (by omega) (by omega) (by omega) (by omega) (esNil w) (fun k e=>by cases e) (by decide) hd hD (by decide) (by decide) (by decide) rfl;rw [stepA_tk n dr h0] at h9;unfold ndC inTk inA;rw [e1,e2,e3,e4,e5,e6];exact h9
theorem implTick_o {w:World}{B:Nat}{n:Nd}{x:RV}(dr:Int)(h0:Yo n=0)(hO:NdO w B n x)(hd : -(2^63)<=dr)(hD:dr<2^63) :
  Calls Tryz.prog 12 #[.agg (ndC n x),.agg (inTk dr)] w fun e w'=>∃ X,e=.returned (.agg (saC (tk n dr) X))/\Jr w' w.heap.size (tk n dr) X/\Below w.heap.size w w':=by
 obtain ⟨z1,z2,z3,z4,z5,z6⟩:=Z35 n h0;obtain ⟨a1,c1,e1⟩:=hO.log.shape;obtain ⟨a2,c2,e2⟩:=hO.gr.shape;obtain ⟨a3,c3,e3⟩:=hO.nx.shape;obtain ⟨a4,c4,e4⟩:=hO.mt.shape;obtain ⟨a5,c5,e5⟩:=hO.se.shape;obtain ⟨a6,c6,e6⟩:=hO.st.shape;have r1:Es w (.slice a1 n.log.length c1) n.log:=by rw [<-e1];exact hO.log.es (by unfold maxLen;omega)
 have r2:Ix w (.slice a2 n.gr.length c2) n.gr:=by rw [<-e2];exact Z08 hO.gr (by omega)
 have r3:Ix w (.slice a3 n.nx.length c3) n.nx:=by rw [<-e3];exact Z08 hO.nx (by omega)
 have r4:Ix w (.slice a4 n.mt.length c4) n.mt:=by rw [<-e4];exact Z08 hO.mt (by omega)
 have r5:Ix w (.slice a5 n.se.length c5) n.se:=by rw [<-e5];exact Z08 hO.se (by omega)
 have r6:Ix w (.slice a6 n.st.length c6) n.st:=by rw [<-e6];exact Z08 hO.st (by omega)
 have h9:=Z36 n mg0 1 dr 0 0 0 ⟨#[]⟩ ⟨#[]⟩ ⟨#[]⟩ a1 a2 a3 a4 a5 a6 none c1 c2 c3 c4 c5 c6 0 w r1 r2 r3 r4 r5 r6 (by omega) (by omega) (by omega) (by omega) (by omega) (by omega) (esNil w) (fun k e=>by cases e) (by decide) hd hD (by decide) (by decide) (by decide) (Nat.le_refl _) rfl;rw [stepA_tk n dr h0] at h9;unfold ndC inTk inA;rw [e1,e2,e3,e4,e5,e6];exact h9.mono fun e w' ⟨X,h1,h2,_,h4⟩=>⟨X,h1,h2,h4⟩
def dueB (n:Nd)(j:Nat):Bool:=decide ((j:Int)+1≠n.id/\n.bt<=n.nw-n.st.getD j 0)
def Je (n:Nd):Nat->List Int
 | 0=>n.st
 | k+1=>if dueB n k=true then (Je n k).set k n.nw else Je n k
def Xp (n:Nd):Nat->List Mg
 | 0=>[]
 | k+1=>if dueB n k=true then Xp n k ++ [{ Jp n k with fr:=n.id }] else Xp n k
theorem Z0z (n:Nd):∀ k,(Je n k).length=n.st.length
 | 0=>rfl
 | k+1=>by rw [Je];split <;> simp [Z0z n k]
theorem Z1r (n:Nd)(j:Nat):∀ k,(Je n k).getD j 0=if j<k/\dueB n j=true/\j<n.st.length then n.nw else n.st.getD j 0
 | 0=>by rw [if_neg (by omega)];rfl
 | k+1=>by
  have ih:=Z1r n j k;rw [Je];split
  ·rename_i hd
   by_cases hj:j=k
   ·subst hj
    by_cases hl:j<n.st.length
    ·rw [if_pos ⟨by omega,hd,hl⟩]
     simp [List.getD_eq_getElem?_getD,List.getElem?_set,Z0z,hl]
    ·rw [if_neg (fun h=>hl h.2.2)]
     rw [List.getD_eq_getElem?_getD,List.getD_eq_getElem?_getD,List.getElem?_eq_none (by rw [List.length_set,Z0z];omega),List.getElem?_eq_none (by omega)]
   ·rw [List.getD_eq_getElem?_getD,List.getElem?_set_ne (by omega),<-List.getD_eq_getElem?_getD,ih]
    by_cases hc:j<k/\dueB n j=true/\j<n.st.length
    ·rw [if_pos hc,if_pos ⟨by omega,hc.2⟩]
    ·rw [if_neg hc,if_neg (fun h=>hc ⟨by omega,h.2⟩)]
  ·rename_i hd
   rw [ih];by_cases hj:j=k
   ·subst hj
    rw [if_neg (by omega),if_neg (fun h=>hd h.2.1)]
   ·by_cases hc:j<k/\dueB n j=true/\j<n.st.length
    ·rw [if_pos hc,if_pos ⟨by omega,hc.2⟩]
    ·rw [if_neg hc,if_neg (fun h=>hc ⟨by omega,h.2⟩)]
theorem beatK_eq (r:Rn):∀ k,r.beatK k={ r with n:={ r.n with st:=Je r.n k },out:=r.out ++ Xp r.n k }
 | 0=>by simp [Rn.beatK,Je,Xp]
 | k+1=>by
  have ih:=beatK_eq r k;rw [Rn.beatK,ih];have hg:(Je r.n k).getD k 0=r.n.st.getD k 0:=by rw [Z1r];rw [if_neg (by omega)]
  by_cases hc:(k:Int)+1≠r.n.id/\r.n.bt<=r.n.nw-r.n.st.getD k 0
  ·have hd:dueB r.n k=true:=by unfold dueB;exact decide_eq_true hc
   rw [if_pos (by rw [hg];exact hc),Je,Xp,if_pos hd,if_pos hd];simp only [Rn.sendE,Rn.send,List.append_assoc];rfl
  ·have hd:¬ dueB r.n k=true:=by unfold dueB;rw [decide_eq_true_eq];exact hc
   rw [if_neg (by rw [hg];exact hc),Je,Xp,if_neg hd,if_neg hd]
def ndT (n:Nd):Nd:={ n with nw:=n.nw+1 }
theorem tk_cases (n:Nd)(dr:Int)(h3:n.ro=3)(hw:n.nw<1099511627776):(tk n dr).n.nw=n.nw+1/\(tk n dr).code=0/\(((tk n dr).n.ro=0/\(tk n dr).out = []/\(tk n dr).n.ld=0/\(tk n dr).n.tm=n.tm/\(tk n dr).n.vo=n.vo)∨((tk n dr).n={ ndT n with st:=Je (ndT n) n.sz.toNat }/\(tk n dr).out=Xp (ndT n) n.sz.toNat)):=by
 unfold tk Rn.tick;dsimp only;rw [if_neg (by omega),if_pos h3];by_cases hm:Z0c (1+(Yh { n with nw:=n.nw+1 } n.sz.toNat:Int)) n.sz=true
 ·rw [if_pos hm,beatK_eq]
  exact ⟨rfl,rfl,.inr ⟨rfl,by simp [ndT]⟩⟩
 ·rw [if_neg hm]
  exact ⟨rfl,rfl,.inl ⟨rfl,rfl,rfl,rfl,rfl⟩⟩
theorem btOut_at (n:Nd)(j:Nat)(hd:dueB n j=true):∀ k,j<k->(Xp n k)[(Xp n j).length]? = some { Jp n j with fr:=n.id }
 | 0,h=>by omega
 | k+1,h=>by
  rw [Xp];by_cases hj:j=k
  ·subst hj
   rw [if_pos hd,List.getElem?_append_right (Nat.le_refl _)];simp
  ·have ih:=btOut_at n j hd k (by omega)
   split
   ·rw [List.getElem?_append_left (List.getElem?_eq_some_iff.1 ih).1];exact ih
   ·exact ih
theorem btOut_len (n:Nd):∀ k,(Xp n k).length<=k
 | 0=>Nat.le_refl _
 | k+1=>by
  have:=btOut_len n k;rw [Xp];split
  ·simp;omega
  ·omega
theorem ndT_ok (n:Nd)(h0:Yo n=0)(h3:n.ro=3)(hw:n.nw<1099511627776):Yo { ndT n with st:=Je (ndT n) n.sz.toNat }=0:=by
 have h:=h0;unfold Yo Ys at h;split at h
 ·simp at h
 rename_i h1;split at h
 ·simp at h
 rename_i h2;split at h
 ·simp at h
 rename_i h3';split at h
 ·simp at h
 rename_i h4;split at h
 ·simp at h
 rename_i h4b;split at h
 ·simp at h
 rename_i h5;split at h
 ·simp at h
 rename_i h6;split at h
 ·simp at h
 rename_i h7;split at h
 ·simp at h
 rename_i h8;simp only [Bool.not_eq_false] at h1 h2 h3' h4b h5 h6 h7 h8;refine Z02 h1 h2 h3' (by dsimp only [ndT];omega) h4b h5 ?_ h7 ?_
 ·simp only [Y7,Bool.and_eq_true,Zs,ndT] at h6 ⊢
  omega
 ·unfold Yr at h8 ⊢
  rw [if_pos h3] at h8;rw [if_pos (show (ndT n).ro=3 from h3)];rw [Bool.and_eq_true,Xj] at h8 ⊢;obtain ⟨⟨e1,e2,e3,e4⟩,hp⟩:=h8;refine ⟨⟨e1,e2,e3,by rw [Z0z];exact e4⟩,?_⟩;unfold Yq at hp ⊢;rw [List.all_eq_true] at hp ⊢;intro i hi;have h9:=hp i hi;dsimp only [ndT] at h9 ⊢;have hg:(Je (ndT n) n.sz.toNat).getD i 0=if i<n.sz.toNat/\dueB (ndT n) i=true/\i<(ndT n).st.length then n.nw+1 else n.st.getD i 0:=Z1r (ndT n) i n.sz.toNat
  change Yc _ _ _ _ _ _ _ ((Je (ndT n) n.sz.toNat).getD i 0)=true
  rw [hg];unfold Yc at h9 ⊢;by_cases hid:(i:Int)+1=n.id
  ·rw [if_pos hid] at h9
   rw [if_pos hid,if_neg (fun hc=>by have:=hc.2.1;unfold dueB at this;simp only [decide_eq_true_eq] at this;exact this.1 hid)];exact h9
  ·rw [if_neg hid] at h9
   rw [if_neg hid];simp only [Bool.and_eq_true,Zs] at h9 ⊢;refine ⟨h9.1,h9.2.1,by omega,?_⟩;split <;> omega
end Go.Proofs.YtmmpoppgabadmaaGreat
