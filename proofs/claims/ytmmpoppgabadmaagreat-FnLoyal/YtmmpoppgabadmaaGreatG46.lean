import Derived.Test.YtmmpoppgabadmaaGreatG41
import Derived.Test.YtmmpoppgabadmaaGreatG45
import Derived.Test.YtmmpoppgabadmaaGreatG37
import Derived.BigQuiet
set_option linter.unusedVariables false
set_option linter.unusedSimpArgs false
set_option maxRecDepth 100000
set_option maxHeartbeats 16000000
namespace Go.Proofs.YtmmpoppgabadmaaGreat
open Go.RowKit Go.Maps
theorem Zo.blockB {w w':World}{B b:Nat}{r:Rn}{x:CV}(h:Zo w B b r x)(hk:∀ k,B<=k->w'.heap[k]? = w.heap[k]?):Zo w' B b r x:=by
 have hg:∀ {α:Type} {cs:α->List Value} {m:Nat} {T:TypeId} {v:Value} {l:List α},Zs cs m T w B v l->Zs cs m T w' B v l:=fun ho=>ho.block fun k e=>hk k (ho.lts k e).1
 have he:∀ {v:Value} {l:List Ent},Zv w B v l->Zv w' B v l:=fun ho=>ho.block fun k e=>hk k (World.ownsRow.lt ho.2 k e).1
 exact ⟨h.blk.keep (hk b h.lo),h.lo,he h.log,h.gm.keep (hk _ h.gml),h.gml,h.pm.keep (hk _ h.pml),h.pml,h.gp,fun y q e=>⟨(h.pf y q e).1.keep (hk q (h.pf y q e).2),(h.pf y q e).2⟩,h.pi,h.pk,hg h.out,h.outC,fun p hp=>he (h.ents p hp),h.apE,h.ci⟩
theorem Jf.le {w:World}{B B':Nat}{r:Rn}{vg vn vm vs vt:Value}(h:Jf w B r vg vn vm vs vt)(hB:B'<=B):Jf w B' r vg vn vm vs vt:=⟨h.gr.le hB,h.nx.le hB,h.mt.le hB,h.se.le hB,h.st.le hB,h.ap⟩
theorem Jf.blockB {w w':World}{B:Nat}{r:Rn}{vg vn vm vs vt:Value}(h:Jf w B r vg vn vm vs vt)(hk:∀ k,B<=k->w'.heap[k]? = w.heap[k]?):Jf w' B r vg vn vm vs vt:=by
 have hg:∀ {v:Value} {l:List Int},Zs inC 1 3 w B v l->Zs inC 1 3 w' B v l:=fun ho=>ho.block fun k e=>hk k (ho.lts k e).1
 exact ⟨hg h.gr,hg h.nx,hg h.mt,hg h.se,hg h.st,h.ap⟩
theorem Jf.below {w w':World}{B:Nat}{r:Rn}{vg vn vm vs vt:Value}(h:Jf w B r vg vn vm vs vt)(hb:Below w.heap.size w w'):Jf w' B r vg vn vm vs vt:=⟨h.gr.below hb,h.nx.below hb,h.mt.below hb,h.se.below hb,h.st.below hb,h.ap⟩
theorem core_ans {w:World}{B b:Nat}{r:Rn}{x:CV}{vg vn vm vs vt:Value}(h:Zo w B b r x)(ht:Jf w B r vg vn vm vs vt):AnsN w B r ⟨x.vl,vg,vn,vm,vs,vt,x.vo,x.L⟩:=⟨h.log,ht.gr,ht.nx,ht.mt,ht.se,ht.st,h.out,h.outC,h.ents,ht.ap⟩
end Go.Proofs.YtmmpoppgabadmaaGreat
namespace Go.Proofs.YtmmpoppgabadmaaGreat
open Go.RowKit Go.Maps
theorem iStepNode_ask (n:Nd)(m:Mg)(ki dr cl sq op:Int)(k v o:ByteArray)(a12 a13 a14 a15 a16 a17 ea:Option Addr)(c12 c13 c14 c15 c16 c17 ec:Nat)(w:World)(h12:Es w (.slice a12 n.log.length c12) n.log)(h13:Ix w (.slice a13 n.gr.length c13) n.gr)(h14:Ix w (.slice a14 n.nx.length c14) n.nx)(h15:Ix w (.slice a15 n.mt.length c15) n.mt)(h16:Ix w (.slice a16 n.se.length c16) n.se)(h17:Ix w (.slice a17 n.st.length c17) n.st)(z12:n.log.length<=1048576)(z13:n.gr.length<=1048576)(z14:n.nx.length<=1048576)(z15:n.mt.length<=1048576)(z16:n.se.length<=1048576)(z17:n.st.length<=1048576)(he:Es w (.slice ea m.es.length ec) m.es)(hlo:∀ k,(Value.slice ea m.es.length ec).ownBlock=some k->k<w.heap.size)(hen:m.es.length<=1048576)(hd : -(2^63)<=dr)(hD:dr<2^63)(hk:k.size<=maxLen)(hv:v.size<=maxLen)(ho:o.size<=maxLen)(hec:m.es.length<=ec)(hki:Hid (ki=2))(hma:Hid (m.ki=1∨m.ki=3)) :
  Calls Tryz.prog 12 #[.agg #[.int .i64 n.id,.int .i64 n.sz,.int .i64 n.el,.int .i64 n.bt,.int .i64 n.tm,.int .i64 n.vo,.int .i64 n.ro,.int .i64 n.ld,.int .i64 n.cm,.int .i64 n.nw,.int .i64 n.dl,.int .i64 n.hd,.slice a12 n.log.length c12,.slice a13 n.gr.length c13,.slice a14 n.nx.length c14,.slice a15 n.mt.length c15,.slice a16 n.se.length c16,.slice a17 n.st.length c17],.agg #[.int .i64 ki,.int .i64 dr,.int .i64 m.ki,.int .i64 m.fr,.int .i64 m.td,.int .i64 m.tm,.int .i64 m.li,.int .i64 m.lt,.int .i64 m.cm,.int .i64 m.ok,.int .i64 m.hi,.slice ea m.es.length ec,.int .i64 cl,.int .i64 sq,.int .i64 op,.string k,.string v,.string o]] w fun e w'=>∃ x,e=.returned (.agg (saC (Z13 n dr ki m cl sq op k v o) x))/\AnsN w' w.heap.size (Z13 n dr ki m cl sq op k v o) x/\(x.vl :: x.L.map Om.v).Pairwise Xq/\Below w.heap.size w w':=by
 generalize hRP:Z13 n dr ki m cl sq op k v o=R;have HRP:Hid (Z13 n dr ki m cl sq op k v o=R):=hRP;clear hRP;obtain ⟨W,hW⟩:∃ W,W=((w.alloc (.cells #[.int .i64 n.id,.int .i64 n.sz,.int .i64 n.el,.int .i64 n.bt,.int .i64 n.tm,.int .i64 n.vo,.int .i64 n.ro,.int .i64 n.ld,.int .i64 n.cm,.int .i64 n.nw,.int .i64 n.dl,.int .i64 n.hd,.slice a12 n.log.length c12,.slice a13 n.gr.length c13,.slice a14 n.nx.length c14,.slice a15 n.mt.length c15,.slice a16 n.se.length c16,.slice a17 n.st.length c17] 36)).alloc (.cells #[.int .i64 ki,.int .i64 dr,.int .i64 m.ki,.int .i64 m.fr,.int .i64 m.td,.int .i64 m.tm,.int .i64 m.li,.int .i64 m.lt,.int .i64 m.cm,.int .i64 m.ok,.int .i64 m.hi,.slice ea m.es.length ec,.int .i64 cl,.int .i64 sq,.int .i64 op,.string k,.string v,.string o] 46)).alloc (.cells #[.int .i64 0,.int .i64 0,.int .i64 0,.int .i64 0,.int .i64 0,.int .i64 0,.int .i64 0,.int .i64 0,.int .i64 0,.int .i64 0,.int .i64 0,.int .i64 0,.int .i64 0,.int .i64 0,.slice none 0 0,.slice none 0 0,.slice none 0 0,.slice none 0 0,.slice none 0 0,.slice none 0 0,.slice none 0 0] 39):=⟨_,rfl⟩;have HW:Hid _:=hW;have HBn:Hid (Blk W w.heap.size #[.int .i64 n.id,.int .i64 n.sz,.int .i64 n.el,.int .i64 n.bt,.int .i64 n.tm,.int .i64 n.vo,.int .i64 n.ro,.int .i64 n.ld,.int .i64 n.cm,.int .i64 n.nw,.int .i64 n.dl,.int .i64 n.hd,.slice a12 n.log.length c12,.slice a13 n.gr.length c13,.slice a14 n.nx.length c14,.slice a15 n.mt.length c15,.slice a16 n.se.length c16,.slice a17 n.st.length c17] 36):=by unfold Hid;rw [hW];exact ((Blk.new _ _ _).alloc _).alloc _
 have HBi:Hid (Blk W (w.heap.size+1) #[.int .i64 ki,.int .i64 dr,.int .i64 m.ki,.int .i64 m.fr,.int .i64 m.td,.int .i64 m.tm,.int .i64 m.li,.int .i64 m.lt,.int .i64 m.cm,.int .i64 m.ok,.int .i64 m.hi,.slice ea m.es.length ec,.int .i64 cl,.int .i64 sq,.int .i64 op,.string k,.string v,.string o] 46):=by unfold Hid;rw [hW];exact (Blk.new' _ _ _ (by simp)).alloc _
 have HBa:Hid (Blk W (w.heap.size+1+1) #[.int .i64 0,.int .i64 0,.int .i64 0,.int .i64 0,.int .i64 0,.int .i64 0,.int .i64 0,.int .i64 0,.int .i64 0,.int .i64 0,.int .i64 0,.int .i64 0,.int .i64 0,.int .i64 0,.slice none 0 0,.slice none 0 0,.slice none 0 0,.slice none 0 0,.slice none 0 0,.slice none 0 0,.slice none 0 0] 39):=by unfold Hid;rw [hW];exact Blk.new' _ _ _ (by simp)
 have HBw:Hid (Below w.heap.size w W):=by unfold Hid;rw [hW];exact (((Below.refl _ _).alloc (Nat.le_refl _) _).alloc (by simp) _).alloc (by simp;omega) _
 have HWs:Hid (W.heap.size=w.heap.size+3):=by unfold Hid;rw [hW];simp
 have HF:Hid (∀ z,Below w.heap.size w z->Calls Tryz.prog 26 #[.agg #[.int .i64 n.id,.int .i64 n.sz,.int .i64 n.el,.int .i64 n.bt,.int .i64 n.tm,.int .i64 n.vo,.int .i64 n.ro,.int .i64 n.ld,.int .i64 n.cm,.int .i64 n.nw,.int .i64 n.dl,.int .i64 n.hd,.slice a12 n.log.length c12,.slice a13 n.gr.length c13,.slice a14 n.nx.length c14,.slice a15 n.mt.length c15,.slice a16 n.se.length c16,.slice a17 n.st.length c17]] z fun e w'=>e=.returned (.int .i64 (Xt n))/\Below z.heap.size z w'):=fun z hz=>
  nodeFault_any n.id n.sz n.el n.bt n.tm n.vo n.ro n.ld n.cm n.nw n.dl n.hd a12 a13 a14 a15 a16 a17 c12 c13 c14 c15 c16 c17 n.log n.gr n.nx n.mt n.se n.st z (h12.below hz) (h13.below hz) (h14.below hz) (h15.below hz) (h16.below hz) (h17.below hz) z12 z13 z14 z15 z16 z17
 have HCo:Hid (Xt n=0->∀ z,Below w.heap.size w z->Calls Tryz.prog 37 #[.agg #[.int .i64 n.id,.int .i64 n.sz,.int .i64 n.el,.int .i64 n.bt,.int .i64 n.tm,.int .i64 n.vo,.int .i64 n.ro,.int .i64 n.ld,.int .i64 n.cm,.int .i64 n.nw,.int .i64 n.dl,.int .i64 n.hd,.slice a12 n.log.length c12,.slice a13 n.gr.length c13,.slice a14 n.nx.length c14,.slice a15 n.mt.length c15,.slice a16 n.se.length c16,.slice a17 n.st.length c17]] z fun e w'=>∃ b x,e=.returned (.pointer (some ⟨b,0,none⟩))/\Zo w' z.heap.size b (rn0 n) x/\x.L = []/\Below z.heap.size z w'):=fun h0 z hz=>
  coreOf_any n a12 a13 a14 a15 a16 a17 c12 c13 c14 c15 c16 c17 z (h12.below hz) z12 (h13.below hz) (h14.below hz) (h15.below hz) (h16.below hz) (h17.below hz) (nodeN_ci n h0)
 have HS:Hid (Xt n=0->∀ z B b x,Below w.heap.size w z->w.heap.size<=B->Zo z B b (rn0 n) x->Calls Tryz.prog 38 #[.pointer (some ⟨b,0,none⟩),.agg #[.int .i64 ki,.int .i64 dr,.int .i64 m.ki,.int .i64 m.fr,.int .i64 m.td,.int .i64 m.tm,.int .i64 m.li,.int .i64 m.lt,.int .i64 m.cm,.int .i64 m.ok,.int .i64 m.hi,.slice ea m.es.length ec,.int .i64 cl,.int .i64 sq,.int .i64 op,.string k,.string v,.string o]] z fun e w'=>e=.returned (.int .i64 R.code)/\∃ x',Zo w' B b R x'/\Tch b z x w' x'):=fun h0 z B b x hz hB hC=>by
  obtain ⟨hb,t0,t1,hod,hgl,hcm,hg,hl⟩:=Jy n h0
  have e:((rn0 n).begin dr).step ki m cl sq op k v o=R:=by
   have h9:=HRP.out;unfold Z13 at h9;rw [if_pos h0] at h9;exact h9
  have h9:=step_ask b (rn0 n) x ki dr m cl sq op k v o ea ec z B hC rfl hb hd hD t0 t1 (he.below hz) (fun j e=>Nat.lt_of_lt_of_le (hlo j e) hB) hec hen (fun hro=>(listB_ld n hro (by have:=hb.sz0;omega) hb.nw0 hl).1) (fun hro=>(listB_ld n hro (by have:=hb.sz0;omega) hb.nw0 hl).2) hcm (Z1i n h0).1 hk hv ho hki hma;rw [e] at h9;exact h9
 clear h12 h13 h14 h15 h16 h17 z12 z13 z14 z15 z16 z17 he hlo hen hd hD hk hv ho hW hec;go_enter Tryz.func12,Tryz.ntmps12
 go_upto_region 1 with fail
 rw [<-HW.out];clear HW;generalize hai:w.heap.size+1+1=ba at *;generalize hii:w.heap.size+1=bi at *;have HOrd:Hid (w.heap.size<bi/\bi<ba/\ba<W.heap.size):=by have:=HWs.out;unfold Hid;omega
 clear hai hii;have HF1:Hid _:=HF.out W HBw.out;by_cases hz0:Xt n=0
 ·have HSt:Hid _:=HS.out hz0
  have HCt:Hid _:=HCo.out hz0;have hzb:(Xt n != 0)=false:=by simp [hz0]
  clear hz0
  go_upto_region 5 with (first
   |(have hBA:=HF1;refine Zw 36 (.tmp 2) rfl ?_;clear hBA;refine Zk rfl 36 (.tmp 2) rfl w.heap.size rfl HBn.out Tryz.underlying36 rfl sizeNd rfl ?_)
   |(go_at_call 26;go_loud (refine Calls.mono HF1.out ?_;rintro e w1 ⟨rfl,hb1⟩;have HB1:Hid (Below w.heap.size w w1):=HBw.out.trans (hb1.mono HBw.out.size);have HN1:Hid (Blk w1 w.heap.size _ 36):=HBn.out.below hb1 HBn.out.lt;have HI1:Hid (Blk w1 bi _ 46):=HBi.out.below hb1 HBi.out.lt;have HA1:Hid (Blk w1 ba _ 39):=HBa.out.below hb1 HBa.out.lt;have HC1:Hid _:=HCt.out w1 HB1.out;clear hb1 HF1))
   |(have hBA:=HN1;refine Zw 36 (.tmp 2) rfl ?_;clear hBA;refine Zk rfl 36 (.tmp 2) rfl w.heap.size rfl HN1.out Tryz.underlying36 rfl sizeNd rfl ?_)
   |(go_at_call 37;go_loud (refine Calls.mono HC1.out ?_;rintro e w2 ⟨b,x,rfl,hc2,hL2,hb2⟩;have HK2:Hid _:=hc2;have HB2:Hid (Below w.heap.size w w2):=HB1.out.trans (hb2.mono HB1.out.size);have HI2:Hid (Blk w2 bi _ 46):=HI1.out.below hb2 HI1.out.lt;have HA2:Hid (Blk w2 ba _ 39):=HA1.out.below hb2 HA1.out.lt;have HS2:Hid _:=HSt.out w2 w1.heap.size b x HB2.out HB1.out.size hc2;clear hc2 hb2 hL2))
   |(have hBA:=HI2;refine Zw 46 (.tmp 3) rfl ?_;clear hBA;refine Zk rfl 46 (.tmp 3) rfl bi rfl HI2.out Tryz.underlying46 rfl sizeInA rfl ?_)
   |(go_at_call 38;go_loud (refine Calls.mono HS2.out ?_;rintro e w3 ⟨rfl,x3,hc3,ht3⟩;have HK3:Hid _:=hc3;have HT3:Hid _:=ht3;clear hc3 ht3)))
  have HX3:Hid (∀ k,k<w1.heap.size->w3.heap[k]? = w2.heap[k]?):=fun k hk=>HT3.out.block k (by have:=HK2.out.lo;have:=HK2.out.lt;omega) (fun h=>by have:=(HK2.out.has_le h).1;omega)
  have hbaw:ba<w1.heap.size:=HA1.out.lt;have HA3:Hid (Blk w3 ba _ 39):=HA2.out.keep (HX3.out ba hbaw);have HB3:Hid (Below w.heap.size w w3):=HB2.out.trans ⟨HT3.out.os,HT3.out.tape,HT3.out.output,HT3.out.size,fun k hk=>HX3.out k (Nat.lt_of_lt_of_le hk HB1.out.size)⟩;obtain ⟨la,lc,hvl⟩:=HK3.out.log.shape;obtain ⟨oa,oc,hvo⟩:=HK3.out.out.shape;generalize R.n.log.length=LL at hvl;generalize x3.L.length=OL at hvo;have HVl:Hid (x3.vl=.slice la LL lc):=hvl;have HVo:Hid (x3.vo=.slice oa OL oc):=hvo;have e21:w3.cell? ⟨b,21,none⟩=some (.int .i64 R.drew):=HK3.out.blk.cell 21;have e23:w3.cell? ⟨b,23,none⟩=some (.slice oa OL oc):=by rw [<-hvo];exact HK3.out.blk.cell 23
  have eth:w3.there ba 0 21:=fun j hj=>⟨by rw [Nat.zero_add,HA3.out.cell j,Array.getElem?_eq_getElem (by simpa using hj)];rfl,by rw [Nat.zero_add];exact HA3.out.free j⟩
  have hi21:=Z1m;have hi21:=Z1m;clear hvl hvo hi21;have hwb:w.heap.size<=ba:=by have:=HOrd.out;omega
  have hw1:w.heap.size<=w1.heap.size:=HB1.out.size;refine wp_named ?_;intro a0 ha0;have hsz0:a0.tmps.size=28:=by rw [ha0];rfl
  have e4:a0.eval (.tmp 4)=.pointer (some ⟨ba,0,none⟩):=by rw [ha0];rfl
  have e5:a0.eval (.tmp 5)=.pointer (some ⟨b,0,none⟩):=by rw [ha0];rfl
  have e6:a0.eval (.tmp 6)=.int .i64 R.code:=by rw [ha0];rfl
  have HA0:Hid (a0=_):=ha0;clear ha0;refine Y7 (by kernel_rfl) (fun L aF w'=>∃ x:Nat->Value,aF=frame a0 [16,17,18,19,20,21,22,23,24,25,26,27] x/\Below w.heap.size w w'/\(Zo w' w1.heap.size b R x3)/\(∃ C:Array Value,Blk w' ba C 39/\C.size=21/\(L.getD 12 false=true->∃ vg vn vm vs vt,C=saC R ⟨x3.vl,vg,vn,vm,vs,vt,x3.vo,x3.L⟩/\Jf w' w1.heap.size R vg vn vm vs vt))/\(L.getD 0 false=true->x 16=.int .i64 R.code)/\(L.getD 1 false=true->x 17=.pointer (some ⟨b,0,none⟩))/\(L.getD 2 false=true->x 18=.pointer (some ⟨b,0,none⟩))/\(L.getD 3 false=true->x 19=.pointer (some ⟨b,21,none⟩))/\(L.getD 4 false=true->x 20=.int .i64 R.drew)/\(L.getD 5 false=true->x 21=.pointer (some ⟨b,0,none⟩))/\(L.getD 6 false=true->∃ vg vn vm vs vt,x 22=.agg #[.int .i64 R.n.id,.int .i64 R.n.sz,.int .i64 R.n.el,.int .i64 R.n.bt,.int .i64 R.n.tm,.int .i64 R.n.vo,.int .i64 R.n.ro,.int .i64 R.n.ld,.int .i64 R.n.cm,.int .i64 R.n.nw,.int .i64 R.n.dl,.int .i64 R.n.hd,x3.vl,vg,vn,vm,vs,vt]/\Jf w' w1.heap.size R vg vn vm vs vt)/\(L.getD 7 false=true->x 23=.pointer (some ⟨b,0,none⟩))/\(L.getD 8 false=true->x 24=.pointer (some ⟨b,0,none⟩))/\(L.getD 9 false=true->x 25=.pointer (some ⟨b,23,none⟩))/\(L.getD 10 false=true->x 26=.slice oa OL oc)/\(L.getD 11 false=true->∃ vg vn vm vs vt,x 27=.agg #[.int .i64 R.code,.int .i64 R.drew,.int .i64 R.n.id,.int .i64 R.n.sz,.int .i64 R.n.el,.int .i64 R.n.bt,.int .i64 R.n.tm,.int .i64 R.n.vo,.int .i64 R.n.ro,.int .i64 R.n.ld,.int .i64 R.n.cm,.int .i64 R.n.nw,.int .i64 R.n.dl,.int .i64 R.n.hd,x3.vl,vg,vn,vm,vs,vt,.slice oa OL oc]/\Jf w' w1.heap.size R vg vn vm vs vt)/\(L.getD 12 false=true->True)) ?_ ?_ ?_
  ·exact ⟨_,Yk a0 [16,17,18,19,20,21,22,23,24,25,26,27],HB3.out.trans ((Below.refl _ _).drew),HK3.out.drew,⟨_,HA3.out.below (Below.refl _ _).drew HA3.out.lt,rfl,fun h=>(Zl h).elim⟩,fun h=>(Zl h).elim,fun h=>(Zl h).elim,fun h=>(Zl h).elim,fun h=>(Zl h).elim,fun h=>(Zl h).elim,fun h=>(Zl h).elim,fun h=>(Zl h).elim,fun h=>(Zl h).elim,fun h=>(Zl h).elim,fun h=>(Zl h).elim,fun h=>(Zl h).elim,fun h=>(Zl h).elim,fun h=>(Zl h).elim⟩
  ·rintro L a w' i hsL hi ⟨x,rfl,hB,hK,hA,h0,h1,h2,h3,h4,h5,h6,h7,h8,h9,h10,h11,h12⟩
   have hiL:i<13:=(Zx hsL hi).1;have hL:L.size=13:=hsL;have hw':w.heap.size<=w'.heap.size:=hB.size;have hw1z:w1.heap.size<=w'.heap.size:=Nat.le_trans hK.lo (Nat.le_of_lt hK.lt);rcases (show i=0∨i=1∨i=2∨i=3∨i=4∨i=5∨i=6∨i=7∨i=8∨i=9∨i=10∨i=11∨i=12 by omega) with rfl | rfl | rfl | rfl | rfl | rfl | rfl | rfl | rfl | rfl | rfl | rfl | rfl
   ·skip
    refine Z8 rfl rfl (Y0 (.tmp 6) (Or.inl rfl) ?_);rw [Zc _ _ _ 6 rfl,e6];exact ⟨_,Z9 _ _ _ 16 _ rfl,hB,hK,(let ⟨C,h1,h2,h3⟩:=hA;⟨C,h1,h2,fun h=>h3 (Z0 h (by omega) (by decide))⟩),fun h=>Zb _ _ _,ke h1 (by omega) (by decide) (by decide),ke h2 (by omega) (by decide) (by decide),ke h3 (by omega) (by decide) (by decide),ke h4 (by omega) (by decide) (by decide),ke h5 (by omega) (by decide) (by decide),fun h=>by rw [Z6 _ _ _ _ (by decide)];exact (h6 (Z0 h (by omega) (by decide))),ke h7 (by omega) (by decide) (by decide),ke h8 (by omega) (by decide) (by decide),ke h9 (by omega) (by decide) (by decide),ke h10 (by omega) (by decide) (by decide),fun h=>by rw [Z6 _ _ _ _ (by decide)];exact (h11 (Z0 h (by omega) (by decide))),fun h=>trivial⟩
   ·skip
    refine Z8 rfl rfl (Y0 (.tmp 5) (Or.inl rfl) ?_);rw [Zc _ _ _ 5 rfl,e5];exact ⟨_,Z9 _ _ _ 17 _ rfl,hB,hK,(let ⟨C,h1,h2,h3⟩:=hA;⟨C,h1,h2,fun h=>h3 (Z0 h (by omega) (by decide))⟩),ke h0 (by omega) (by decide) (by decide),fun h=>Zb _ _ _,ke h2 (by omega) (by decide) (by decide),ke h3 (by omega) (by decide) (by decide),ke h4 (by omega) (by decide) (by decide),ke h5 (by omega) (by decide) (by decide),fun h=>by rw [Z6 _ _ _ _ (by decide)];exact (h6 (Z0 h (by omega) (by decide))),ke h7 (by omega) (by decide) (by decide),ke h8 (by omega) (by decide) (by decide),ke h9 (by omega) (by decide) (by decide),ke h10 (by omega) (by decide) (by decide),fun h=>by rw [Z6 _ _ _ _ (by decide)];exact (h11 (Z0 h (by omega) (by decide))),fun h=>trivial⟩
   ·have d1:=h1 (Z7 hi (by decide))
    have ev17:(frame a0 [16,17,18,19,20,21,22,23,24,25,26,27] x).tmps[17]?.getD undef=.pointer (some ⟨b,0,none⟩):=by have h:=(Z4 a0 [16,17,18,19,20,21,22,23,24,25,26,27] x 17 rfl (by omega)).trans d1;simpa [Act.eval] using h
    refine Z8 rfl rfl (Zd (v:=.pointer (some ⟨b,0,none⟩)) ?_ ?_)
    ·obtain ⟨aa,haa⟩:∃ aa,aa=frame a0 [16,17,18,19,20,21,22,23,24,25,26,27] x:=⟨_,rfl⟩
     rw [<-haa] at ev17 ⊢;clear haa HA0;go_simp
    exact ⟨_,Z9 _ _ _ 18 _ rfl,hB,hK,(let ⟨C,h1,h2,h3⟩:=hA;⟨C,h1,h2,fun h=>h3 (Z0 h (by omega) (by decide))⟩),ke h0 (by omega) (by decide) (by decide),ke h1 (by omega) (by decide) (by decide),fun h=>Zb _ _ _,ke h3 (by omega) (by decide) (by decide),ke h4 (by omega) (by decide) (by decide),ke h5 (by omega) (by decide) (by decide),fun h=>by rw [Z6 _ _ _ _ (by decide)];exact (h6 (Z0 h (by omega) (by decide))),ke h7 (by omega) (by decide) (by decide),ke h8 (by omega) (by decide) (by decide),ke h9 (by omega) (by decide) (by decide),ke h10 (by omega) (by decide) (by decide),fun h=>by rw [Z6 _ _ _ _ (by decide)];exact (h11 (Z0 h (by omega) (by decide))),fun h=>trivial⟩
   ·have d2:=h2 (Z7 hi (by decide))
    have ev18:(frame a0 [16,17,18,19,20,21,22,23,24,25,26,27] x).tmps[18]?.getD undef=.pointer (some ⟨b,0,none⟩):=by have h:=(Z4 a0 [16,17,18,19,20,21,22,23,24,25,26,27] x 18 rfl (by omega)).trans d2;simpa [Act.eval] using h
    refine Z8 rfl rfl (Zd (v:=.pointer (some ⟨b,21,none⟩)) ?_ ?_)
    ·obtain ⟨aa,haa⟩:∃ aa,aa=frame a0 [16,17,18,19,20,21,22,23,24,25,26,27] x:=⟨_,rfl⟩
     rw [<-haa] at ev18 ⊢;clear haa HA0;go_simp
    exact ⟨_,Z9 _ _ _ 19 _ rfl,hB,hK,(let ⟨C,h1,h2,h3⟩:=hA;⟨C,h1,h2,fun h=>h3 (Z0 h (by omega) (by decide))⟩),ke h0 (by omega) (by decide) (by decide),ke h1 (by omega) (by decide) (by decide),ke h2 (by omega) (by decide) (by decide),fun h=>Zb _ _ _,ke h4 (by omega) (by decide) (by decide),ke h5 (by omega) (by decide) (by decide),fun h=>by rw [Z6 _ _ _ _ (by decide)];exact (h6 (Z0 h (by omega) (by decide))),ke h7 (by omega) (by decide) (by decide),ke h8 (by omega) (by decide) (by decide),ke h9 (by omega) (by decide) (by decide),ke h10 (by omega) (by decide) (by decide),fun h=>by rw [Z6 _ _ _ _ (by decide)];exact (h11 (Z0 h (by omega) (by decide))),fun h=>trivial⟩
   ·have d3:=h3 (Z7 hi (by decide))
    have cin:w'.cell? ⟨b,21,none⟩=some (.int .i64 R.drew):=hK.blk.cell 21;have ev19:(frame a0 [16,17,18,19,20,21,22,23,24,25,26,27] x).tmps[19]?.getD undef=.pointer (some ⟨b,21,none⟩):=by have h:=(Z4 a0 [16,17,18,19,20,21,22,23,24,25,26,27] x 19 rfl (by omega)).trans d3;simpa [Act.eval] using h
    refine Z8 rfl rfl (Zd (v:=.int .i64 R.drew) ?_ ?_)
    ·obtain ⟨aa,haa⟩:∃ aa,aa=frame a0 [16,17,18,19,20,21,22,23,24,25,26,27] x:=⟨_,rfl⟩
     rw [<-haa] at ev19 ⊢;clear haa HA0;go_simp
    exact ⟨_,Z9 _ _ _ 20 _ rfl,hB,hK,(let ⟨C,h1,h2,h3⟩:=hA;⟨C,h1,h2,fun h=>h3 (Z0 h (by omega) (by decide))⟩),ke h0 (by omega) (by decide) (by decide),ke h1 (by omega) (by decide) (by decide),ke h2 (by omega) (by decide) (by decide),ke h3 (by omega) (by decide) (by decide),fun h=>Zb _ _ _,ke h5 (by omega) (by decide) (by decide),fun h=>by rw [Z6 _ _ _ _ (by decide)];exact (h6 (Z0 h (by omega) (by decide))),ke h7 (by omega) (by decide) (by decide),ke h8 (by omega) (by decide) (by decide),ke h9 (by omega) (by decide) (by decide),ke h10 (by omega) (by decide) (by decide),fun h=>by rw [Z6 _ _ _ _ (by decide)];exact (h11 (Z0 h (by omega) (by decide))),fun h=>trivial⟩
   ·skip
    refine Z8 rfl rfl (Y0 (.tmp 5) (Or.inl rfl) ?_);rw [Zc _ _ _ 5 rfl,e5];exact ⟨_,Z9 _ _ _ 21 _ rfl,hB,hK,(let ⟨C,h1,h2,h3⟩:=hA;⟨C,h1,h2,fun h=>h3 (Z0 h (by omega) (by decide))⟩),ke h0 (by omega) (by decide) (by decide),ke h1 (by omega) (by decide) (by decide),ke h2 (by omega) (by decide) (by decide),ke h3 (by omega) (by decide) (by decide),ke h4 (by omega) (by decide) (by decide),fun h=>Zb _ _ _,fun h=>by rw [Z6 _ _ _ _ (by decide)];exact (h6 (Z0 h (by omega) (by decide))),ke h7 (by omega) (by decide) (by decide),ke h8 (by omega) (by decide) (by decide),ke h9 (by omega) (by decide) (by decide),ke h10 (by omega) (by decide) (by decide),fun h=>by rw [Z6 _ _ _ _ (by decide)];exact (h11 (Z0 h (by omega) (by decide))),fun h=>trivial⟩
   ·have d5:=h5 (Z7 hi (by decide))
    have ev21:=(Z4 a0 [16,17,18,19,20,21,22,23,24,25,26,27] x 21 rfl (by omega)).trans d5;refine Z8 rfl rfl (Y4 (N:=39) rfl (fun _ _=>by go_simp) #[.pointer (some ⟨b,0,none⟩)] (by simp only [List.map_toArray,List.map_cons,List.map_nil,ev21]) ?_);refine Calls.mono (told_any b R x3 w' w1.heap.size hK) ?_;rintro e w2 ⟨vg,vn,vm,vs,vt,rfl,hTd,hb⟩;refine ⟨_,rfl,?_⟩;exact ⟨_,Z9 _ _ _ 22 _ rfl,hB.trans (hb.mono hw'),hK.below hb,(let ⟨C,h1,h2,h3⟩:=hA;⟨C,h1.below hb h1.lt,h2,fun h=>(let ⟨vg,vn,vm,vs,vt,q1,q2⟩:=h3 (Z0 h (by omega) (by decide));⟨vg,vn,vm,vs,vt,q1,q2.below hb⟩)⟩),ke h0 (by omega) (by decide) (by decide),ke h1 (by omega) (by decide) (by decide),ke h2 (by omega) (by decide) (by decide),ke h3 (by omega) (by decide) (by decide),ke h4 (by omega) (by decide) (by decide),ke h5 (by omega) (by decide) (by decide),fun h=>⟨vg,vn,vm,vs,vt,Zb _ _ _,hTd.le hw1z⟩,ke h7 (by omega) (by decide) (by decide),ke h8 (by omega) (by decide) (by decide),ke h9 (by omega) (by decide) (by decide),ke h10 (by omega) (by decide) (by decide),fun h=>by rw [Z6 _ _ _ _ (by decide)];exact (let ⟨vg,vn,vm,vs,vt,q1,q2⟩:=(h11 (Z0 h (by omega) (by decide)));⟨vg,vn,vm,vs,vt,q1,q2.below hb⟩),fun h=>trivial⟩
   ·skip
    refine Z8 rfl rfl (Y0 (.tmp 5) (Or.inl rfl) ?_);rw [Zc _ _ _ 5 rfl,e5];exact ⟨_,Z9 _ _ _ 23 _ rfl,hB,hK,(let ⟨C,h1,h2,h3⟩:=hA;⟨C,h1,h2,fun h=>h3 (Z0 h (by omega) (by decide))⟩),ke h0 (by omega) (by decide) (by decide),ke h1 (by omega) (by decide) (by decide),ke h2 (by omega) (by decide) (by decide),ke h3 (by omega) (by decide) (by decide),ke h4 (by omega) (by decide) (by decide),ke h5 (by omega) (by decide) (by decide),fun h=>by rw [Z6 _ _ _ _ (by decide)];exact (h6 (Z0 h (by omega) (by decide))),fun h=>Zb _ _ _,ke h8 (by omega) (by decide) (by decide),ke h9 (by omega) (by decide) (by decide),ke h10 (by omega) (by decide) (by decide),fun h=>by rw [Z6 _ _ _ _ (by decide)];exact (h11 (Z0 h (by omega) (by decide))),fun h=>trivial⟩
   ·have d7:=h7 (Z7 hi (by decide))
    have ev23:(frame a0 [16,17,18,19,20,21,22,23,24,25,26,27] x).tmps[23]?.getD undef=.pointer (some ⟨b,0,none⟩):=by have h:=(Z4 a0 [16,17,18,19,20,21,22,23,24,25,26,27] x 23 rfl (by omega)).trans d7;simpa [Act.eval] using h
    refine Z8 rfl rfl (Zd (v:=.pointer (some ⟨b,0,none⟩)) ?_ ?_)
    ·obtain ⟨aa,haa⟩:∃ aa,aa=frame a0 [16,17,18,19,20,21,22,23,24,25,26,27] x:=⟨_,rfl⟩
     rw [<-haa] at ev23 ⊢;clear haa HA0;go_simp
    exact ⟨_,Z9 _ _ _ 24 _ rfl,hB,hK,(let ⟨C,h1,h2,h3⟩:=hA;⟨C,h1,h2,fun h=>h3 (Z0 h (by omega) (by decide))⟩),ke h0 (by omega) (by decide) (by decide),ke h1 (by omega) (by decide) (by decide),ke h2 (by omega) (by decide) (by decide),ke h3 (by omega) (by decide) (by decide),ke h4 (by omega) (by decide) (by decide),ke h5 (by omega) (by decide) (by decide),fun h=>by rw [Z6 _ _ _ _ (by decide)];exact (h6 (Z0 h (by omega) (by decide))),ke h7 (by omega) (by decide) (by decide),fun h=>Zb _ _ _,ke h9 (by omega) (by decide) (by decide),ke h10 (by omega) (by decide) (by decide),fun h=>by rw [Z6 _ _ _ _ (by decide)];exact (h11 (Z0 h (by omega) (by decide))),fun h=>trivial⟩
   ·have d8:=h8 (Z7 hi (by decide))
    have ev24:(frame a0 [16,17,18,19,20,21,22,23,24,25,26,27] x).tmps[24]?.getD undef=.pointer (some ⟨b,0,none⟩):=by have h:=(Z4 a0 [16,17,18,19,20,21,22,23,24,25,26,27] x 24 rfl (by omega)).trans d8;simpa [Act.eval] using h
    refine Z8 rfl rfl (Zd (v:=.pointer (some ⟨b,23,none⟩)) ?_ ?_)
    ·obtain ⟨aa,haa⟩:∃ aa,aa=frame a0 [16,17,18,19,20,21,22,23,24,25,26,27] x:=⟨_,rfl⟩
     rw [<-haa] at ev24 ⊢;clear haa HA0;go_simp
    exact ⟨_,Z9 _ _ _ 25 _ rfl,hB,hK,(let ⟨C,h1,h2,h3⟩:=hA;⟨C,h1,h2,fun h=>h3 (Z0 h (by omega) (by decide))⟩),ke h0 (by omega) (by decide) (by decide),ke h1 (by omega) (by decide) (by decide),ke h2 (by omega) (by decide) (by decide),ke h3 (by omega) (by decide) (by decide),ke h4 (by omega) (by decide) (by decide),ke h5 (by omega) (by decide) (by decide),fun h=>by rw [Z6 _ _ _ _ (by decide)];exact (h6 (Z0 h (by omega) (by decide))),ke h7 (by omega) (by decide) (by decide),ke h8 (by omega) (by decide) (by decide),fun h=>Zb _ _ _,ke h10 (by omega) (by decide) (by decide),fun h=>by rw [Z6 _ _ _ _ (by decide)];exact (h11 (Z0 h (by omega) (by decide))),fun h=>trivial⟩
   ·have d9:=h9 (Z7 hi (by decide))
    have cin:w'.cell? ⟨b,23,none⟩=some (.slice oa OL oc):=by rw [<-HVo.out];exact hK.blk.cell 23
    have ev25:(frame a0 [16,17,18,19,20,21,22,23,24,25,26,27] x).tmps[25]?.getD undef=.pointer (some ⟨b,23,none⟩):=by have h:=(Z4 a0 [16,17,18,19,20,21,22,23,24,25,26,27] x 25 rfl (by omega)).trans d9;simpa [Act.eval] using h
    refine Z8 rfl rfl (Zd (v:=.slice oa OL oc) ?_ ?_)
    ·obtain ⟨aa,haa⟩:∃ aa,aa=frame a0 [16,17,18,19,20,21,22,23,24,25,26,27] x:=⟨_,rfl⟩
     rw [<-haa] at ev25 ⊢;clear haa HA0;go_simp
    exact ⟨_,Z9 _ _ _ 26 _ rfl,hB,hK,(let ⟨C,h1,h2,h3⟩:=hA;⟨C,h1,h2,fun h=>h3 (Z0 h (by omega) (by decide))⟩),ke h0 (by omega) (by decide) (by decide),ke h1 (by omega) (by decide) (by decide),ke h2 (by omega) (by decide) (by decide),ke h3 (by omega) (by decide) (by decide),ke h4 (by omega) (by decide) (by decide),ke h5 (by omega) (by decide) (by decide),fun h=>by rw [Z6 _ _ _ _ (by decide)];exact (h6 (Z0 h (by omega) (by decide))),ke h7 (by omega) (by decide) (by decide),ke h8 (by omega) (by decide) (by decide),ke h9 (by omega) (by decide) (by decide),fun h=>Zb _ _ _,fun h=>by rw [Z6 _ _ _ _ (by decide)];exact (h11 (Z0 h (by omega) (by decide))),fun h=>trivial⟩
   ·have d0:=h0 (Z7 hi (by decide))
    have d4:=h4 (Z7 hi (by decide));have d6:=h6 (Z7 hi (by decide));have d10:=h10 (Z7 hi (by decide));obtain ⟨vg,vn,vm,vs,vt,e22,hTd⟩:=d6;have ev16:(frame a0 [16,17,18,19,20,21,22,23,24,25,26,27] x).tmps[16]?.getD undef=.int .i64 R.code:=by have h:=(Z4 a0 [16,17,18,19,20,21,22,23,24,25,26,27] x 16 rfl (by omega)).trans d0;simpa [Act.eval] using h
    have ev20:(frame a0 [16,17,18,19,20,21,22,23,24,25,26,27] x).tmps[20]?.getD undef=.int .i64 R.drew:=by have h:=(Z4 a0 [16,17,18,19,20,21,22,23,24,25,26,27] x 20 rfl (by omega)).trans d4;simpa [Act.eval] using h
    have ev22:(frame a0 [16,17,18,19,20,21,22,23,24,25,26,27] x).tmps[22]?.getD undef=.agg #[.int .i64 R.n.id,.int .i64 R.n.sz,.int .i64 R.n.el,.int .i64 R.n.bt,.int .i64 R.n.tm,.int .i64 R.n.vo,.int .i64 R.n.ro,.int .i64 R.n.ld,.int .i64 R.n.cm,.int .i64 R.n.nw,.int .i64 R.n.dl,.int .i64 R.n.hd,x3.vl,vg,vn,vm,vs,vt]:=by have h:=(Z4 a0 [16,17,18,19,20,21,22,23,24,25,26,27] x 22 rfl (by omega)).trans e22;simpa [Act.eval] using h
    have ev26:(frame a0 [16,17,18,19,20,21,22,23,24,25,26,27] x).tmps[26]?.getD undef=.slice oa OL oc:=by have h:=(Z4 a0 [16,17,18,19,20,21,22,23,24,25,26,27] x 26 rfl (by omega)).trans d10;simpa [Act.eval] using h
    refine Z8 rfl rfl (Zd (v:=.agg #[.int .i64 R.code,.int .i64 R.drew,.int .i64 R.n.id,.int .i64 R.n.sz,.int .i64 R.n.el,.int .i64 R.n.bt,.int .i64 R.n.tm,.int .i64 R.n.vo,.int .i64 R.n.ro,.int .i64 R.n.ld,.int .i64 R.n.cm,.int .i64 R.n.nw,.int .i64 R.n.dl,.int .i64 R.n.hd,x3.vl,vg,vn,vm,vs,vt,.slice oa OL oc]) ?_ ?_)
    ·obtain ⟨aa,haa⟩:∃ aa,aa=frame a0 [16,17,18,19,20,21,22,23,24,25,26,27] x:=⟨_,rfl⟩
     rw [<-haa] at ev16 ev20 ev22 ev26 ⊢;clear haa HA0;go_simp
    exact ⟨_,Z9 _ _ _ 27 _ rfl,hB,hK,(let ⟨C,h1,h2,h3⟩:=hA;⟨C,h1,h2,fun h=>h3 (Z0 h (by omega) (by decide))⟩),ke h0 (by omega) (by decide) (by decide),ke h1 (by omega) (by decide) (by decide),ke h2 (by omega) (by decide) (by decide),ke h3 (by omega) (by decide) (by decide),ke h4 (by omega) (by decide) (by decide),ke h5 (by omega) (by decide) (by decide),fun h=>by rw [Z6 _ _ _ _ (by decide)];exact (h6 (Z0 h (by omega) (by decide))),ke h7 (by omega) (by decide) (by decide),ke h8 (by omega) (by decide) (by decide),ke h9 (by omega) (by decide) (by decide),ke h10 (by omega) (by decide) (by decide),fun h=>⟨vg,vn,vm,vs,vt,Zb _ _ _,hTd⟩,fun h=>trivial⟩
   ·have d11:=h11 (Z7 hi (by decide))
    obtain ⟨vg,vn,vm,vs,vt,e27,hTd⟩:=d11;obtain ⟨C,hBa,hCz,hCf⟩:=hA;have hSe:saC R ⟨x3.vl,vg,vn,vm,vs,vt,x3.vo,x3.L⟩=#[.int .i64 R.code,.int .i64 R.drew,.int .i64 R.n.id,.int .i64 R.n.sz,.int .i64 R.n.el,.int .i64 R.n.bt,.int .i64 R.n.tm,.int .i64 R.n.vo,.int .i64 R.n.ro,.int .i64 R.n.ld,.int .i64 R.n.cm,.int .i64 R.n.nw,.int .i64 R.n.dl,.int .i64 R.n.hd,x3.vl,vg,vn,vm,vs,vt,.slice oa OL oc]:=by unfold saC;rw [HVo.out]
    have hOn:=(core_ans hK hTd).one;rw [hSe] at hOn;have evp:=(Zc a0 [16,17,18,19,20,21,22,23,24,25,26,27] x 4 rfl).trans e4;have evs:=(Z4 a0 [16,17,18,19,20,21,22,23,24,25,26,27] x 27 rfl (by omega)).trans e27;refine Z8 rfl rfl (Jq 39 (.tmp 4) (.tmp 27) rfl (ba) evp evs hBa Z1m rfl hCz hOn ?_);exact ⟨_,rfl,J0 hB hwb _,hK.blockB (fun k hk=>setRow_other _ _ _ _ (by omega)),⟨_,hBa.row _,rfl,fun _=>⟨vg,vn,vm,vs,vt,hSe.symm,hTd.blockB fun k hk=>setRow_other _ _ _ _ (by omega)⟩⟩,ku h0 (by omega) (by decide),ku h1 (by omega) (by decide),ku h2 (by omega) (by decide),ku h3 (by omega) (by decide),ku h4 (by omega) (by decide),ku h5 (by omega) (by decide),fun h=>(let ⟨vg,vn,vm,vs,vt,q1,q2⟩:=(h6 (Z0 h (by omega) (by decide)));⟨vg,vn,vm,vs,vt,q1,q2.blockB fun k hk=>setRow_other _ _ _ _ (by omega)⟩),ku h7 (by omega) (by decide),ku h8 (by omega) (by decide),ku h9 (by omega) (by decide),ku h10 (by omega) (by decide),fun h=>(let ⟨vg,vn,vm,vs,vt,q1,q2⟩:=(h11 (Z0 h (by omega) (by decide)));⟨vg,vn,vm,vs,vt,q1,q2.blockB fun k hk=>setRow_other _ _ _ _ (by omega)⟩),fun h=>trivial⟩
  ·rintro L a w' hsL hr ⟨x,rfl,hB,hK,hA,h0,h1,h2,h3,h4,h5,h6,h7,h8,h9,h10,h11,h12⟩
   have hall:=Yq hsL hr (by decide);replace h0:=h0 (hall 0 (by decide));replace h1:=h1 (hall 1 (by decide));replace h2:=h2 (hall 2 (by decide));replace h3:=h3 (hall 3 (by decide));replace h4:=h4 (hall 4 (by decide));replace h5:=h5 (hall 5 (by decide));replace h6:=h6 (hall 6 (by decide));replace h7:=h7 (hall 7 (by decide));replace h8:=h8 (hall 8 (by decide));replace h9:=h9 (hall 9 (by decide));replace h10:=h10 (hall 10 (by decide));replace h11:=h11 (hall 11 (by decide));replace h12:=h12 (hall 12 (by decide));rw [HA0.out];simp only [frame,List.zipIdx_cons,List.zipIdx_nil,List.map_cons,List.map_nil,List.contains_cons,List.contains_nil,Nat.reduceBEq,Nat.reduceAdd,Bool.or_false,Bool.false_or,Bool.or_true,Bool.true_or,Bool.false_eq_true,if_false,if_true,h0,h1,h2,h3,h4,h5,h7,h8,h9,h10,h12];obtain ⟨C,hBa,hCz,hCf⟩:=hA;obtain ⟨vg,vn,vm,vs,vt,rfl,hTd⟩:=hCf (hall 12 (by decide))
   (try go_wp2_with fail)
   (try simp only [Exit.inBlock,Exit.then])
   refine bodyPost_ret (v:=.agg (saC R ⟨x3.vl,vg,vn,vm,vs,vt,x3.vo,x3.L⟩)) (Y9 Tryz.results12 rfl hBa Tryz.underlying39 rfl Z1m rfl) rfl ⟨⟨x3.vl,vg,vn,vm,vs,vt,x3.vo,x3.L⟩,rfl,(core_ans hK hTd).le hw1,hK.apE,hB⟩
 ·have HRs:Hid (rn9=R):=by have h9:=HRP.out;unfold Z13 at h9;rw [if_neg hz0] at h9;exact h9
  have hzb:(Xt n != 0)=true:=by simpa using hz0
  clear hz0
  go_wp2_with (first
   |(have hBA:=HF1;refine Zw 36 (.tmp 2) rfl ?_;clear hBA;refine Zk rfl 36 (.tmp 2) rfl w.heap.size rfl HBn.out Tryz.underlying36 rfl sizeNd rfl ?_)
   |(go_at_call 26;go_loud (refine Calls.mono HF1.out ?_;rintro e w1 ⟨rfl,hb1⟩;have HB1:Hid _:=hb1;have HA1:Hid (Blk w1 ba _ 39):=HBa.out.below hb1 HBa.out.lt;clear hb1 HF1))
   |(have hBA:=HA1;refine Y2 39 (.tmp 4) _ rfl ?_;clear hBA;go_loud (refine Y1 rfl 39 (.tmp 4) _ rfl ba rfl rfl HA1.out Z1m rfl rfl (by simp [Value.oneCell']) ?_)))
  rw [<-HRs.out];refine bodyPost_ret (v:=.agg (saC rn9 rv9)) (Y9 Tryz.results12 rfl (HA1.out.row _) Tryz.underlying39 rfl Z1m rfl) rfl ⟨rv9,rfl,ans9 _ _,List.pairwise_singleton _ _,J0 (HBw.out.trans (HB1.out.mono HBw.out.size)) (by have:=HOrd.out;omega) _⟩
end Go.Proofs.YtmmpoppgabadmaaGreat
namespace Go.Proofs.YtmmpoppgabadmaaGreat
open Go.RowKit
theorem Z41 (t:Nat->Value):lst t 0 121 = [t 0,t 1,t 2,t 3,t 4,t 5,t 6,t 7,t 8,t 9,t 10,t 11,t 12,t 13,t 14,t 15,t 16,t 17,t 18,t 19,t 20,t 21,t 22,t 23,t 24,t 25,t 26,t 27,t 28,t 29,t 30,t 31,t 32,t 33,t 34,t 35,t 36,t 37,t 38,t 39,t 40,t 41,t 42,t 43,t 44,t 45,t 46,t 47,t 48,t 49,t 50,t 51,t 52,t 53,t 54,t 55,t 56,t 57,t 58,t 59,t 60,t 61,t 62,t 63,t 64,t 65,t 66,t 67,t 68,t 69,t 70,t 71,t 72,t 73,t 74,t 75,t 76,t 77,t 78,t 79,t 80,t 81,t 82,t 83,t 84,t 85,t 86,t 87,t 88,t 89,t 90,t 91,t 92,t 93,t 94,t 95,t 96,t 97,t 98,t 99,t 100,t 101,t 102,t 103,t 104,t 105,t 106,t 107,t 108,t 109,t 110,t 111,t 112,t 113,t 114,t 115,t 116,t 117,t 118,t 119,t 120]:=rfl
structure LyO (R:Rn) (n:Nd) (m:Mg):Prop where
 loy:loyB n=true->R.code=2/\R.drew=0/\R.out = []/\R.n=n
 not:loyB n=false->R.code=0/\(∃ o,R.out = [o]/\o.td=m.fr/\o.ki=m.ki+1)/\(m.ki=3∨R.n=n)
theorem ly_step (n:Nd)(dr:Int)(m:Mg)(h0:Xt n=0)(hm:msB m=0)(htd:m.td=n.id)(hfs:m.fr<=n.sz)(hk:m.ki=1∨m.ki=3):LyO (Z13 n dr 2 m 0 0 0 ⟨#[]⟩ ⟨#[]⟩ ⟨#[]⟩) n m:=by
 have e1:Z13 n dr 2 m 0 0 0 ⟨#[]⟩ ⟨#[]⟩ ⟨#[]⟩=Rn.message ⟨n,[],0,0,dr⟩ (decide (msB m≠0)) m:=by
  unfold Z13;rw [if_pos h0];rfl
 rw [e1];unfold Rn.message;rw [if_neg (by simp only [hm];simp;omega)];rcases hk with hk | hk
 ·rw [if_pos hk]
  unfold Rn.preAsk;refine ⟨fun h=>?_,fun h=>?_⟩
  ·rw [if_pos h]
   exact ⟨rfl,rfl,rfl,rfl⟩
  ·rw [if_neg (by rw [h];simp)]
   split
   ·exact ⟨rfl,⟨_,rfl,rfl,by rw [hk];rfl⟩,.inr rfl⟩
   ·exact ⟨rfl,⟨_,rfl,rfl,by rw [hk];rfl⟩,.inr rfl⟩
 ·rw [if_neg (by omega),if_neg (by omega),if_pos hk]
  unfold Rn.voteAsk;refine ⟨fun h=>?_,fun h=>?_⟩
  ·rw [if_pos h]
   exact ⟨rfl,rfl,rfl,rfl⟩
  ·rw [if_neg (by rw [h];simp)]
   have hout:∀ r:Rn,(r.higher m.tm).out=r.out/\(r.higher m.tm).code=r.code:=fun r=>by
    unfold Rn.higher Rn.adopt;split
    ·split <;> exact ⟨rfl,rfl⟩
    ·exact ⟨rfl,rfl⟩
   have h9:=hout ⟨n,[],0,0,dr⟩;dsimp only;split
   ·exact ⟨h9.2,⟨_,by show (Rn.higher ⟨n,[],0,0,dr⟩ m.tm).out ++ [_] = [_];rw [h9.1];rfl,rfl,by rw [hk];rfl⟩,.inl hk⟩
   ·exact ⟨h9.2,⟨_,by show (Rn.higher ⟨n,[],0,0,dr⟩ m.tm).out ++ [_] = [_];rw [h9.1];rfl,rfl,by rw [hk];rfl⟩,.inl hk⟩
theorem sizeSaY:(Tryz.prog.info? 39).map (·.size)=some 21:=by kernel_rfl
theorem Z1x {P:Program}{ops:Array Oper}{rest:List Oper}{op:Oper}{a:Act}{w:World}{Q:Exit->Act->World->Prop}{gj:Nat}{gb:Bool}(hgd:op.guard=some (gj,gb))(hy:yielded ops a.tmps gj=some gb)(ty:TypeId)(x:Operand)(ho:op.op=.load ty x)
  (b o:Nat) (hx:a.eval x=.pointer (some ⟨b,o,none⟩)) (cs:List Value) (d:TypeDesc) (hc:w.rangeAt b o cs) (hu:P.underlying ty=some d) (hd:d.isRow=true) (hi:(P.info? ty).map (·.size)=some cs.length)
  (h:wpList P ops Q rest (a.put op.dst (.agg cs.toArray)) w):wpList P ops Q (op :: rest) a w:=
 wpList_step fun K hK=>by
  simp only [Region.wanted,hgd,hy,beq_self_eq_true,if_true];exact wp_load_mid ty x ho b o hx cs d hc hu hd hi (hK _ _ h)
structure LyS (w0 w:World) (b3 b4:Nat) (n:Nd) (x:RV) (m:Mg):Prop where
 bl:Below w0.heap.size w0 w
 nb:Blk w b3 (ndC n x) 36
 own:NdO w w0.heap.size n x
 mb:Blk w b4 (msV m (.slice none 0 0)) 43
theorem LyS.below {w0 w w':World}{b3 b4:Nat}{n:Nd}{x:RV}{m:Mg}(h:LyS w0 w b3 b4 n x m)(hb:Below w.heap.size w w'):LyS w0 w' b3 b4 n x m:=
 ⟨h.bl.trans (hb.mono h.bl.size),h.nb.below hb h.nb.lt,h.own.keep fun q _ h2=>hb.block q h2,h.mb.below hb h.mb.lt⟩
structure LyG (w0 w:World) (b3 b4 b7:Nat) (n:Nd) (x:RV) (m:Mg) (R:Rn) (X:RV):Prop where
 s:LyS w0 w b3 b4 n x m
 gb:Blk w b7 (saC R X) 39
 ans:AnsN w w0.heap.size R X
theorem LyG.below {w0 w w':World}{b3 b4 b7:Nat}{n:Nd}{x X:RV}{m:Mg}{R:Rn}(h:LyG w0 w b3 b4 b7 n x m R X)(hb:Below w.heap.size w w'):LyG w0 w' b3 b4 b7 n x m R X:=by
 have hg:∀ {α:Type} {cs:α->List Value} {m:Nat} {T:TypeId} {v:Value} {l:List α},Zs cs m T w w0.heap.size v l->Zs cs m T w' w0.heap.size v l:=fun ho=>ho.block fun k e=>hb.block k (ho.lts k e).2
 have he:∀ {v:Value} {l:List Ent},Zv w w0.heap.size v l->Zv w' w0.heap.size v l:=fun ho=>ho.block fun k e=>hb.block k (World.ownsRow.lt ho.2 k e).2
 have a:=h.ans;exact ⟨h.s.below hb,h.gb.below hb h.gb.lt,he a.log,hg a.gr,hg a.nx,hg a.mt,hg a.se,hg a.st,hg a.out,a.outC,fun p hp=>he (a.ents p hp),a.ap⟩
theorem LyG.msg {w0 w:World}{b3 b4 b7:Nat}{n:Nd}{x X:RV}{m:Mg}{R:Rn}(h:LyG w0 w b3 b4 b7 n x m R X){o:Mg}(ho:R.out = [o]):∃ ob oc,X.vo=.slice (some ⟨ob,0,none⟩) 1 oc/\w.cell? ⟨ob,0,none⟩=some (.int .i64 o.ki)/\w.cell? ⟨ob,2,none⟩=some (.int .i64 o.td):=by
 have hC:=h.ans.outC;rw [ho] at hC;have hlen:X.L.length=1:=by have:=congrArg List.length hC;simpa using this
 obtain ⟨p,hp⟩:∃ p,X.L = [p]:=List.length_eq_one_iff.1 hlen;have hw:=h.ans.out;rw [hp] at hw hC;have hpm:p.m=o:=by simpa using hC
 obtain ⟨ob,oc,hv⟩:=hw.shape' (by simp);rw [hv] at hw
 have hc:∀ t,t<10->w.cell? ⟨ob,0*10+t,none⟩=(omC p)[t]?:=fun t ht=>by
  rw [World.ownsRow.cellAt hw (0*10+t) (by simp;omega),gC_get omLaw.len [p] 0 (by simp) t ht];rfl
 refine ⟨ob,oc,hv,?_,?_⟩
 ·have h9:=hc 0 (by omega)
  rw [<-hpm];exact h9
 ·have h9:=hc 2 (by omega)
  rw [<-hpm];exact h9
theorem ly0 {v:Value}{Q:Exit->Act->World->Prop}{K:Act->World->Prop}{a:Act}{w:World}(hF:SzD a 121)(h0:a.eval (.tmp 0)=v)(hP:∀ a' w',SzD a' 121->a'.eval (.tmp 0)=v->w'=w->K a' w'):(Z1 0 (Z3 Tryz.f4)).wp Tryz.prog (Exit.then K Q) a w:=by
 obtain ⟨t,rfl⟩:=hF.opened;clear hF;rw [Z41]
 try dsimp only
 rw [show t 0=_ from h0];clear h0
 conv=>arg 2;whnf
 go_wp2_with fail
 exact hP _ _ ⟨rfl,rfl⟩ rfl rfl
theorem ly1 {a0:Option Addr}{ln c0:Nat}(hl:ln<=1048576){Q:Exit->Act->World->Prop}{K:Act->World->Prop}{a:Act}{w:World}(hF:SzD a 121)(h0:a.eval (.tmp 0)=.slice a0 ln c0)(hP:∀ a' w',SzD a' 121->a'.eval (.tmp 0)=.slice a0 ln c0->a'.eval (.tmp 11)=.bool false->w'=w->K a' w'):(Z1 0 (Z1 1 (Z3 Tryz.f4))).wp Tryz.prog (Exit.then K Q) a w:=by
 obtain ⟨t,rfl⟩:=hF.opened;clear hF;rw [Z41]
 try dsimp only
 rw [show t 0=_ from h0];clear h0;have hl2:¬(1048576:Int)<(ln:Int):=by omega
 conv=>arg 2;whnf
 go_wp2_with fail
 exact hP _ _ ⟨rfl,rfl⟩ rfl (by simp [Act.eval] <;> omega) rfl
theorem ly3 {a0:Option Addr}{ln c0:Nat}{n:Nd}{m:Mg}{Q:Exit->Act->World->Prop}{K:Act->World->Prop}{a:Act}{w:World}(hF:SzD a 121)(h0:a.eval (.tmp 0)=.slice a0 ln c0)(HD:Hid (Calls Tryz.prog 20 #[.slice a0 ln c0] w fun r w'=>∃ x,r=.returned (.tuple #[.agg (ndC n x),.agg (msV m (.slice none 0 0))])/\NdO w' w.heap.size n x/\Below w.heap.size w w'))(hP:∀ a' w' x' w4,SzD a' 121->a'.eval (.tmp 0)=.slice a0 ln c0->a'.eval (.tmp 3)=.pointer (some ⟨w4.heap.size,0,none⟩)->a'.eval (.tmp 4)=.pointer (some ⟨w4.heap.size+1,0,none⟩)->w'=(w4.alloc (.cells (ndC n x') 36)).alloc (.cells (msV m (.slice none 0 0)) 43)->NdO w4 w.heap.size n x'->Below w.heap.size w w4->K a' w'):(Z1 2 (Z3 Tryz.f4)).wp Tryz.prog (Exit.then K Q) a w:=by
 obtain ⟨t,rfl⟩:=hF.opened;clear hF;rw [Z41]
 try dsimp only
 rw [show t 0=_ from h0];clear h0;have HM1:Hid ((msV m (.slice none 0 0)).all (·.oneCell')=true):=by unfold Hid msV;simp [Value.oneCell']
 conv=>arg 2;whnf
 go_wp2_with (first
  |(go_at_call 20;go_loud (refine HD.out.mono ?_;rintro r w2 ⟨x2,rfl,ho2,hb2⟩;have HO2:Hid (NdO w2 w.heap.size n x2):=ho2;have HB2:Hid _:=hb2;have HC1:Hid ((ndC n x2).all (·.oneCell')=true):=ho2.one.1;clear ho2 hb2))
  |(refine Y2 36 (.tmp 3) _ rfl ?_;go_loud (refine Z15 rfl 36 (.tmp 3) _ rfl (w2.heap.size) rfl rfl rfl Ye rfl rfl HC1.out ?_))
  |(refine Y2 43 (.tmp 4) _ rfl ?_;go_loud (refine Zz rfl 43 (.tmp 4) _ rfl (w2.heap.size+1) rfl (by simp) rfl Ys rfl rfl HM1.out ?_)))
 exact hP _ _ x2 w2 ⟨rfl,rfl⟩ rfl rfl rfl rfl HO2.out HB2.out
theorem ly6 {a0:Option Addr}{ln c0:Nat}{n:Nd}{m:Mg}{e3 e4:Value}{Q:Exit->Act->World->Prop}{K:Act->World->Prop}{a:Act}{w:World}(hF:SzD a 121)(h0:a.eval (.tmp 0)=.slice a0 ln c0)(h3:a.eval (.tmp 3)=e3)(h4:a.eval (.tmp 4)=e4)(HD:Hid (Calls Tryz.prog 20 #[.slice a0 ln c0] w fun r w'=>∃ x,r=.returned (.tuple #[.agg (ndC n x),.agg (msV m (.slice none 0 0))])/\NdO w' w.heap.size n x/\Below w.heap.size w w'))(hP:∀ a' w' x' w4,SzD a' 121->a'.eval (.tmp 0)=.slice a0 ln c0->a'.eval (.tmp 3)=e3->a'.eval (.tmp 4)=e4->a'.eval (.tmp 5)=.pointer (some ⟨w4.heap.size,0,none⟩)->a'.eval (.tmp 6)=.pointer (some ⟨w4.heap.size+1,0,none⟩)->w'=(w4.alloc (.cells (ndC n x') 36)).alloc (.cells (msV m (.slice none 0 0)) 43)->NdO w4 w.heap.size n x'->Below w.heap.size w w4->K a' w'):(Z1 4 (Z3 Tryz.f4)).wp Tryz.prog (Exit.then K Q) a w:=by
 obtain ⟨t,rfl⟩:=hF.opened;clear hF;rw [Z41]
 try dsimp only
 rw [show t 0=_ from h0,show t 3=_ from h3,show t 4=_ from h4];clear h0 h3 h4;have HM1:Hid ((msV m (.slice none 0 0)).all (·.oneCell')=true):=by unfold Hid msV;simp [Value.oneCell']
 conv=>arg 2;whnf
 go_wp2_with (first
  |(go_at_call 20;go_loud (refine HD.out.mono ?_;rintro r w2 ⟨x2,rfl,ho2,hb2⟩;have HO2:Hid (NdO w2 w.heap.size n x2):=ho2;have HB2:Hid _:=hb2;have HC1:Hid ((ndC n x2).all (·.oneCell')=true):=ho2.one.1;clear ho2 hb2))
  |(refine Y2 36 (.tmp 5) _ rfl ?_;go_loud (refine Z15 rfl 36 (.tmp 5) _ rfl (w2.heap.size) rfl rfl rfl Ye rfl rfl HC1.out ?_))
  |(refine Y2 43 (.tmp 6) _ rfl ?_;go_loud (refine Zz rfl 43 (.tmp 6) _ rfl (w2.heap.size+1) rfl (by simp) rfl Ys rfl rfl HM1.out ?_)))
 exact hP _ _ x2 w2 ⟨rfl,rfl⟩ rfl rfl rfl rfl rfl rfl HO2.out HB2.out
theorem ly4 {w0:World}{b3 b4:Nat}{n:Nd}{x:RV}{m:Mg}{e0:Value}{Q:Exit->Act->World->Prop}{K:Act->World->Prop}{a:Act}{w:World}(hF:SzD a 121)(h0:a.eval (.tmp 0)=e0)(h3:a.eval (.tmp 3)=.pointer (some ⟨b3,0,none⟩))(h4:a.eval (.tmp 4)=.pointer (some ⟨b4,0,none⟩))(hS:LyS w0 w b3 b4 n x m)(HM:Hid (Calls Tryz.prog 21 #[.agg (msV m (.slice none 0 0))] w fun r w'=>r=.returned (.int .i64 (msB m))/\Below w.heap.size w w'))(HN:Hid (∀ z,Below w.heap.size w z->Calls Tryz.prog 22 #[.agg (ndC n x)] z fun r w'=>r=.returned (.int .i64 (Xt n))/\Below z.heap.size z w'))(hP:∀ a' w',SzD a' 121->a'.eval (.tmp 0)=e0->a'.eval (.tmp 3)=.pointer (some ⟨b3,0,none⟩)->a'.eval (.tmp 4)=.pointer (some ⟨b4,0,none⟩)->a'.eval (.tmp 31)=.bool (decide (¬(msB m=0/\¬ m.fr=m.td/\Xt n=0)))->LyS w0 w' b3 b4 n x m->K a' w'):(Z1 0 (Z1 3 (Z3 Tryz.f4))).wp Tryz.prog (Exit.then K Q) a w:=by
 obtain ⟨t,rfl⟩:=hF.opened;clear hF;rw [Z41]
 try dsimp only
 rw [show t 0=_ from h0,show t 3=_ from h3,show t 4=_ from h4];clear h0 h3 h4;obtain ⟨fr,hfr⟩:∃ q,q=m.fr:=⟨_,rfl⟩;obtain ⟨td,htd⟩:∃ q,q=m.td:=⟨_,rfl⟩;obtain ⟨MS,hMS⟩:∃ q,q=msB m:=⟨_,rfl⟩;obtain ⟨NF,hNF⟩:∃ q,q=Xt n:=⟨_,rfl⟩;have HC1:Hid (w.cell? ⟨b4,1,none⟩=some (.int .i64 fr)/\b4<w.heap.size):=⟨by rw [hfr];exact hS.mb.cell 1,hS.mb.lt⟩;have HC2:Hid (w.cell? ⟨b4,2,none⟩=some (.int .i64 td)/\b4<w.heap.size):=⟨by rw [htd];exact hS.mb.cell 2,hS.mb.lt⟩;have HB4:Hid (Blk w b4 (msV m (.slice none 0 0)) 43):=hS.mb;rw [<-hfr,<-htd,<-hMS,<-hNF] at hP;rw [<-hMS] at HM;rw [<-hNF] at HN;have HS:Hid (LyS w0 w b3 b4 n x m):=hS;clear hS hfr htd hMS hNF;have G1:Hid True:=trivial;have G2:Hid True:=trivial
 conv=>arg 2;whnf
 by_cases g1:MS=0
 ·have g1b:(MS != 0)=false:=by simpa using g1
  by_cases g2:fr=td
  ·have g2b:(fr == td)=true:=by simpa using g2
   have Hg:Hid (MS=0/\fr=td):=⟨g1,g2⟩;clear g1 g2
   go_wp2_with (first
   |(have hBA:=G1;refine Zw 43 (.tmp 4) rfl ?_;clear hBA;refine Zk rfl 43 (.tmp 4) rfl b4 rfl HB4.out Tryz.underlying43 rfl Ys rfl ?_;clear G1)
   |(go_at_call 21;refine HM.out.mono ?_;rintro r w2 ⟨rfl,hb2⟩;have HS2:Hid (LyS w0 w2 b3 b4 n x m):=HS.out.below hb2;have HB2:Hid _:=hb2;have k1:w2.cell? ⟨b4,1,none⟩=some (.int .i64 fr):=(hb2.cell HC1.out.2).trans HC1.out.1;have k2:w2.cell? ⟨b4,2,none⟩=some (.int .i64 td):=(hb2.cell HC2.out.2).trans HC2.out.1;clear hb2)
   |(have hBA:=G2;refine Zw 36 (.tmp 3) rfl ?_;clear hBA;refine Jj rfl rfl 36 (.tmp 3) rfl b3 rfl HS2.out.nb Tryz.underlying36 rfl Ye rfl ?_;clear G2)
   |(go_at_call 22;refine (HN.out _ HB2.out).mono ?_;rintro r w3 ⟨rfl,hb3⟩;have HS3:Hid (LyS w0 w3 b3 b4 n x m):=HS2.out.below hb3;clear hb3))
   exact hP _ _ ⟨rfl,rfl⟩ rfl rfl rfl (by have h9:=Hg.out;simp [Act.eval,h9]) HS2.out
  ·have g2b:(fr == td)=false:=by simpa using g2
   have Hg:Hid (MS=0/\¬ fr=td):=⟨g1,g2⟩;clear g1 g2
   go_wp2_with (first
   |(have hBA:=G1;refine Zw 43 (.tmp 4) rfl ?_;clear hBA;refine Zk rfl 43 (.tmp 4) rfl b4 rfl HB4.out Tryz.underlying43 rfl Ys rfl ?_;clear G1)
   |(go_at_call 21;refine HM.out.mono ?_;rintro r w2 ⟨rfl,hb2⟩;have HS2:Hid (LyS w0 w2 b3 b4 n x m):=HS.out.below hb2;have HB2:Hid _:=hb2;have k1:w2.cell? ⟨b4,1,none⟩=some (.int .i64 fr):=(hb2.cell HC1.out.2).trans HC1.out.1;have k2:w2.cell? ⟨b4,2,none⟩=some (.int .i64 td):=(hb2.cell HC2.out.2).trans HC2.out.1;clear hb2)
   |(have hBA:=G2;refine Zw 36 (.tmp 3) rfl ?_;clear hBA;refine Jj rfl rfl 36 (.tmp 3) rfl b3 rfl HS2.out.nb Tryz.underlying36 rfl Ye rfl ?_;clear G2)
   |(go_at_call 22;refine (HN.out _ HB2.out).mono ?_;rintro r w3 ⟨rfl,hb3⟩;have HS3:Hid (LyS w0 w3 b3 b4 n x m):=HS2.out.below hb3;clear hb3))
   exact hP _ _ ⟨rfl,rfl⟩ rfl rfl rfl (by have h9:=Hg.out;by_cases h8:NF=0 <;> simp [Act.eval,h9,h8]) HS3.out
 ·have g1b:(MS != 0)=true:=by simpa using g1
  have Hg:Hid (¬ MS=0):=g1;clear g1
  go_wp2_with (first
   |(have hBA:=G1;refine Zw 43 (.tmp 4) rfl ?_;clear hBA;refine Zk rfl 43 (.tmp 4) rfl b4 rfl HB4.out Tryz.underlying43 rfl Ys rfl ?_;clear G1)
   |(go_at_call 21;refine HM.out.mono ?_;rintro r w2 ⟨rfl,hb2⟩;have HS2:Hid (LyS w0 w2 b3 b4 n x m):=HS.out.below hb2;have HB2:Hid _:=hb2;have k1:w2.cell? ⟨b4,1,none⟩=some (.int .i64 fr):=(hb2.cell HC1.out.2).trans HC1.out.1;have k2:w2.cell? ⟨b4,2,none⟩=some (.int .i64 td):=(hb2.cell HC2.out.2).trans HC2.out.1;clear hb2)
   |(have hBA:=G2;refine Zw 36 (.tmp 3) rfl ?_;clear hBA;refine Jj rfl rfl 36 (.tmp 3) rfl b3 rfl HS2.out.nb Tryz.underlying36 rfl Ye rfl ?_;clear G2)
   |(go_at_call 22;refine (HN.out _ HB2.out).mono ?_;rintro r w3 ⟨rfl,hb3⟩;have HS3:Hid (LyS w0 w3 b3 b4 n x m):=HS2.out.below hb3;clear hb3))
  exact hP _ _ ⟨rfl,rfl⟩ rfl rfl rfl (by have h9:=Hg.out;simp [Act.eval,h9]) HS2.out
theorem AnsN.belowY {w w':World}{B:Nat}{r:Rn}{x:RV}(h:AnsN w B r x)(hb:Below w.heap.size w w'):AnsN w' B r x:=by
 have hg:∀ {α:Type} {cs:α->List Value} {m:Nat} {T:TypeId} {v:Value} {l:List α},Zs cs m T w B v l->Zs cs m T w' B v l:=fun ho=>ho.block fun k e=>hb.block k (ho.lts k e).2
 have he:∀ {v:Value} {l:List Ent},Zv w B v l->Zv w' B v l:=fun ho=>ho.block fun k e=>hb.block k (World.ownsRow.lt ho.2 k e).2
 exact ⟨he h.log,hg h.gr,hg h.nx,hg h.mt,hg h.se,hg h.st,hg h.out,h.outC,fun p hp=>he (h.ents p hp),h.ap⟩
theorem ly_ans {w0 w w2:World}{b3 b4:Nat}{n:Nd}{x X:RV}{m:Mg}{R:Rn}(h:LyS w0 w b3 b4 n x m)(ha:AnsN w2 w.heap.size R X)(hb:Below w.heap.size w w2):LyG w0 (w2.alloc (.cells (saC R X) 39)) b3 b4 w2.heap.size n x m R X:=by
 have h2:Below w2.heap.size w2 (w2.alloc (.cells (saC R X) 39)):=(Below.refl _ _).alloc (Nat.le_refl _) _;exact ⟨(h.below hb).below h2,Blk.new _ _ _,(ha.le h.bl.size).belowY h2⟩
theorem ly7 {w0:World}{b3 b4 b5 b6 ln c0:Nat}{a0:Option Addr}{n:Nd}{x y:RV}{m:Mg}{R:Rn}(hl:ln<=1048576){Q:Exit->Act->World->Prop}{K:Act->World->Prop}{a:Act}{w:World}(hF:SzD a 121)(h0:a.eval (.tmp 0)=.slice a0 ln c0)(h3:a.eval (.tmp 3)=.pointer (some ⟨b3,0,none⟩))(h4:a.eval (.tmp 4)=.pointer (some ⟨b4,0,none⟩))(h5:a.eval (.tmp 5)=.pointer (some ⟨b5,0,none⟩))(h6:a.eval (.tmp 6)=.pointer (some ⟨b6,0,none⟩))(hS:LyS w0 w b3 b4 n x m)(hN:Blk w b5 (ndC n y) 36)(hM:Blk w b6 #[.int .i64 m.ki,.int .i64 m.fr,.int .i64 m.td,.int .i64 m.tm,.int .i64 m.li,.int .i64 m.lt,.int .i64 m.cm,.int .i64 m.ok,.int .i64 m.hi,.slice none 0 0] 43)(HT:Hid (Calls Tryz.prog 12 #[.agg (ndC n y),.agg #[.int .i64 2,.int .i64 (ln:Int),.int .i64 m.ki,.int .i64 m.fr,.int .i64 m.td,.int .i64 m.tm,.int .i64 m.li,.int .i64 m.lt,.int .i64 m.cm,.int .i64 m.ok,.int .i64 m.hi,.slice none 0 0,.int .i64 0,.int .i64 0,.int .i64 0,.string ⟨#[]⟩,.string ⟨#[]⟩,.string ⟨#[]⟩]] w fun e w'=>∃ X,e=.returned (.agg (saC R X))/\AnsN w' w.heap.size R X/\Below w.heap.size w w'))(hP:∀ a' w' b7 X,SzD a' 121->a'.eval (.tmp 3)=.pointer (some ⟨b3,0,none⟩)->a'.eval (.tmp 4)=.pointer (some ⟨b4,0,none⟩)->a'.eval (.tmp 7)=.pointer (some ⟨b7,0,none⟩)->LyG w0 w' b3 b4 b7 n x m R X->K a' w'):(Z1 5 (Z3 Tryz.f4)).wp Tryz.prog (Exit.then K Q) a w:=by
 obtain ⟨t,rfl⟩:=hF.opened;clear hF;rw [Z41]
 try dsimp only
 rw [show t 0=_ from h0,show t 3=_ from h3,show t 4=_ from h4,show t 5=_ from h5,show t 6=_ from h6];clear h0 h3 h4 h5 h6;have HB5:Hid (Blk w b5 (ndC n y) 36):=hN;have HB6:Hid (Blk w b6 _ 43):=hM;have HS:Hid (LyS w0 w b3 b4 n x m):=hS;have G1:Hid True:=trivial;have G2:Hid True:=trivial;clear hS hN hM
 conv=>arg 2;whnf
 go_wp2_with (first
  |(have hBA:=G1;refine Zw 36 (.tmp 5) rfl ?_;clear hBA;refine Zk rfl 36 (.tmp 5) rfl b5 rfl HB5.out Tryz.underlying36 rfl Ye rfl ?_;clear G1)
  |(have hBA:=G2;refine Zw 43 (.tmp 6) rfl ?_;clear hBA;refine Zk rfl 43 (.tmp 6) rfl b6 rfl HB6.out Tryz.underlying43 rfl Ys rfl ?_;clear G2)
  |(go_at_call 12;go_loud (refine HT.out.mono ?_;rintro r w2 ⟨X2,rfl,ha2,hb2⟩;have HG2:Hid (LyG w0 (w2.alloc (.cells (saC R X2) 39)) b3 b4 w2.heap.size n x m R X2):=ly_ans HS.out ha2 hb2;have HC1:Hid ((saC R X2).all (·.oneCell')=true):=ha2.one;clear ha2 hb2))
  |(refine Y2 39 (.tmp 7) _ rfl ?_;go_loud (refine Zz rfl 39 (.tmp 7) _ rfl (w2.heap.size) rfl rfl rfl sizeSaY rfl rfl HC1.out ?_)))
 exact hP _ _ w2.heap.size X2 ⟨rfl,rfl⟩ rfl rfl rfl HG2.out
theorem ly8 {w0:World}{b3 b4 b7:Nat}{n:Nd}{x X:RV}{m:Mg}{R:Rn}(hnw:0<=n.nw/\n.nw<=1099511627776)(hhd:0<=n.hd/\n.hd<=1099511627776){Q:Exit->Act->World->Prop}{K:Act->World->Prop}{a:Act}{w:World}(hF:SzD a 121)(h3:a.eval (.tmp 3)=.pointer (some ⟨b3,0,none⟩))(h4:a.eval (.tmp 4)=.pointer (some ⟨b4,0,none⟩))(h7:a.eval (.tmp 7)=.pointer (some ⟨b7,0,none⟩))(hS:LyG w0 w b3 b4 b7 n x m R X)(hP:∀ a' w',SzD a' 121->a'.eval (.tmp 3)=.pointer (some ⟨b3,0,none⟩)->a'.eval (.tmp 4)=.pointer (some ⟨b4,0,none⟩)->a'.eval (.tmp 7)=.pointer (some ⟨b7,0,none⟩)->a'.eval (.tmp 8)=.bool (loyB n)->LyG w0 w' b3 b4 b7 n x m R X->K a' w'):(Z1 6 (Z3 Tryz.f4)).wp Tryz.prog (Exit.then K Q) a w:=by
 obtain ⟨t,rfl⟩:=hF.opened;clear hF;rw [Z41]
 try dsimp only
 rw [show t 3=_ from h3,show t 4=_ from h4,show t 7=_ from h7];clear h3 h4 h7;unfold loyB at hP;obtain ⟨ro,hro⟩:∃ q,q=n.ro:=⟨_,rfl⟩;obtain ⟨ld,hld⟩:∃ q,q=n.ld:=⟨_,rfl⟩;obtain ⟨nw,hnwe⟩:∃ q,q=n.nw:=⟨_,rfl⟩;obtain ⟨hd,hhde⟩:∃ q,q=n.hd:=⟨_,rfl⟩;obtain ⟨el,hel⟩:∃ q,q=n.el:=⟨_,rfl⟩;have c6:w.cell? ⟨b3,6,none⟩=some (.int .i64 ro):=by rw [hro];exact hS.s.nb.cell 6
 have c7:w.cell? ⟨b3,7,none⟩=some (.int .i64 ld):=by rw [hld];exact hS.s.nb.cell 7
 have c9:w.cell? ⟨b3,9,none⟩=some (.int .i64 nw):=by rw [hnwe];exact hS.s.nb.cell 9
 have c11:w.cell? ⟨b3,11,none⟩=some (.int .i64 hd):=by rw [hhde];exact hS.s.nb.cell 11
 have c2:w.cell? ⟨b3,2,none⟩=some (.int .i64 el):=by rw [hel];exact hS.s.nb.cell 2
 rw [<-hro,<-hld,<-hnwe,<-hhde,<-hel] at hP;rw [<-hnwe] at hnw;rw [<-hhde] at hhd;have HS:Hid (LyG w0 w b3 b4 b7 n x m R X):=hS;clear hS hro hld hnwe hhde hel;have hw:IntKind.i64.wrap (nw-hd)=nw-hd:=by rw [IntKind.wrap_i64];omega
 conv=>arg 2;whnf
 by_cases g1:ro=3
 ·have g1b:(ro == 3)=true:=by simpa using g1
  have Hg:Hid (ro=3):=g1;clear g1
  go_wp2_with fail
  exact hP _ _ ⟨rfl,rfl⟩ rfl rfl rfl (by have h9:=Hg.out;simp [Act.eval,h9]) HS.out
 ·have g1b:(ro == 3)=false:=by simpa using g1
  by_cases g2:ld=0
  ·have g2b:(ld != 0)=false:=by simpa using g2
   have Hg:Hid (¬ ro=3/\ld=0):=⟨g1,g2⟩;clear g1 g2
   go_wp2_with fail
   exact hP _ _ ⟨rfl,rfl⟩ rfl rfl rfl (by have h9:=Hg.out;simp [Act.eval,h9]) HS.out
  ·have g2b:(ld != 0)=true:=by simpa using g2
   have Hg:Hid (¬ ro=3/\¬ ld=0):=⟨g1,g2⟩;clear g1 g2
   go_wp2_with fail
   exact hP _ _ ⟨rfl,rfl⟩ rfl rfl rfl (by simp only [Act.eval];rw [g1b,g2b];rfl) HS.out
theorem ly9 {b3 b4 b7:Nat}{lo:Bool}{Q:Exit->Act->World->Prop}{K:Act->World->Prop}{a:Act}{w:World}(hF:SzD a 121)(h3:a.eval (.tmp 3)=.pointer (some ⟨b3,0,none⟩))(h4:a.eval (.tmp 4)=.pointer (some ⟨b4,0,none⟩))(h7:a.eval (.tmp 7)=.pointer (some ⟨b7,0,none⟩))(h8:a.eval (.tmp 8)=.bool lo)(hP:∀ a' w',SzD a' 121->a'.eval (.tmp 3)=.pointer (some ⟨b3,0,none⟩)->a'.eval (.tmp 4)=.pointer (some ⟨b4,0,none⟩)->a'.eval (.tmp 7)=.pointer (some ⟨b7,0,none⟩)->a'.eval (.tmp 61)=.bool lo->w'=w->K a' w'):(Z1 0 (Z1 7 (Z3 Tryz.f4))).wp Tryz.prog (Exit.then K Q) a w:=by
 obtain ⟨t,rfl⟩:=hF.opened;clear hF;rw [Z41]
 try dsimp only
 rw [show t 3=_ from h3,show t 4=_ from h4,show t 7=_ from h7,show t 8=_ from h8];clear h3 h4 h7 h8
 conv=>arg 2;whnf
 go_wp2_with fail
 exact hP _ _ ⟨rfl,rfl⟩ rfl rfl rfl rfl rfl
theorem ly10 {w0:World}{b3 b4 b7:Nat}{n:Nd}{x X:RV}{m:Mg}{R:Rn}(hc:R.code=2)(hd:R.drew=0)(ho:R.out = [])(hn:R.n=n){Q:Exit->Act->World->Prop}{K:Act->World->Prop}{a:Act}{w:World}(hF:SzD a 121)(h3:a.eval (.tmp 3)=.pointer (some ⟨b3,0,none⟩))(h4:a.eval (.tmp 4)=.pointer (some ⟨b4,0,none⟩))(h7:a.eval (.tmp 7)=.pointer (some ⟨b7,0,none⟩))(hS:LyG w0 w b3 b4 b7 n x m R X)(HSm:Hid (∀ z,Below w.heap.size w z->Calls Tryz.prog 23 #[.agg (ndC n X),.agg (ndC n x)] z fun e w'=>e=.returned (.bool true)/\Below z.heap.size z w'))(hP:∀ a' w',SzD a' 121->a'.eval (.tmp 2)=.bool true->LyG w0 w' b3 b4 b7 n x m R X->K a' w'):(Z1 0 (Zj (Z2 1 (Z1 7 (Z3 Tryz.f4))))).wp Tryz.prog (Exit.then K Q) a w:=by
 obtain ⟨t,rfl⟩:=hF.opened;clear hF;rw [Z41]
 try dsimp only
 rw [show t 3=_ from h3,show t 4=_ from h4,show t 7=_ from h7];clear h3 h4 h7;have c0:w.cell? ⟨b7,0,none⟩=some (.int .i64 2):=by rw [<-hc];exact hS.gb.cell 0
 have c1:w.cell? ⟨b7,1,none⟩=some (.int .i64 0):=by rw [<-hd];exact hS.gb.cell 1
 have hlen:X.L.length=0:=by have h9:=congrArg List.length hS.ans.outC;rw [ho] at h9;simpa using h9
 obtain ⟨oa,oc,hv⟩:=hS.ans.out.shape;rw [hlen] at hv;have c20:w.cell? ⟨b7,20,none⟩=some (.slice oa 0 oc):=by rw [<-hv];exact hS.gb.cell 20
 have HRg:Hid (w.rangeAt b7 2 (ndC n X).toList):=by have h9:=Z28 hS.gb 2 (ndC R.n X).toList rfl;rw [hn] at h9;exact h9
 have HB3:Hid (Blk w b3 (ndC n x) 36):=hS.s.nb;have HS:Hid (LyG w0 w b3 b4 b7 n x m R X):=hS;have G1:Hid True:=trivial;have G2:Hid True:=trivial;clear hS hlen hv hc hd ho hn
 conv=>arg 2;whnf
 go_wp2_with (first
  |(have hBA:=G1;refine Zw 36 (.tmp 77) rfl ?_;clear hBA;refine Z1x rfl rfl 36 (.tmp 77) rfl b7 2 rfl (ndC n X).toList _ HRg.out Tryz.underlying36 rfl (by rw [Ye];rfl) ?_;clear G1)
  |(have hBA:=G2;refine Zw 36 (.tmp 3) rfl ?_;clear hBA;refine Jj rfl rfl 36 (.tmp 3) rfl b3 rfl HB3.out Tryz.underlying36 rfl Ye rfl ?_;clear G2)
  |(go_at_call 23;go_loud (refine (HSm.out _ (Below.refl _ _)).mono ?_;rintro r w2 ⟨rfl,hb2⟩;have HS2:Hid (LyG w0 w2 b3 b4 b7 n x m R X):=HS.out.below hb2;clear hb2)))
 exact hP _ _ ⟨rfl,rfl⟩ rfl HS2.out
theorem ly11 {w0:World}{b3 b4 b7:Nat}{n:Nd}{x X:RV}{m:Mg}{R:Rn}{q:Mg}(hc:R.code=0)(ho:R.out = [q])(h1:q.td=m.fr)(h2:q.ki=m.ki+1)(hki:0<=m.ki/\m.ki<=10){Q:Exit->Act->World->Prop}{K:Act->World->Prop}{a:Act}{w:World}(hF:SzD a 121)(h3:a.eval (.tmp 3)=.pointer (some ⟨b3,0,none⟩))(h4:a.eval (.tmp 4)=.pointer (some ⟨b4,0,none⟩))(h7:a.eval (.tmp 7)=.pointer (some ⟨b7,0,none⟩))(hS:LyG w0 w b3 b4 b7 n x m R X)(hP:∀ a' w',SzD a' 121->a'.eval (.tmp 3)=.pointer (some ⟨b3,0,none⟩)->a'.eval (.tmp 4)=.pointer (some ⟨b4,0,none⟩)->a'.eval (.tmp 7)=.pointer (some ⟨b7,0,none⟩)->a'.eval (.tmp 111)=.bool false->LyG w0 w' b3 b4 b7 n x m R X->K a' w'):(Z1 0 (Z1 8 (Z3 Tryz.f4))).wp Tryz.prog (Exit.then K Q) a w:=by
 obtain ⟨t,rfl⟩:=hF.opened;clear hF;rw [Z41]
 try dsimp only
 rw [show t 3=_ from h3,show t 4=_ from h4,show t 7=_ from h7];clear h3 h4 h7;obtain ⟨ob,oc,hv,e0,e2⟩:=hS.msg ho;rw [h2] at e0;rw [h1] at e2;obtain ⟨ki,hkie⟩:∃ q,q=m.ki:=⟨_,rfl⟩;obtain ⟨fr,hfre⟩:∃ q,q=m.fr:=⟨_,rfl⟩;have c0:w.cell? ⟨b7,0,none⟩=some (.int .i64 0):=by rw [<-hc];exact hS.gb.cell 0
 have c20:w.cell? ⟨b7,20,none⟩=some (.slice (some ⟨ob,0,none⟩) 1 oc):=by rw [<-hv];exact hS.gb.cell 20
 have m0:w.cell? ⟨b4,0,none⟩=some (.int .i64 ki):=by rw [hkie];exact hS.s.mb.cell 0
 have m1:w.cell? ⟨b4,1,none⟩=some (.int .i64 fr):=by rw [hfre];exact hS.s.mb.cell 1
 rw [<-hkie] at e0 hki;rw [<-hfre] at e2;have HS:Hid (LyG w0 w b3 b4 b7 n x m R X):=hS;clear hS hv hc ho h1 h2 hkie hfre;have s1:(fr != fr)=false:=by simp
 have s2:(ki+1 != ki+1)=false:=by simp
 have hw:IntKind.i64.wrap (ki+1)=ki+1:=by rw [IntKind.wrap_i64];omega
 have h01:(0:Int)<((1:Nat):Int):=by decide
 have h02:0<1:=by decide
 conv=>arg 2;whnf
 try dsimp only
 go_quiet (fail)
 exact hP _ _ ⟨rfl,rfl⟩ rfl rfl rfl (by simp [Act.eval]) (HS.out.below ⟨rfl,rfl,rfl,Nat.le_refl _,fun _ _=>rfl⟩)
theorem ly13a {w0:World}{b3 b4 b7:Nat}{n:Nd}{x X:RV}{m:Mg}{R:Rn}(hki:m.ki=3){Q:Exit->Act->World->Prop}{K:Act->World->Prop}{a:Act}{w:World}(hF:SzD a 121)(h3:a.eval (.tmp 3)=.pointer (some ⟨b3,0,none⟩))(h4:a.eval (.tmp 4)=.pointer (some ⟨b4,0,none⟩))(h7:a.eval (.tmp 7)=.pointer (some ⟨b7,0,none⟩))(hS:LyG w0 w b3 b4 b7 n x m R X)(hP:∀ a' w',SzD a' 121->a'.eval (.tmp 2)=.bool true->LyG w0 w' b3 b4 b7 n x m R X->K a' w'):(Z1 9 (Z3 Tryz.f4)).wp Tryz.prog (Exit.then K Q) a w:=by
 obtain ⟨t,rfl⟩:=hF.opened;clear hF;rw [Z41]
 try dsimp only
 rw [show t 3=_ from h3,show t 4=_ from h4,show t 7=_ from h7];clear h3 h4 h7;have m0:w.cell? ⟨b4,0,none⟩=some (.int .i64 3):=by rw [<-hki];exact hS.s.mb.cell 0
 have HS:Hid (LyG w0 w b3 b4 b7 n x m R X):=hS;clear hS hki
 conv=>arg 2;whnf
 go_wp2_with fail
 exact hP _ _ ⟨rfl,rfl⟩ rfl HS.out
theorem ly13b {w0:World}{b3 b4 b7:Nat}{n:Nd}{x X:RV}{m:Mg}{R:Rn}(hki:m.ki=1)(hn:R.n=n){Q:Exit->Act->World->Prop}{K:Act->World->Prop}{a:Act}{w:World}(hF:SzD a 121)(h3:a.eval (.tmp 3)=.pointer (some ⟨b3,0,none⟩))(h4:a.eval (.tmp 4)=.pointer (some ⟨b4,0,none⟩))(h7:a.eval (.tmp 7)=.pointer (some ⟨b7,0,none⟩))(hS:LyG w0 w b3 b4 b7 n x m R X)(HSm:Hid (∀ z,Below w.heap.size w z->Calls Tryz.prog 23 #[.agg (ndC n X),.agg (ndC n x)] z fun e w'=>e=.returned (.bool true)/\Below z.heap.size z w'))(hP:∀ a' w',SzD a' 121->a'.eval (.tmp 2)=.bool true->LyG w0 w' b3 b4 b7 n x m R X->K a' w'):(Z1 9 (Z3 Tryz.f4)).wp Tryz.prog (Exit.then K Q) a w:=by
 obtain ⟨t,rfl⟩:=hF.opened;clear hF;rw [Z41]
 try dsimp only
 rw [show t 3=_ from h3,show t 4=_ from h4,show t 7=_ from h7];clear h3 h4 h7;have m0:w.cell? ⟨b4,0,none⟩=some (.int .i64 1):=by rw [<-hki];exact hS.s.mb.cell 0
 have HRg:Hid (w.rangeAt b7 2 (ndC n X).toList):=by have h9:=Z28 hS.gb 2 (ndC R.n X).toList rfl;rw [hn] at h9;exact h9
 have HB3:Hid (Blk w b3 (ndC n x) 36):=hS.s.nb;have HS:Hid (LyG w0 w b3 b4 b7 n x m R X):=hS;have G1:Hid True:=trivial;have G2:Hid True:=trivial;clear hS hn hki
 conv=>arg 2;whnf
 go_wp2_with (first
  |(have hBA:=G1;refine Zw 36 (.tmp 116) rfl ?_;clear hBA;refine Z1x rfl rfl 36 (.tmp 116) rfl b7 2 rfl (ndC n X).toList _ HRg.out Tryz.underlying36 rfl (by rw [Ye];rfl) ?_;clear G1)
  |(have hBA:=G2;refine Zw 36 (.tmp 3) rfl ?_;clear hBA;refine Jj rfl rfl 36 (.tmp 3) rfl b3 rfl HB3.out Tryz.underlying36 rfl Ye rfl ?_;clear G2)
  |(go_at_call 23;go_loud (refine (HSm.out _ (Below.refl _ _)).mono ?_;rintro r w2 ⟨rfl,hb2⟩;have HS2:Hid (LyG w0 w2 b3 b4 b7 n x m R X):=HS.out.below hb2;clear hb2)))
 exact hP _ _ ⟨rfl,rfl⟩ rfl HS2.out
theorem ly5 {Q:Exit->Act->World->Prop}{K:Act->World->Prop}{a:Act}{w:World}(hF:SzD a 121)(hP:∀ a' w',SzD a' 121->a'.eval (.tmp 2)=.bool true->w'=w->K a' w'):(Z1 0 (Zj (Z2 1 (Z1 3 (Z3 Tryz.f4))))).wp Tryz.prog (Exit.then K Q) a w:=by
 obtain ⟨t,rfl⟩:=hF.opened;clear hF;rw [Z41]
 try dsimp only
 conv=>arg 2;whnf
 go_wp2_with fail
 exact hP _ _ ⟨rfl,rfl⟩ rfl rfl
theorem nodeN_lensY (n:Nd)(h:Xt n=0):n.log.length<=4096/\n.gr.length<=1000/\n.nx.length<=1000/\n.mt.length<=1000/\n.se.length<=1000/\n.st.length<=1000:=by
 obtain ⟨hb,t0,t1,ho,hgl,hcm,hg,hl⟩:=Jy n h;have h1:=(Z1i n h).2;have hz:=hb.sz1;have hz0:=hb.sz0;unfold Yw at hl;rw [Bool.and_eq_true,Xz] at hl;obtain ⟨⟨e1,e2,e3,e4⟩,_⟩:=hl;refine ⟨h1,hgl,?_,?_,?_,?_⟩
 ·split at e1 <;> omega
 ·split at e2 <;> omega
 ·split at e3 <;> omega
 ·split at e4 <;> omega
theorem akN_same (l:List Int)(D:DnS):(akN l D).log=D.n.log/\(akN l D).gr=D.n.gr/\(akN l D).nx=D.n.nx/\(akN l D).mt=D.n.mt/\(akN l D).se=D.n.se/\(akN l D).st=D.n.st/\(akN l D).sz=D.n.sz:=by
 unfold akN;split <;> exact ⟨rfl,rfl,rfl,rfl,rfl,rfl,rfl⟩
theorem akM_same (l:List Int)(n:Nd)(R:FmS):(akM l n R).ki=1+2*((Z5 l R.k 2:Nat):Int)/\(akM l n R).fr=1+(n.id+(Z5 l (R.k+1) (n.sz.toNat-1):Nat))%n.sz/\(akM l n R).td=n.id/\(akM l n R).es = []:=by
 have h1:∀ m:Mg,(akM1 m).ki=m.ki/\(akM1 m).fr=m.fr/\(akM1 m).td=m.td/\(akM1 m).es=m.es:=fun m=>by
  unfold akM1;split <;> exact ⟨rfl,rfl,rfl,rfl⟩
 have h2:∀ k m,(akM2 l k n m).ki=m.ki/\(akM2 l k n m).fr=m.fr/\(akM2 l k n m).td=m.td/\(akM2 l k n m).es=m.es:=fun k m=>by
  unfold akM2;split <;> exact ⟨rfl,rfl,rfl,rfl⟩
 unfold akM;have a:=h2 (R.k+1+1) (akM1 (akM0 l n R));have b:=h1 (akM0 l n R);exact ⟨a.1.trans b.1,a.2.1.trans b.2.1,a.2.2.1.trans b.2.2.1,a.2.2.2.trans b.2.2.2⟩
theorem esNilY (w:World):Es w (.slice none 0 0) []:=⟨by simp [maxLen],(fun e h=>by cases h),none,0,rfl,fun i hi=>by simp at hi⟩
theorem msgFault_y (m:Mg)(hes:m.es = [])(w:World):Calls Tryz.prog 21 #[.agg (msV m (.slice none 0 0))] w fun r w'=>r=.returned (.int .i64 (msB m))/\Below w.heap.size w w':=by
 have h9:=Z2z m.ki m.fr m.td m.tm m.li m.lt m.cm m.ok m.hi (.slice none 0 0) [] w (esNilY w) (by simp);unfold msB;rw [hes];exact h9
theorem nodeFault_y (n:Nd)(x:RV)(B:Nat)(w:World)(hO:NdO w B n x)(hl:n.log.length<=4096/\n.gr.length<=1000/\n.nx.length<=1000/\n.mt.length<=1000/\n.se.length<=1000/\n.st.length<=1000):Calls Tryz.prog 22 #[.agg (ndC n x)] w fun r w'=>r=.returned (.int .i64 (Xt n))/\Below w.heap.size w w':=by
 obtain ⟨z1,z2,z3,z4,z5,z6⟩:=hl;obtain ⟨a1,c1,e1⟩:=hO.log.shape;obtain ⟨a2,c2,e2⟩:=hO.gr.shape;obtain ⟨a3,c3,e3⟩:=hO.nx.shape;obtain ⟨a4,c4,e4⟩:=hO.mt.shape;obtain ⟨a5,c5,e5⟩:=hO.se.shape;obtain ⟨a6,c6,e6⟩:=hO.st.shape;have hix:∀ {v:Value} {l:List Int},Zs inC 1 3 w B v l->l.length<=1000->Ix w v l:=fun h hl=>Z0h (h.sl Jh (by unfold maxLen;omega))
 have r1:Es w (.slice a1 n.log.length c1) n.log:=by rw [<-e1];exact hO.log.es (by unfold maxLen;omega)
 have r2:Ix w (.slice a2 n.gr.length c2) n.gr:=by rw [<-e2];exact hix hO.gr z2
 have r3:Ix w (.slice a3 n.nx.length c3) n.nx:=by rw [<-e3];exact hix hO.nx z3
 have r4:Ix w (.slice a4 n.mt.length c4) n.mt:=by rw [<-e4];exact hix hO.mt z4
 have r5:Ix w (.slice a5 n.se.length c5) n.se:=by rw [<-e5];exact hix hO.se z5
 have r6:Ix w (.slice a6 n.st.length c6) n.st:=by rw [<-e6];exact hix hO.st z6
 unfold ndC;rw [e1,e2,e3,e4,e5,e6];exact Z3m n.id n.sz n.el n.bt n.tm n.vo n.ro n.ld n.cm n.nw n.dl n.hd a1 a2 a3 a4 a5 a6 c1 c2 c3 c4 c5 c6 n.log n.gr n.nx n.mt n.se n.st w r1 r2 r3 r4 r5 r6 (by omega) (by omega) (by omega) (by omega) (by omega) (by omega)
theorem stepAsk_y (n:Nd)(x:RV)(B:Nat)(m:Mg)(ln:Nat)(w:World)(hO:NdO w B n x)(hl:n.log.length<=4096/\n.gr.length<=1000/\n.nx.length<=1000/\n.mt.length<=1000/\n.se.length<=1000/\n.st.length<=1000)(hes:m.es = [])(hln:ln<=1048576)(hk:m.ki=1∨m.ki=3) :
  Calls Tryz.prog 12 #[.agg (ndC n x),.agg #[.int .i64 2,.int .i64 (ln:Int),.int .i64 m.ki,.int .i64 m.fr,.int .i64 m.td,.int .i64 m.tm,.int .i64 m.li,.int .i64 m.lt,.int .i64 m.cm,.int .i64 m.ok,.int .i64 m.hi,.slice none 0 0,.int .i64 0,.int .i64 0,.int .i64 0,.string ⟨#[]⟩,.string ⟨#[]⟩,.string ⟨#[]⟩]] w fun e w'=>∃ X,e=.returned (.agg (saC (Z13 n (ln:Int) 2 m 0 0 0 ⟨#[]⟩ ⟨#[]⟩ ⟨#[]⟩) X))/\AnsN w' w.heap.size (Z13 n (ln:Int) 2 m 0 0 0 ⟨#[]⟩ ⟨#[]⟩ ⟨#[]⟩) X/\Below w.heap.size w w':=by
 obtain ⟨z1,z2,z3,z4,z5,z6⟩:=hl;obtain ⟨a1,c1,e1⟩:=hO.log.shape;obtain ⟨a2,c2,e2⟩:=hO.gr.shape;obtain ⟨a3,c3,e3⟩:=hO.nx.shape;obtain ⟨a4,c4,e4⟩:=hO.mt.shape;obtain ⟨a5,c5,e5⟩:=hO.se.shape;obtain ⟨a6,c6,e6⟩:=hO.st.shape;have hix:∀ {v:Value} {l:List Int},Zs inC 1 3 w B v l->l.length<=1000->Ix w v l:=fun h hl=>Z0h (h.sl Jh (by unfold maxLen;omega))
 have r1:Es w (.slice a1 n.log.length c1) n.log:=by rw [<-e1];exact hO.log.es (by unfold maxLen;omega)
 have r2:Ix w (.slice a2 n.gr.length c2) n.gr:=by rw [<-e2];exact hix hO.gr z2
 have r3:Ix w (.slice a3 n.nx.length c3) n.nx:=by rw [<-e3];exact hix hO.nx z3
 have r4:Ix w (.slice a4 n.mt.length c4) n.mt:=by rw [<-e4];exact hix hO.mt z4
 have r5:Ix w (.slice a5 n.se.length c5) n.se:=by rw [<-e5];exact hix hO.se z5
 have r6:Ix w (.slice a6 n.st.length c6) n.st:=by rw [<-e6];exact hix hO.st z6
 have h9:=iStepNode_ask n m 2 (ln:Int) 0 0 0 ⟨#[]⟩ ⟨#[]⟩ ⟨#[]⟩ a1 a2 a3 a4 a5 a6 none c1 c2 c3 c4 c5 c6 0 w r1 r2 r3 r4 r5 r6 (by omega) (by omega) (by omega) (by omega) (by omega) (by omega) (by rw [hes];exact esNilY w) (fun k e=>by cases e) (by rw [hes];simp) (by omega) (by omega) (by decide) (by decide) (by decide) (by rw [hes];simp) rfl hk;rw [show m.es.length=0 by rw [hes];rfl] at h9;unfold ndC;rw [e1,e2,e3,e4,e5,e6];exact h9.mono fun e w' ⟨X,h1,h2,_,h4⟩=>⟨X,h1,h2,h4⟩
theorem lawLoyal_walk (vl:Value)(l:List Int){w:World}(hv:Bs w vl l) :
  Calls Tryz.prog 4 #[vl] w fun e w'=>e=.returned (.bool true)/\Below w.heap.size w w':=by
 have HV:Hid (Bs w vl l):=hv;obtain ⟨hlm,h8,a0,cap0,rfl,_⟩:=hv;unfold maxLen at hlm;by_cases hL:l.length<=1048576
 case neg=>
  have hLd:(1048576:Int)<(l.length:Int):=by omega
  go_enter Tryz.func4,Tryz.ntmps4;go_wp2;go_ret;exact ⟨rfl,Below.refl _ _⟩
 obtain ⟨D,hD⟩:∃ D,D=dnD l 0 (3+min l.length 400 / 10):=⟨_,rfl⟩;have hokD:Xt D.n=0:=by rw [hD];exact dnD_ok l 0 _ (by omega)
 obtain ⟨n,hn⟩:∃ n,n=akN l D:=⟨_,rfl⟩;obtain ⟨m,hm⟩:∃ m,m=akM l n (dfX l (D.k+1) n):=⟨_,rfl⟩
 have hlens:n.log.length<=4096/\n.gr.length<=1000/\n.nx.length<=1000/\n.mt.length<=1000/\n.se.length<=1000/\n.st.length<=1000:=by
  obtain ⟨s1,s2,s3,s4,s5,s6,s7⟩:=akN_same l D;rw [hn,s1,s2,s3,s4,s5,s6];exact nodeN_lensY D.n hokD
 obtain ⟨m1,m2,m3,m4⟩:=akM_same l n (dfX l (D.k+1) n);rw [<-hm] at m1 m2 m3 m4
 have hki:m.ki=1∨m.ki=3:=by
  have:=Zf l (dfX l (D.k+1) n).k 2 (by omega);omega
 have HD:Hid (∀ u,Below w.heap.size w u->Calls Tryz.prog 20 #[.slice a0 l.length cap0] u fun r w'=>∃ x,r=.returned (.tuple #[.agg (ndC n x),.agg (msV m (.slice none 0 0))])/\NdO w' u.heap.size n x/\Below u.heap.size u w'):=by
  intro u hu;rw [hm,hn,hD];exact drawAsk_any a0 cap0 l u (HV.out.below hu) hL
 clear h8 hD hm hn;go_enter Tryz.func4,Tryz.ntmps4;show (Z3 Tryz.f4).wp Tryz.prog _ _ _;have hend:∀(a':Act) (w':World),SzD a' 121->a'.eval (.tmp 2)=.bool true->Below w.heap.size w w'->bodyPost Tryz.prog Tryz.f4 (fun e w'=>e=.returned (.bool true)/\Below w.heap.size w w') .ret a' w':=fun a' w' f' e' b'=>bodyPost_ret (Z2d Tryz.results4 e') f'.2 ⟨rfl,b'⟩
 rw [show Z3 Tryz.f4=.seq (Z1 0 (Z3 Tryz.f4)) (.seq (.seq (Z1 0 (Z1 1 (Z3 Tryz.f4))) (.cond (.tmp 11) (Zj (Z2 1 (Z1 1 (Z3 Tryz.f4)))) .skip)) (.seq (Z1 2 (Z3 Tryz.f4)) (.seq (.seq (Z1 0 (Z1 3 (Z3 Tryz.f4))) (.cond (.tmp 31) (Zj (Z2 1 (Z1 3 (Z3 Tryz.f4)))) .skip)) (.seq (Z1 4 (Z3 Tryz.f4)) (.seq (Z1 5 (Z3 Tryz.f4)) (.seq (Z1 6 (Z3 Tryz.f4)) (.seq (.seq (Z1 0 (Z1 7 (Z3 Tryz.f4))) (.cond (.tmp 61) (Zj (Z2 1 (Z1 7 (Z3 Tryz.f4)))) .skip)) (.seq (.seq (Z1 0 (Z1 8 (Z3 Tryz.f4))) (.cond (.tmp 111) (Zj (Z2 1 (Z1 8 (Z3 Tryz.f4)))) .skip)) (.seq (Z1 9 (Z3 Tryz.f4)) .ret))))))))) from rfl];refine wp_seq_k ?_;intro K1 hK1;refine ly0 (v:=.slice a0 l.length cap0) ⟨rfl,rfl⟩ rfl fun a1 w1 f1 g0 e1=>hK1 _ _ ?_
 subst e1;refine wp_seq_k ?_;intro K2 hK2;refine wp_seq_k ?_;intro K3 hK3;refine ly1 hL f1 g0 fun a2 w2 f2 i0 i11 e2=>hK3 _ _ ?_
 subst e2;refine wp_cond i11 (wp_skip (hK2 _ _ ?_));refine wp_seq_k ?_;intro K4 hK4;refine ly3 (n:=n) (m:=m) f2 i0 (HD.out _ (Below.refl _ _)) fun a3 w3 x3 u3 f3 j0 j3 j4 e3 o3 b3=>hK4 _ _ ?_
 have hb3:Below u3.heap.size u3 w3:=by rw [e3];exact ((Below.refl _ _).alloc (Nat.le_refl _) _).alloc (by simp) _
 have hS3:LyS w2 w3 u3.heap.size (u3.heap.size+1) n x3 m:=by
  refine ⟨b3.trans (hb3.mono b3.size),?_,o3.keep fun q _ h2=>hb3.block q h2,?_⟩
  ·rw [e3]
   exact (Blk.new _ _ _).alloc _
  ·rw [e3]
   have h9:=Blk.new (u3.alloc (.cells (ndC n x3) 36)) (msV m (.slice none 0 0)) 43;simpa using h9
 clear e3 o3 b3 hb3;refine wp_seq_k ?_;intro K5 hK5;refine wp_seq_k ?_;intro K6 hK6;refine ly4 f3 j0 j3 j4 hS3 (msgFault_y m m4 w3) (fun z hz=>nodeFault_y n x3 w2.heap.size z (hS3.own.keep fun q _ h2=>hz.block q h2) hlens) fun a4 w4 f4 k0 k3 k4 k31 s4=>hK6 _ _ ?_
 refine wp_cond k31 ?_;by_cases hg:msB m=0/\¬ m.fr=m.td/\Xt n=0
 case neg=>
  rw [if_pos (by simp only [decide_eq_true_eq];exact hg)];rw [show Zj (Z2 1 (Z1 3 (Z3 Tryz.f4)))=.seq (Z1 0 (Zj (Z2 1 (Z1 3 (Z3 Tryz.f4))))) .ret from rfl];refine wp_seq_k ?_;intro K7 hK7;refine ly5 f4 fun a5 w5 f5 l2 e5=>hK7 _ _ (wp_ret ?_)
  subst e5;exact hend _ _ f5 l2 s4.bl
 rw [if_neg (by simp only [decide_eq_true_eq];exact fun h=>h hg)];obtain ⟨hms,hft,hnn⟩:=hg;refine wp_skip (hK5 _ _ ?_);refine wp_seq_k ?_;intro K7 hK7;refine ly6 (n:=n) (m:=m) f4 k0 k3 k4 (HD.out _ s4.bl) fun a5 w5 y5 u5 f5 l0 l3 l4 l5 l6 e5 o5 b5=>hK7 _ _ ?_
 have hb5:Below u5.heap.size u5 w5:=by rw [e5];exact ((Below.refl _ _).alloc (Nat.le_refl _) _).alloc (by simp) _
 have hS5:LyS w2 w5 u3.heap.size (u3.heap.size+1) n x3 m:=(s4.below b5).below hb5;have hN5:Blk w5 u5.heap.size (ndC n y5) 36:=by rw [e5];exact (Blk.new _ _ _).alloc _
 have hM5:Blk w5 (u5.heap.size+1) (msV m (.slice none 0 0)) 43:=by
  rw [e5];have h9:=Blk.new (u5.alloc (.cells (ndC n y5) 36)) (msV m (.slice none 0 0)) 43;simpa using h9
 have hO5:NdO w5 w4.heap.size n y5:=o5.keep fun q _ h2=>hb5.block q h2
 clear e5 o5 b5 hb5 s4;have hzz:=(Jy n hnn).1;obtain ⟨R,hR⟩:∃ R,R=Z13 n (l.length:Int) 2 m 0 0 0 ⟨#[]⟩ ⟨#[]⟩ ⟨#[]⟩:=⟨_,rfl⟩
 have hO:LyO R n m:=by
  rw [hR];refine ly_step n _ m hnn hms m3 ?_ hki;have h9:=Int.emod_lt_of_pos (n.id+(Z5 l ((dfX l (D.k+1) n).k+1) (n.sz.toNat-1):Nat)) (show 0<n.sz by have:=hzz.sz0;omega);omega
 refine wp_seq_k ?_;intro K8 hK8;refine ly7 (R:=R) hL f5 l0 l3 l4 l5 l6 hS5 hN5 hM5 (by rw [hR];exact stepAsk_y n y5 w4.heap.size m l.length w5 hO5 hlens m4 hL hki) fun a6 w6 b7 X6 f6 n3 n4 n7 s6=>hK8 _ _ ?_
 clear hR hS5 hN5 hM5 hO5;have h1:=hzz.nw0;have h2:=hzz.nw1;have h3:=hzz.hd0;have h4:=hzz.hd1;refine wp_seq_k ?_;intro K9 hK9;refine ly8 ⟨h1,h2⟩ ⟨h3,by omega⟩ f6 n3 n4 n7 s6 fun a7 w7 f7 p3 p4 p7 p8 s7=>hK9 _ _ ?_
 refine wp_seq_k ?_;intro K10 hK10;refine wp_seq_k ?_;intro K11 hK11;refine ly9 f7 p3 p4 p7 p8 fun a8 w8 f8 q3 q4 q7 q61 e8=>hK11 _ _ ?_
 subst e8;refine wp_cond q61 ?_
 cases hlo:loyB n with
 | true=>
  obtain ⟨c1,c2,c3,c4⟩:=hO.loy hlo;rw [if_pos rfl];rw [show Zj (Z2 1 (Z1 7 (Z3 Tryz.f4)))=.seq (Z1 0 (Zj (Z2 1 (Z1 7 (Z3 Tryz.f4))))) .ret from rfl];refine wp_seq_k ?_;intro K12 hK12;refine ly10 c1 c2 c3 c4 f8 q3 q4 q7 s7 (fun z hz=>Z1s n X6 x3 w2.heap.size w2.heap.size z (by have h9:=(s7.below hz).ans;have h8:NdO z w2.heap.size R.n X6:=⟨h9.log,h9.gr,h9.nx,h9.mt,h9.se,h9.st,h9.ap⟩;rw [c4] at h8;exact h8) (s7.s.below hz).own hlens) fun a9 w9 f9 r2 s9=>hK12 _ _ (wp_ret ?_)
  exact hend _ _ f9 r2 s9.s.bl
 | false=>
  obtain ⟨c1,⟨q,c2,c3,c4⟩,c5⟩:=hO.not hlo;rw [if_neg (by simp)];refine wp_skip (hK10 _ _ ?_);refine wp_seq_k ?_;intro K12 hK12;refine wp_seq_k ?_;intro K13 hK13;refine ly11 c1 c2 c3 c4 (by omega) f8 q3 q4 q7 s7 fun a9 w9 f9 r3 r4 r7 r111 s9=>hK13 _ _ ?_
  refine wp_cond r111 (wp_skip (hK12 _ _ ?_));refine wp_seq_k ?_;intro K14 hK14;rcases hki with hk1 | hk3
  ·have c6:R.n=n:=by rcases c5 with h | h;omega;exact h
   refine ly13b hk1 c6 f9 r3 r4 r7 s9 (fun z hz=>Z1s n X6 x3 w2.heap.size w2.heap.size z (by have h9:=(s9.below hz).ans;have h8:NdO z w2.heap.size R.n X6:=⟨h9.log,h9.gr,h9.nx,h9.mt,h9.se,h9.st,h9.ap⟩;rw [c6] at h8;exact h8) (s9.s.below hz).own hlens) fun a10 w10 f10 t2 s10=>hK14 _ _ (wp_ret ?_)
   exact hend _ _ f10 t2 s10.s.bl
  ·refine ly13a hk3 f9 r3 r4 r7 s9 fun a10 w10 f10 t2 s10=>hK14 _ _ (wp_ret ?_)
   exact hend _ _ f10 t2 s10.s.bl
end Go.Proofs.YtmmpoppgabadmaaGreat
