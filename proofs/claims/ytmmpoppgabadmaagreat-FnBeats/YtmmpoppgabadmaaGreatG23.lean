import Derived.Test.YtmmpoppgabadmaaGreatG03
import Derived.Test.YtmmpoppgabadmaaGreatG06
import Derived.Test.YtmmpoppgabadmaaGreatG09
import Derived.Test.YtmmpoppgabadmaaGreatG14
import Derived.Test.YtmmpoppgabadmaaGreatG21
import Derived.Test.YtmmpoppgabadmaaGreatG11
import Derived.Deep.DeepCutAuto
import Derived.Deep.Light
import Derived.Deep.RegionLaw
import Derived.BigQuiet
import Derived.Test.YtmmpoppgabadmaaGreatG20
set_option linter.unusedVariables false
set_option linter.unusedSimpArgs false
set_option maxRecDepth 100000
set_option maxHeartbeats 16000000
namespace Go.Proofs.YtmmpoppgabadmaaGreat
open Go.RowKit
def msB (m:Mg):Int:=msgF m.ki m.fr m.td m.tm m.li m.lt m.cm m.ok m.hi m.es
theorem sizeSa:(Tryz.prog.info? 39).map (·.size)=some 21:=by kernel_rfl
theorem part_range {w:World}{b:Nat}{C:Array Value}{t:TypeId}(h:Blk w b C t)(off:Nat)(cs:List Value)(hcs:(C.toList.drop off).take cs.length=cs):w.rangeAt b off cs:=fun j v hv=>by
 have hj:j<cs.length:=(List.getElem?_eq_some_iff.1 hv).1;rw [h.cell (off+j),<-hv,<-hcs,List.getElem?_take,if_pos hj,List.getElem?_drop];simp
def stepP (n:Nd)(dr ki:Int)(m:Mg)(cl sq op:Int)(k v o:ByteArray):Rn:=
 let r:Rn:=⟨n,[],0,0,dr⟩
 if ki=1 then r.tick else if ki=2 then r.message (decide (msB m≠0)) m else if ki=3 then r.propose (decide (cmdF cl sq op k.size v.size o.size≠0∨op=0)) cl sq op k v o else { r with code:=8 }
def saC (r:Rn)(x:RV):Array Value:=#[.int .i64 r.code,.int .i64 r.drew,.int .i64 r.n.id,.int .i64 r.n.sz,.int .i64 r.n.el,.int .i64 r.n.bt,.int .i64 r.n.tm,.int .i64 r.n.vo,.int .i64 r.n.ro,.int .i64 r.n.ld,.int .i64 r.n.cm,.int .i64 r.n.nw,.int .i64 r.n.dl,.int .i64 r.n.hd,x.vl,x.vg,x.vn,x.vm,x.vs,x.vt,x.vo]
theorem Zv.keepB {w w':World}{B b:Nat}{r:Rn}{x:RV}(h:Zv w B b r x)(hk:∀ k,B<=k->w'.heap[k]? = w.heap[k]?):Zv w' B b r x:=by
 have hg:∀ {α:Type} {cs:α->List Value} {m:Nat} {T:TypeId} {v:Value} {l:List α},Zg cs m T w B v l->Zg cs m T w' B v l:=fun ho=>ho.block fun k e=>hk k (ho.lts k e).1
 have he:∀ {v:Value} {l:List Ent},Zp w B v l->Zp w' B v l:=fun ho=>ho.block fun k e=>hk k (World.ownsRow.lt ho.2 k e).1
 exact ⟨h.blk.keep (hk b h.lo),h.lo,he h.log,hg h.gr,hg h.nx,hg h.mt,hg h.se,hg h.st,hg h.out,h.outC,fun p hp=>he (h.ents p hp),h.ap⟩
theorem Zv.le {w:World}{B B' b:Nat}{r:Rn}{x:RV}(h:Zv w B b r x)(hB:B'<=B):Zv w B' b r x:=
 ⟨h.blk,Nat.le_trans hB h.lo,h.log.le hB,h.gr.le hB,h.nx.le hB,h.mt.le hB,h.se.le hB,h.st.le hB,h.out.le hB,h.outC,fun p hp=>(h.ents p hp).le hB,h.ap⟩
theorem sizeRn:(Tryz.prog.info? 112).map (·.size)=some 22:=by kernel_rfl
structure CpU where
 v12:Value
 v13:Value
 v14:Value
 v15:Value
 v16:Value
 v17:Value
structure CpAt (w:World) (B:Nat) (n:Nd) (u:CpU):Prop where
 log:Zp w B u.v12 n.log
 gr:Zg inC 1 3 w B u.v13 n.gr
 nx:Zg inC 1 3 w B u.v14 n.nx
 mt:Zg inC 1 3 w B u.v15 n.mt
 se:Zg inC 1 3 w B u.v16 n.se
 st:Zg inC 1 3 w B u.v17 n.st
 ap:[u.v13,u.v14,u.v15,u.v16,u.v17].Pairwise Ya
theorem CpAt.below {w w':World}{B:Nat}{n:Nd}{u:CpU}(h:CpAt w B n u)(hb:Below w.heap.size w w'):CpAt w' B n u:=⟨h.log.below hb,h.gr.below hb,h.nx.below hb,h.mt.below hb,h.se.below hb,h.st.below hb,h.ap⟩
theorem CpAt.row {w:World}{B p:Nat}{n:Nd}{u:CpU}{C:Array Value}(h:CpAt w B n u)(hb:Blk w p C 112)(C':Array Value):CpAt (w.setRow p C') B n u:=by
 have hk:∀ k,k≠p->(w.setRow p C').heap[k]? = w.heap[k]?:=fun k hk=>setRow_other w p k C' hk
 have hg:∀ {v:Value} {l:List Int},Zg inC 1 3 w B v l->Zg inC 1 3 (w.setRow p C') B v l:=fun ho=>ho.block fun k e=>hk k (Zu ho hb (by decide) k e)
 exact ⟨h.log.block fun k e=>hk k (Ym h.log hb (by decide) k e),hg h.gr,hg h.nx,hg h.mt,hg h.se,hg h.st,h.ap⟩
theorem CpAt.one {w:World}{B:Nat}{n:Nd}{u:CpU}(h:CpAt w B n u)(dr:Int):(#[.int .i64 n.id,.int .i64 n.sz,.int .i64 n.el,.int .i64 n.bt,.int .i64 n.tm,.int .i64 n.vo,.int .i64 n.ro,.int .i64 n.ld,.int .i64 n.cm,.int .i64 n.nw,.int .i64 n.dl,.int .i64 n.hd,u.v12,u.v13,u.v14,u.v15,u.v16,u.v17,.slice none 0 0,.int .i64 0,.int .i64 0,.int .i64 dr]).all (·.oneCell')=true:=by
 obtain ⟨x12,y12,e12⟩:=h.log.shape;obtain ⟨x13,y13,e13⟩:=h.gr.shape;obtain ⟨x14,y14,e14⟩:=h.nx.shape;obtain ⟨x15,y15,e15⟩:=h.mt.shape;obtain ⟨x16,y16,e16⟩:=h.se.shape;obtain ⟨x17,y17,e17⟩:=h.st.shape;simp [Value.oneCell',e12,e13,e14,e15,e16,e17]
theorem CpAt.run {w:World}{B p:Nat}{n:Nd}{u:CpU}(h:CpAt w B n u)(dr:Int)(hp:B<=p)(hb:Blk w p #[.int .i64 n.id,.int .i64 n.sz,.int .i64 n.el,.int .i64 n.bt,.int .i64 n.tm,.int .i64 n.vo,.int .i64 n.ro,.int .i64 n.ld,.int .i64 n.cm,.int .i64 n.nw,.int .i64 n.dl,.int .i64 n.hd,u.v12,u.v13,u.v14,u.v15,u.v16,u.v17,.slice none 0 0,.int .i64 0,.int .i64 0,.int .i64 dr] 112):Zv w B p ⟨n,[],0,0,dr⟩ ⟨u.v12,u.v13,u.v14,u.v15,u.v16,u.v17,.slice none 0 0,[]⟩:=
 ⟨hb,hp,h.log,h.gr,h.nx,h.mt,h.se,h.st,Zg.nil _ _ _ _ _,rfl,fun p hp=>(by cases hp),h.ap⟩
theorem l4step_tick (n:Nd)(m:Mg)(ki dr cl sq op:Int)(k v o:ByteArray)(a12 a13 a14 a15 a16 a17 ea:Option Addr)(c12 c13 c14 c15 c16 c17 ec:Nat)(w:World)(h:NdAt w n (.slice a12 n.log.length c12) (.slice a13 n.gr.length c13) (.slice a14 n.nx.length c14) (.slice a15 n.mt.length c15) (.slice a16 n.se.length c16) (.slice a17 n.st.length c17))(hl:n.log.length<=4096)(l13:n.gr.length<=100000)(l14:n.nx.length<=100000)(l15:n.mt.length<=100000)(l16:n.se.length<=100000)(l17:n.st.length<=100000)(he:Es w (.slice ea m.es.length ec) m.es)(hlo:∀ k,(Value.slice ea m.es.length ec).ownBlock=some k->k<w.heap.size)(hen:m.es.length<=1048576)(hb:NdB n)(hd : -(2^63)<=dr)(hD:dr<2^63)(ht0:0<=n.tm)(ht1:n.tm<=1073741824)(hodd:n.sz%2=1)(hgl:n.gr.length<=1000)(hLm:n.ro=3->LdM n n.sz.toNat)(hLt:n.ro=3->LdT n n.sz.toNat)(hcm0:0<=n.cm)(hk:k.size<=maxLen)(hv:v.size<=maxLen)(ho:o.size<=maxLen)(hki:Hid (ki=1)) :
  Calls Tryz.prog 32 #[.agg #[.int .i64 n.id,.int .i64 n.sz,.int .i64 n.el,.int .i64 n.bt,.int .i64 n.tm,.int .i64 n.vo,.int .i64 n.ro,.int .i64 n.ld,.int .i64 n.cm,.int .i64 n.nw,.int .i64 n.dl,.int .i64 n.hd,.slice a12 n.log.length c12,.slice a13 n.gr.length c13,.slice a14 n.nx.length c14,.slice a15 n.mt.length c15,.slice a16 n.se.length c16,.slice a17 n.st.length c17],.agg #[.int .i64 ki,.int .i64 dr,.int .i64 m.ki,.int .i64 m.fr,.int .i64 m.td,.int .i64 m.tm,.int .i64 m.li,.int .i64 m.lt,.int .i64 m.cm,.int .i64 m.ok,.int .i64 m.hi,.slice ea m.es.length ec,.int .i64 cl,.int .i64 sq,.int .i64 op,.string k,.string v,.string o]] w fun e w'=>∃(b:Nat) (X:RV),e=.returned (.agg (saC (stepP n dr ki m cl sq op k v o) X))/\Zv w' w.heap.size b (stepP n dr ki m cl sq op k v o) X/\Below w.heap.size w w':=by
 generalize hRP:stepP n dr ki m cl sq op k v o=RP;have HRP0:Hid (stepP n dr ki m cl sq op k v o=RP):=hRP;clear hRP;obtain ⟨w0,hw0⟩:∃ z,z=((w.alloc (.cells #[.int .i64 n.id,.int .i64 n.sz,.int .i64 n.el,.int .i64 n.bt,.int .i64 n.tm,.int .i64 n.vo,.int .i64 n.ro,.int .i64 n.ld,.int .i64 n.cm,.int .i64 n.nw,.int .i64 n.dl,.int .i64 n.hd,.slice a12 n.log.length c12,.slice a13 n.gr.length c13,.slice a14 n.nx.length c14,.slice a15 n.mt.length c15,.slice a16 n.se.length c16,.slice a17 n.st.length c17] 36)).alloc (.cells #[.int .i64 ki,.int .i64 dr,.int .i64 m.ki,.int .i64 m.fr,.int .i64 m.td,.int .i64 m.tm,.int .i64 m.li,.int .i64 m.lt,.int .i64 m.cm,.int .i64 m.ok,.int .i64 m.hi,.slice ea m.es.length ec,.int .i64 cl,.int .i64 sq,.int .i64 op,.string k,.string v,.string o] 46)).alloc (.cells #[.int .i64 0,.int .i64 0,.int .i64 0,.int .i64 0,.int .i64 0,.int .i64 0,.int .i64 0,.int .i64 0,.int .i64 0,.int .i64 0,.int .i64 0,.int .i64 0,.int .i64 0,.int .i64 0,.slice none 0 0,.slice none 0 0,.slice none 0 0,.slice none 0 0,.slice none 0 0,.slice none 0 0,.slice none 0 0] 39):=⟨_,rfl⟩;go_enter Tryz.func32,Tryz.ntmps32
 go_upto_region 1 with fail
 rw [<-hw0];have HB0:Hid (Below w.heap.size w w0):=by rw [hw0];exact (((Below.refl _ _).alloc (Nat.le_refl _) _).alloc (by simp) _).alloc (by simp;omega) _
 have BN0:Hid (Blk w0 w.heap.size #[.int .i64 n.id,.int .i64 n.sz,.int .i64 n.el,.int .i64 n.bt,.int .i64 n.tm,.int .i64 n.vo,.int .i64 n.ro,.int .i64 n.ld,.int .i64 n.cm,.int .i64 n.nw,.int .i64 n.dl,.int .i64 n.hd,.slice a12 n.log.length c12,.slice a13 n.gr.length c13,.slice a14 n.nx.length c14,.slice a15 n.mt.length c15,.slice a16 n.se.length c16,.slice a17 n.st.length c17] 36):=by rw [hw0];exact ((Blk.new _ _ _).alloc _).alloc _
 have BI0:Hid (Blk w0 (w.heap.size+1) #[.int .i64 ki,.int .i64 dr,.int .i64 m.ki,.int .i64 m.fr,.int .i64 m.td,.int .i64 m.tm,.int .i64 m.li,.int .i64 m.lt,.int .i64 m.cm,.int .i64 m.ok,.int .i64 m.hi,.slice ea m.es.length ec,.int .i64 cl,.int .i64 sq,.int .i64 op,.string k,.string v,.string o] 46):=by rw [hw0];exact (Blk.new' _ _ _ (by simp)).alloc _
 have BS0:Hid (Blk w0 (w.heap.size+2) #[.int .i64 0,.int .i64 0,.int .i64 0,.int .i64 0,.int .i64 0,.int .i64 0,.int .i64 0,.int .i64 0,.int .i64 0,.int .i64 0,.int .i64 0,.int .i64 0,.int .i64 0,.int .i64 0,.slice none 0 0,.slice none 0 0,.slice none 0 0,.slice none 0 0,.slice none 0 0,.slice none 0 0,.slice none 0 0] 39):=by rw [hw0];exact Blk.new' _ _ _ (by simp)
 have hz0:w0.heap.size=w.heap.size+3:=by rw [hw0];simp
 have HNd:Hid (∀ z,Below w0.heap.size w0 z->NdAt z n (.slice a12 n.log.length c12) (.slice a13 n.gr.length c13) (.slice a14 n.nx.length c14) (.slice a15 n.mt.length c15) (.slice a16 n.se.length c16) (.slice a17 n.st.length c17)):=fun z hz=>h.below (HB0.out.trans (hz.mono (by omega)))
 clear hw0 h
 go_cut [5] (fun s wx=>∃(b:Nat) (u:CpU),s=.pointer (some ⟨b,0,none⟩)/\Zv wx w0.heap.size b ⟨n,[],0,0,dr⟩ ⟨u.v12,u.v13,u.v14,u.v15,u.v16,u.v17,.slice none 0 0,[]⟩/\Below w0.heap.size w0 wx)
 case first=>
  refine wp_named ?_;intro a0 ha0;have hsz0:a0.tmps.size=37:=by rw [ha0];rfl
  have e2:a0.eval (.tmp 2)=.pointer (some ⟨w.heap.size,0,none⟩):=by rw [ha0];rfl
  have e3:a0.eval (.tmp 3)=.pointer (some ⟨w.heap.size+1,0,none⟩):=by rw [ha0];rfl
  have HA0:Hid (a0=_):=ha0;clear ha0;refine Yv (by kernel_rfl) (fun L aF w'=>∃ x:Nat->Value,aF=frame a0 [6,7,8,9,10,5] x/\Below w0.heap.size w0 w'/\(L.getD 0 false=true->x 6=.agg #[.int .i64 n.id,.int .i64 n.sz,.int .i64 n.el,.int .i64 n.bt,.int .i64 n.tm,.int .i64 n.vo,.int .i64 n.ro,.int .i64 n.ld,.int .i64 n.cm,.int .i64 n.nw,.int .i64 n.dl,.int .i64 n.hd,.slice a12 n.log.length c12,.slice a13 n.gr.length c13,.slice a14 n.nx.length c14,.slice a15 n.mt.length c15,.slice a16 n.se.length c16,.slice a17 n.st.length c17])/\(L.getD 1 false=true->∃ u:CpU,x 7=.agg #[.int .i64 n.id,.int .i64 n.sz,.int .i64 n.el,.int .i64 n.bt,.int .i64 n.tm,.int .i64 n.vo,.int .i64 n.ro,.int .i64 n.ld,.int .i64 n.cm,.int .i64 n.nw,.int .i64 n.dl,.int .i64 n.hd,u.v12,u.v13,u.v14,u.v15,u.v16,u.v17]/\CpAt w' w0.heap.size n u)/\(L.getD 2 false=true->x 8=.pointer (some ⟨w.heap.size+1,1,none⟩))/\(L.getD 3 false=true->x 9=.int .i64 dr)/\(L.getD 4 false=true->∃ u:CpU,x 10=.agg #[.int .i64 n.id,.int .i64 n.sz,.int .i64 n.el,.int .i64 n.bt,.int .i64 n.tm,.int .i64 n.vo,.int .i64 n.ro,.int .i64 n.ld,.int .i64 n.cm,.int .i64 n.nw,.int .i64 n.dl,.int .i64 n.hd,u.v12,u.v13,u.v14,u.v15,u.v16,u.v17,.slice none 0 0,.int .i64 0,.int .i64 0,.int .i64 dr]/\CpAt w' w0.heap.size n u)/\(L.getD 5 false=true->∃ p C,x 5=.pointer (some ⟨p,0,none⟩)/\w0.heap.size<=p/\Blk w' p C 112/\C.size=22/\(L.getD 6 false=true->∃ u:CpU,C=#[.int .i64 n.id,.int .i64 n.sz,.int .i64 n.el,.int .i64 n.bt,.int .i64 n.tm,.int .i64 n.vo,.int .i64 n.ro,.int .i64 n.ld,.int .i64 n.cm,.int .i64 n.nw,.int .i64 n.dl,.int .i64 n.hd,u.v12,u.v13,u.v14,u.v15,u.v16,u.v17,.slice none 0 0,.int .i64 0,.int .i64 0,.int .i64 dr]/\CpAt w' w0.heap.size n u))/\(L.getD 6 false=true->L.getD 5 false=true)) ?_ ?_ ?_
  ·exact ⟨_,Xn a0 [6,7,8,9,10,5],(Below.refl _ _).drew,fun h=>(Zt h).elim,fun h=>(Zt h).elim,fun h=>(Zt h).elim,fun h=>(Zt h).elim,fun h=>(Zt h).elim,fun h=>(Zt h).elim,fun h=>(Zt h).elim⟩
  ·rintro L a w' i hsL hi ⟨x,rfl,hB,h0,h1,h2,h3,h4,h5,h6⟩
   have hiL:i<7:=(Y9 hsL hi).1;have hL:L.size=7:=hsL;have hw':w0.heap.size<=w'.heap.size:=hB.size;rcases (show i=0∨i=1∨i=2∨i=3∨i=4∨i=5∨i=6 by omega) with rfl | rfl | rfl | rfl | rfl | rfl | rfl
   ·skip
    refine Za rfl rfl (Z2r 36 (.tmp 2) rfl (w.heap.size) ((Zm _ _ _ 2 rfl).trans e2) (BN0.out.below hB (by omega)) Tryz.underlying36 rfl Jb rfl ?_);exact ⟨_,Zd _ _ _ 6 _ rfl,hB,fun h=>Zh _ _ _,fun h=>by rw [Z3 _ _ _ _ (by decide)];exact (h1 (Z0 h (by omega) (by decide))),ke h2 (by omega) (by decide) (by decide),ke h3 (by omega) (by decide) (by decide),fun h=>by rw [Z3 _ _ _ _ (by decide)];exact (h4 (Z0 h (by omega) (by decide))),fun h=>by obtain ⟨p,C,ep,hp,hP,hC,hR⟩:=h5 (Z0 h (by omega) (by decide));exact ⟨p,C,(Z3 _ _ _ _ (by decide)).trans ep,hp,hP,hC,fun hq6=>(hR (Z0 hq6 (by omega) (by decide)))⟩,fun h=>Y3 (h6 (Z0 h (by omega) (by decide))) (by omega)⟩
   ·have d0:=h0 (Z7 hi (by decide))
    have ev6:=(Z5 a0 [6,7,8,9,10,5] x 6 rfl (by omega)).trans d0;refine Za rfl rfl (Yi (N:=64) rfl (fun _ _=>by go_simp) #[.agg #[.int .i64 n.id,.int .i64 n.sz,.int .i64 n.el,.int .i64 n.bt,.int .i64 n.tm,.int .i64 n.vo,.int .i64 n.ro,.int .i64 n.ld,.int .i64 n.cm,.int .i64 n.nw,.int .i64 n.dl,.int .i64 n.hd,.slice a12 n.log.length c12,.slice a13 n.gr.length c13,.slice a14 n.nx.length c14,.slice a15 n.mt.length c15,.slice a16 n.se.length c16,.slice a17 n.st.length c17]] (by simp only [List.map_toArray,List.map_cons,List.map_nil,ev6]) ?_);refine Calls.mono (l4copy_any n _ _ _ _ _ _ w' (HNd.out w' hB) hl l13 l14 l15 l16 l17) ?_;rintro e w2 ⟨u12,u13,u14,u15,u16,u17,rfl,o12,o13,o14,o15,o16,o17,hap,hb⟩;refine ⟨_,rfl,?_⟩;exact ⟨_,Zd _ _ _ 7 _ rfl,hB.trans (hb.mono hw'),ke h0 (by omega) (by decide) (by decide),fun h=>⟨⟨u12,u13,u14,u15,u16,u17⟩,Zh _ _ _,⟨o12.le hw',o13.le hw',o14.le hw',o15.le hw',o16.le hw',o17.le hw',hap⟩⟩,ke h2 (by omega) (by decide) (by decide),ke h3 (by omega) (by decide) (by decide),fun h=>by rw [Z3 _ _ _ _ (by decide)];exact (let ⟨u,e1,e2⟩:=(h4 (Z0 h (by omega) (by decide)));⟨u,e1,e2.below hb⟩),fun h=>by obtain ⟨p,C,ep,hp,hP,hC,hR⟩:=h5 (Z0 h (by omega) (by decide));exact ⟨p,C,(Z3 _ _ _ _ (by decide)).trans ep,hp,hP.below hb hP.lt,hC,fun hq6=>(let ⟨u,e1,e2⟩:=hR (Z0 hq6 (by omega) (by decide));⟨u,e1,e2.below hb⟩)⟩,fun h=>Y3 (h6 (Z0 h (by omega) (by decide))) (by omega)⟩
   ·skip
    have ev3:(frame a0 [6,7,8,9,10,5] x).tmps[3]?.getD undef=.pointer (some ⟨w.heap.size+1,0,none⟩):=by have h:=(Zm a0 [6,7,8,9,10,5] x 3 rfl).trans e3;simpa [Act.eval] using h
    refine Za rfl rfl (Zl (v:=.pointer (some ⟨w.heap.size+1,1,none⟩)) ?_ ?_)
    ·obtain ⟨aa,haa⟩:∃ aa,aa=frame a0 [6,7,8,9,10,5] x:=⟨_,rfl⟩
     rw [<-haa] at ev3 ⊢;clear haa HA0;go_simp
    exact ⟨_,Zd _ _ _ 8 _ rfl,hB,ke h0 (by omega) (by decide) (by decide),fun h=>by rw [Z3 _ _ _ _ (by decide)];exact (h1 (Z0 h (by omega) (by decide))),fun h=>Zh _ _ _,ke h3 (by omega) (by decide) (by decide),fun h=>by rw [Z3 _ _ _ _ (by decide)];exact (h4 (Z0 h (by omega) (by decide))),fun h=>by obtain ⟨p,C,ep,hp,hP,hC,hR⟩:=h5 (Z0 h (by omega) (by decide));exact ⟨p,C,(Z3 _ _ _ _ (by decide)).trans ep,hp,hP,hC,fun hq6=>(hR (Z0 hq6 (by omega) (by decide)))⟩,fun h=>Y3 (h6 (Z0 h (by omega) (by decide))) (by omega)⟩
   ·have d2:=h2 (Z7 hi (by decide))
    have cin:w'.cell? ⟨w.heap.size+1,1,none⟩=some (.int .i64 dr):=(BI0.out.below hB (by omega)).cell 1;have ev8:(frame a0 [6,7,8,9,10,5] x).tmps[8]?.getD undef=.pointer (some ⟨w.heap.size+1,1,none⟩):=by have h:=(Z5 a0 [6,7,8,9,10,5] x 8 rfl (by omega)).trans d2;simpa [Act.eval] using h
    refine Za rfl rfl (Zl (v:=.int .i64 dr) ?_ ?_)
    ·obtain ⟨aa,haa⟩:∃ aa,aa=frame a0 [6,7,8,9,10,5] x:=⟨_,rfl⟩
     rw [<-haa] at ev8 ⊢;clear haa HA0;go_simp
    exact ⟨_,Zd _ _ _ 9 _ rfl,hB,ke h0 (by omega) (by decide) (by decide),fun h=>by rw [Z3 _ _ _ _ (by decide)];exact (h1 (Z0 h (by omega) (by decide))),ke h2 (by omega) (by decide) (by decide),fun h=>Zh _ _ _,fun h=>by rw [Z3 _ _ _ _ (by decide)];exact (h4 (Z0 h (by omega) (by decide))),fun h=>by obtain ⟨p,C,ep,hp,hP,hC,hR⟩:=h5 (Z0 h (by omega) (by decide));exact ⟨p,C,(Z3 _ _ _ _ (by decide)).trans ep,hp,hP,hC,fun hq6=>(hR (Z0 hq6 (by omega) (by decide)))⟩,fun h=>Y3 (h6 (Z0 h (by omega) (by decide))) (by omega)⟩
   ·have d1:=h1 (Z7 hi (by decide))
    have d3:=h3 (Z7 hi (by decide));obtain ⟨u,e7,hcp⟩:=d1;have ev7:(frame a0 [6,7,8,9,10,5] x).tmps[7]?.getD undef=.agg #[.int .i64 n.id,.int .i64 n.sz,.int .i64 n.el,.int .i64 n.bt,.int .i64 n.tm,.int .i64 n.vo,.int .i64 n.ro,.int .i64 n.ld,.int .i64 n.cm,.int .i64 n.nw,.int .i64 n.dl,.int .i64 n.hd,u.v12,u.v13,u.v14,u.v15,u.v16,u.v17]:=by have h:=(Z5 a0 [6,7,8,9,10,5] x 7 rfl (by omega)).trans e7;simpa [Act.eval] using h
    have ev9:(frame a0 [6,7,8,9,10,5] x).tmps[9]?.getD undef=.int .i64 dr:=by have h:=(Z5 a0 [6,7,8,9,10,5] x 9 rfl (by omega)).trans d3;simpa [Act.eval] using h
    refine Za rfl rfl (Zl (v:=.agg #[.int .i64 n.id,.int .i64 n.sz,.int .i64 n.el,.int .i64 n.bt,.int .i64 n.tm,.int .i64 n.vo,.int .i64 n.ro,.int .i64 n.ld,.int .i64 n.cm,.int .i64 n.nw,.int .i64 n.dl,.int .i64 n.hd,u.v12,u.v13,u.v14,u.v15,u.v16,u.v17,.slice none 0 0,.int .i64 0,.int .i64 0,.int .i64 dr]) ?_ ?_)
    ·obtain ⟨aa,haa⟩:∃ aa,aa=frame a0 [6,7,8,9,10,5] x:=⟨_,rfl⟩
     rw [<-haa] at ev7 ev9 ⊢;clear haa HA0;go_simp
    exact ⟨_,Zd _ _ _ 10 _ rfl,hB,ke h0 (by omega) (by decide) (by decide),fun h=>by rw [Z3 _ _ _ _ (by decide)];exact (h1 (Z0 h (by omega) (by decide))),ke h2 (by omega) (by decide) (by decide),ke h3 (by omega) (by decide) (by decide),fun h=>⟨u,Zh _ _ _,hcp⟩,fun h=>by obtain ⟨p,C,ep,hp,hP,hC,hR⟩:=h5 (Z0 h (by omega) (by decide));exact ⟨p,C,(Z3 _ _ _ _ (by decide)).trans ep,hp,hP,hC,fun hq6=>(hR (Z0 hq6 (by omega) (by decide)))⟩,fun h=>Y3 (h6 (Z0 h (by omega) (by decide))) (by omega)⟩
   ·skip
    refine Za rfl rfl (Z2n 112 #[.int .i64 0,.int .i64 0,.int .i64 0,.int .i64 0,.int .i64 0,.int .i64 0,.int .i64 0,.int .i64 0,.int .i64 0,.int .i64 0,.int .i64 0,.int .i64 0,.slice none 0 0,.slice none 0 0,.slice none 0 0,.slice none 0 0,.slice none 0 0,.slice none 0 0,.slice none 0 0,.int .i64 0,.int .i64 0,.int .i64 0] rfl (fun _=>by go_simp) ?_);have hb:Below w'.heap.size w' (w'.alloc (.cells #[.int .i64 0,.int .i64 0,.int .i64 0,.int .i64 0,.int .i64 0,.int .i64 0,.int .i64 0,.int .i64 0,.int .i64 0,.int .i64 0,.int .i64 0,.int .i64 0,.slice none 0 0,.slice none 0 0,.slice none 0 0,.slice none 0 0,.slice none 0 0,.slice none 0 0,.slice none 0 0,.int .i64 0,.int .i64 0,.int .i64 0] 112)):=(Below.refl _ _).alloc (Nat.le_refl _) _;exact ⟨_,Zd _ _ _ 5 _ rfl,hB.alloc hw' _,ke h0 (by omega) (by decide) (by decide),fun h=>by rw [Z3 _ _ _ _ (by decide)];exact (let ⟨u,e1,e2⟩:=(h1 (Z0 h (by omega) (by decide)));⟨u,e1,e2.below hb⟩),ke h2 (by omega) (by decide) (by decide),ke h3 (by omega) (by decide) (by decide),fun h=>by rw [Z3 _ _ _ _ (by decide)];exact (let ⟨u,e1,e2⟩:=(h4 (Z0 h (by omega) (by decide)));⟨u,e1,e2.below hb⟩),fun h=>⟨_,_,Zh _ _ _,hw',Blk.new _ _ _,rfl,fun hq6=>(readyBit hsL hi (h6 (Z0 hq6 (by omega) (by decide)))).elim⟩,fun h=>J4 (by omega)⟩
   ·have d5:=h5 (Z7 hi (by decide))
    have d4:=h4 (Z7 hi (by decide));obtain ⟨p,C,ep,hp,hP,hC,hR⟩:=d5;obtain ⟨u,e10,hcp⟩:=d4;have evp:=(Z5 a0 [6,7,8,9,10,5] x 5 rfl (by omega)).trans ep;have evs:=(Z5 a0 [6,7,8,9,10,5] x 10 rfl (by omega)).trans e10;refine Za rfl rfl (Js 112 (.tmp 5) (.tmp 10) rfl p evp evs hP sizeRn rfl hC (hcp.one dr) ?_);exact ⟨_,rfl,X4 hB hp _,ku h0 (by omega) (by decide),fun h=>(let ⟨u,e1,e2⟩:=(h1 (Z0 h (by omega) (by decide)));⟨u,e1,e2.row hP _⟩),ku h2 (by omega) (by decide),ku h3 (by omega) (by decide),fun h=>(let ⟨u,e1,e2⟩:=(h4 (Z0 h (by omega) (by decide)));⟨u,e1,e2.row hP _⟩),fun h=>⟨p,_,ep,hp,hP.row _,rfl,fun _=>⟨u,rfl,hcp.row hP _⟩⟩,fun h=>Y3 (Z7 hi (by decide)) (by omega)⟩
  ·rintro L a w' hsL hr ⟨x,rfl,hB,h0,h1,h2,h3,h4,h5,h6⟩
   have hall:=Xi hsL hr (by decide);replace h0:=h0 (hall 0 (by decide));replace h1:=h1 (hall 1 (by decide));replace h2:=h2 (hall 2 (by decide));replace h3:=h3 (hall 3 (by decide));replace h4:=h4 (hall 4 (by decide));replace h5:=h5 (hall 5 (by decide));replace h6:=h6 (hall 6 (by decide));obtain ⟨p,C,ep,hp,hP,hC,hR⟩:=h5;replace hR:=hR (hall 6 (by decide));rw [HA0.out];simp only [frame,List.zipIdx_cons,List.zipIdx_nil,List.map_cons,List.map_nil,List.contains_cons,List.contains_nil,Nat.reduceBEq,Nat.reduceAdd,Bool.or_false,Bool.false_or,Bool.or_true,Bool.true_or,Bool.false_eq_true,if_false,if_true,h0,h2,h3,ep];obtain ⟨u,hCe,hcp⟩:=hR
   go_wp2_with fail
   go_meet;exact ⟨p,u,rfl,hcp.run dr hp (by rw [<-hCe];exact hP),hB⟩
 case rest=>
  obtain ⟨b,u,rfl,hR,hB⟩:=hcut;obtain ⟨w1,hw1⟩:∃ z,z=wc:=⟨_,rfl⟩;rw [<-hw1] at hR hB;subst hw1;obtain ⟨X0,hX0⟩:∃ X0:RV,X0=⟨u.v12,u.v13,u.v14,u.v15,u.v16,u.v17,.slice none 0 0,[]⟩:=⟨_,rfl⟩;have hXL:X0.L = []:=by rw [hX0]
  rw [<-hX0] at hR;obtain ⟨R0,hR0⟩:∃ R0:Rn,R0=⟨n,[],0,0,dr⟩:=⟨_,rfl⟩;rw [<-hR0] at hR;have HE0:Hid (R0.n=n/\R0.draw=dr):=by rw [hR0];exact ⟨rfl,rfl⟩
  have HRP:Hid (RP=if ki=1 then R0.tick else if ki=2 then R0.message (decide (msB m≠0)) m else if ki=3 then R0.propose (decide (cmdF cl sq op k.size v.size o.size≠0∨op=0)) cl sq op k v o else { R0 with code:=8 }):=by unfold Hid;rw [<-HRP0.out,hR0];rfl
  have HR1:Hid _:=hR;have HB1:Hid _:=hB;have BI1:Hid (Blk w1 (w.heap.size+1) _ 46):=BI0.out.below hB (by omega);have BS1:Hid (Blk w1 (w.heap.size+2) _ 39):=BS0.out.below hB (by omega);have HEs:Hid (Es w1 (.slice ea m.es.length ec) m.es):=he.below (HB0.out.trans (hB.mono (by omega)));have n0:w1.cell? ⟨w.heap.size+1,0,none⟩=some (.int .i64 ki):=BI1.out.cell 0;have HHt:Hid _:=l4tick_any b R0 X0 w1 w0.heap.size hR (by rw [HE0.out.1];exact hb) (by rw [HE0.out.2];exact hd) (by rw [HE0.out.2];exact hD) (by rw [hXL];simp) (by rw [HE0.out.1];exact hodd) (by rw [HE0.out.1];exact ht0) (by rw [HE0.out.1];exact ht1) (by rw [HE0.out.1];exact hLt);have hbz:b<w1.heap.size:=hR.lt;have hbl:w0.heap.size<=b:=hR.lo;clear hR hB hX0 hR0 HNd BN0 BI0 BS0
  go_upto_if 13 with fail
  go_cut [] (fun wx=>∃ X5:RV,Zv wx w0.heap.size b RP X5/\Below w0.heap.size w1 wx)
  case first=>
   by_cases h1:ki=1
   ·have HF:Hid (RP=R0.tick):=HRP.out.trans (if_pos h1)
    have b1:(ki == 1)=true:=by simpa using h1
    rw [b1];clear HRP h1 b1
    go_wp2_with (first
     |(go_at_call 76;refine Calls.mono HHt.out ?_;rintro e wz ⟨x9,rfl,hRz,hbz9⟩;have HRz:Hid _:=hRz;have HBz:Hid _:=hbz9;clear hRz hbz9))
    go_meet;exact ⟨x9,by rw [HF.out];exact HRz.out,HBz.out⟩
   exact absurd hki.out h1
  case rest=>
   obtain ⟨X5,hR5,hB5⟩:=hcut;obtain ⟨w2,hw2⟩:∃ z,z=wc:=⟨_,rfl⟩;rw [<-hw2] at hR5 hB5;subst hw2;have HR2:Hid _:=hR5;have HBo:Hid (Below w.heap.size w w2):=(HB0.out.trans (HB1.out.mono (by omega))).trans (hB5.mono (by omega));have BS2:Hid (Blk w2 (w.heap.size+2) _ 39):=BS1.out.keep (hB5.block _ (by omega));obtain ⟨oa,oc,hvo⟩:=hR5.out.shape;have c18:w2.cell? ⟨b,18,none⟩=some (.slice oa X5.L.length oc):=by rw [<-hvo];exact hR5.blk.cell 18
   have c19:w2.cell? ⟨b,19,none⟩=some (.int .i64 RP.code):=hR5.blk.cell 19;have c20:w2.cell? ⟨b,20,none⟩=some (.int .i64 RP.drew):=hR5.blk.cell 20
   have HOne:Hid ((saC RP X5).all (·.oneCell')=true):=by
    obtain ⟨x12,y12,e12⟩:=hR5.log.shape;obtain ⟨x13,y13,e13⟩:=hR5.gr.shape;obtain ⟨x14,y14,e14⟩:=hR5.nx.shape;obtain ⟨x15,y15,e15⟩:=hR5.mt.shape;obtain ⟨x16,y16,e16⟩:=hR5.se.shape;obtain ⟨x17,y17,e17⟩:=hR5.st.shape;unfold Hid saC;simp [Value.oneCell',e12,e13,e14,e15,e16,e17,hvo]
   have HSa:Hid (saC RP X5=#[.int .i64 RP.code,.int .i64 RP.drew,.int .i64 RP.n.id,.int .i64 RP.n.sz,.int .i64 RP.n.el,.int .i64 RP.n.bt,.int .i64 RP.n.tm,.int .i64 RP.n.vo,.int .i64 RP.n.ro,.int .i64 RP.n.ld,.int .i64 RP.n.cm,.int .i64 RP.n.nw,.int .i64 RP.n.dl,.int .i64 RP.n.hd,X5.vl,X5.vg,X5.vn,X5.vm,X5.vs,X5.vt,.slice oa X5.L.length oc]):=by unfold Hid saC;rw [hvo]
   have hnd:ndC RP.n X5=#[.int .i64 RP.n.id,.int .i64 RP.n.sz,.int .i64 RP.n.el,.int .i64 RP.n.bt,.int .i64 RP.n.tm,.int .i64 RP.n.vo,.int .i64 RP.n.ro,.int .i64 RP.n.ld,.int .i64 RP.n.cm,.int .i64 RP.n.nw,.int .i64 RP.n.dl,.int .i64 RP.n.hd,X5.vl,X5.vg,X5.vn,X5.vm,X5.vs,X5.vt]:=rfl;have HOn2:=HOne.out;rw [HSa.out] at HOn2;have HOn3:Hid _:=HOn2;have hbl2:w0.heap.size<=b:=hR5.lo;have HK:Hid (∀ C':Array Value,Zv (w2.setRow (w.heap.size+2) C') w.heap.size b RP X5/\Below w.heap.size w (w2.setRow (w.heap.size+2) C')):=fun C'=>⟨(hR5.keepB fun k hk=>setRow_other w2 (w.heap.size+2) k C' (show k≠w.heap.size+2 by omega)).le (show w.heap.size<=w0.heap.size by omega),X4 HBo.out (show w.heap.size<=w.heap.size+2 by omega) C'⟩
   have G2:Hid True:=trivial;have G3:Hid True:=trivial;clear hR5 hB5 hvo HOn2 n0 HHt
   go_wp2_with (first
    |(have hBA:=G2;refine Zx 36 (.tmp 32) rfl ?_;clear hBA;refine wpl_load_node rfl (.tmp 32) rfl rfl HR2.out ?_;clear G2)
    |(have hBA:=G3;refine Y6 39 (.tmp 4) (.tmp 36) rfl ?_;clear hBA;refine Zz rfl 39 (.tmp 4) (.tmp 36) rfl (w.heap.size+2) rfl rfl BS2.out sizeSa rfl rfl HOn3.out ?_;clear G3))
   (try simp only [Exit.inBlock,Exit.then])
   refine bodyPost_ret (v:=.agg (saC RP X5)) (Y5 Tryz.results32 rfl (by rw [HSa.out];exact BS2.out.row _) Tryz.underlying39 rfl sizeSa (by rw [HSa.out];rfl)) rfl ⟨b,X5,rfl,(HK.out _).1,(HK.out _).2⟩
def setTE (T:Int)(e:Ent):Ent:=⟨T,e.cl,e.sq,e.op,e.k,e.v,e.o⟩
theorem Dr.pick1 {w0 w:World}{g k:Nat}{v:Value}{l:List Int}{F:List (Nat×Array Value×TypeId)}(h:Dr w0 w g v l k F)(n:Nat)(hL:l.length<=1048576)(hk:k<=900000000)(hn:0<n)(hN:n<=256) :
  Calls Tryz.prog 53 #[.pointer (some ⟨g,0,none⟩),.int .i64 n] w fun e w'=>e=.returned (.int .i64 (Z4 l k n:Nat))/\Dr w0 w' g v l (k+1) F:=by
 have:=h.pick n hL hk hn (by omega)
 rwa [show Zn n=1 by unfold Zn;rw [if_pos hN]] at this
theorem Dr.pickG {w0 w:World}{g k:Nat}{v:Value}{l:List Int}{F:List (Nat×Array Value×TypeId)}(h:Dr w0 w g v l k F)(n:Nat)(hL:l.length<=1048576)(hk:k<=900000000)(hn:0<n)(hN:n<=256) :
  Calls Tryz.prog 53 #[.pointer (some ⟨g,0,none⟩),.int .i64 n] w fun e w'=>e=.returned (.int .i64 (Z4 l k n:Nat))/\Dr w0 w' g v l (k+1) F/\w.grownBy w' (some g):=by
 have:=Zq g w v l k n hL hk hn (by omega) h.src;rw [show Zn n=1 by unfold Zn;rw [if_pos hN]] at this;exact this.mono fun e w' ⟨h1,h2,h3⟩=>⟨h1,h.call h2 h3,h3⟩
theorem esAt {w:World}{a:Option Addr}{cap:Nat}{l:List Ent}(h:Es w (.slice a l.length cap) l){k:Nat}(hk:k<l.length):∃ b off,a=some ⟨b,off,none⟩/\Jc w b (off+k*7) l[k]:=by
 obtain ⟨_,_,a',cap',e,hc⟩:=h;injection e with e1 _ _;subst e1;obtain ⟨b,off,rfl,hj⟩:=hc k hk;exact ⟨b,off,rfl,hj k hk⟩
theorem ownAt {w:World}{B n cap:Nat}{a:Option Addr}{l:List Ent}(h:Zp w B (.slice a n cap) l)(hn:n=l.length){k:Nat}(hk:k<l.length)(hm:n<=maxLen):∃ q,a=some ⟨q,0,none⟩/\Jc w q (k*7) l[k]/\∀ j,w.frozen? ⟨q,j,none⟩=false:=by
 subst hn;obtain ⟨q,cap',e⟩:=h.shape' (by omega);injection e with e1 e2 e3;subst e1 e3;obtain ⟨b,off,e,hE⟩:=esAt (h.es hm) hk;injection e with e;injection e with f1 f2;subst f1 f2;rw [Nat.zero_add] at hE;exact ⟨_,rfl,hE,fun j=>h.2.frozenAt j⟩
theorem entCells_setT (l:List Ent):∀(i:Nat) (hi:i<l.length) (T:Int),Yd (l.set i (setTE T l[i]))=(Yd l).set (i*7) (.int .i64 T):=by
 induction l with
 | nil=>intro i hi;simp at hi
 | cons e l ih=>
  intro i hi T
  cases i with
  | zero=>simp [Yd,Ent.cells,setTE]
  | succ i=>
   have hi':i<l.length:=by simpa using hi
   simp only [List.set_cons_succ,List.getElem_cons_succ,Yd];rw [ih i hi' T,List.set_append,if_neg (by simp [Ent.cells];omega)];congr 2;simp [Ent.cells];omega
theorem Zp.setT {w:World}{B q c n:Nat}{l:List Ent}(h:Zp w B (.slice (some ⟨q,0,none⟩) n c) l)(hn:n=l.length)(i:Nat)(hi:i<l.length)(T:Int):Zp (w.setCell ⟨q,i*7,none⟩ (.int .i64 T)) B (.slice (some ⟨q,0,none⟩) n c) (l.set i (setTE T l[i])):=by
 subst hn;refine ⟨fun e he=>?_,?_⟩
 ·rcases List.mem_or_eq_of_mem_set he with he | he
  ·exact h.1 e he
  ·subst he;have hf:=h.1 _ (List.getElem_mem hi);exact hf
 ·rw [List.length_set,entCells_setT l i hi T]
  exact (h.2.stored (i*7) _).1
def lowV (L:List Ent)(j:Nat):Int:=if j=0 then 1 else (L[j-1]?.map (·.t)).getD 1
theorem lowV_succ (L:List Ent)(j:Nat)(h:j<L.length):lowV L (j+1)=L[j].t:=by
 unfold lowV;rw [if_neg (by omega)];simp [List.getElem?_eq_getElem h]
theorem infoStb:(Tryz.prog.info? 104).map (·.size)=some 3:=by kernel_rfl
def stE (l:List Int)(k n:Nat):List Ent×Nat×Int:=Yb l (k+1+1+1) (1+((Z4 l (k+1+1) 3:Nat):Int)) (Z4 l (k+1) (n+1))
def stT (l:List Int)(k n:Nat):Int:=if Z4 l ((stE l k n).2.1+1) 14=0 then 1073741824 else lowV (stE l k n).1 (stE l k n).1.length+((Z4 l (stE l k n).2.1 3:Nat):Int)
def stD (l:List Int)(k n:Nat):Int×Int×List Ent×Nat:=
 if Z4 l k 12=0 then (0,0,[],k+1) else (stT l k n,((Z4 l ((stE l k n).2.1+1+1) 8:Nat):Int),(stE l k n).1,(stE l k n).2.1+1+1+1)
theorem entsD_memS (l:List Int)(k:Nat)(t:Int)(n:Nat)(h0:0<=t)(h1:t<=1073741824):∀ e∈(Yb l k t n).1,0<=e.t/\e.t<=1073741824:=by
 induction n with
 | zero=>intro e he;simp [Yb] at he
 | succ n ih=>
  intro e he;rw [Yb] at he;rcases List.mem_append.1 he with he | he
  ·exact ih e he
  ·simp only [List.mem_singleton] at he
   have h2:=entsD_t l k t n h0 h1;have h3:=entT_le l (Yb l k t n).2.1 (Yb l k t n).2.2 (by omega) h2.2;subst he;unfold entE;split <;> (dsimp only;omega)
theorem Jf {w w':World}{B b:Nat}{v:Value}{l:List Ent}{C:Array Value}{t:TypeId}(h:Zp w B v l)(hb:Blk w b C t)(hne:118≠t)(hk:∀ q,q≠b->w'.heap[q]? = w.heap[q]?):Zp w' B v l:=
 h.block fun q hq=>hk q (fun e=>ownsRow.neBlk h.2 hb hne (by rw [hq,e]))
theorem Jh (w:World)(b j:Nat)(x:Value):∀ q,q≠b->(w.setCell ⟨b,j,none⟩ x).heap[q]? = w.heap[q]?:=fun q hq=>Below.heap_setCell _ _ _ _ hq
theorem Z29 (g:Nat)(w:World)(v:Value)(l:List Int)(k n:Nat)(hL:l.length<=1048576)(hk:k<=400000000)(hn:n<=200)(h:Src w g v l k) :
  Calls Tryz.prog 92 #[.pointer (some ⟨g,0,none⟩),.int .i64 n] w fun r w'=>∃ ea ec,r=.returned (.agg #[.int .i64 (stD l k n).1,.int .i64 (stD l k n).2.1,.slice ea (stD l k n).2.2.1.length ec])/\Zp w' w.heap.size (.slice ea (stD l k n).2.2.1.length ec) (stD l k n).2.2.1/\Src w' g v l (stD l k n).2.2.2/\w.grownBy w' (some g):=by
 have hg0:g<w.heap.size:=h.lt
 have HD0:Hid (Dr w ((w.alloc (.cells #[.int .i64 0,.int .i64 0,.slice none 0 0] 104)).alloc (.cells #[.int .i64 0,.int .i64 0,.slice none 0 0] 104)) g v l k [(w.heap.size,#[.int .i64 0,.int .i64 0,.slice none 0 0],104),(w.heap.size+1,#[.int .i64 0,.int .i64 0,.slice none 0 0],104)]):=by
  have hX:=((Dr.start h).new #[.int .i64 0,.int .i64 0,.slice none 0 0] 104 (Yl rfl)).new #[.int .i64 0,.int .i64 0,.slice none 0 0] 104 (Yl rfl);have hY:Dr w ((w.alloc (.cells #[.int .i64 0,.int .i64 0,.slice none 0 0] 104)).alloc (.cells #[.int .i64 0,.int .i64 0,.slice none 0 0] 104)) g v l k [(w.heap.size,#[.int .i64 0,.int .i64 0,.slice none 0 0],104),(w.heap.size+1,#[.int .i64 0,.int .i64 0,.slice none 0 0],104)]:=by simpa using hX
  exact hY
 clear h;unfold stD;have bp:=Zi l k 12 (by omega);obtain ⟨p,hp⟩:∃ p,p=Z4 l k 12:=⟨_,rfl⟩;have Hp:Hid (p=Z4 l k 12):=hp;rw [<-hp] at bp ⊢;clear hp;by_cases c0:p=0
 ·subst c0
  rw [if_pos rfl];dsimp only;go_enter Tryz.func92,Tryz.ntmps92
  go_wp2_with (go_at_call 53;refine (HD0.out.pickG 12 hL (by omega) (by omega) (by omega)).mono ?_;rintro e w1 ⟨rfl,hd_,hg_⟩;rw [<-Hp.out];have HDw1:Hid (Dr w w1 g v l (k+1) [(w.heap.size,#[.int .i64 0,.int .i64 0,.slice none 0 0],104),(w.heap.size+1,#[.int .i64 0,.int .i64 0,.slice none 0 0],104)]):=hd_;have ce1:=(hd_.blk 1 rfl).cell;have ce0:=(hd_.blk 0 rfl).cell;have fe0:=(hd_.blk 0 rfl).free;clear hd_ hg_)
  have d2:=HDw1.out.set 0 rfl 0 (by simp) (.int .i64 0) rfl;have d3:=d2.set 0 rfl 1 (by simp) (.int .i64 0) rfl;have d4:=d3.set 0 rfl 2 (by simp) (.slice none 0 0) rfl;exact bodyPost_ret (Y5 Tryz.results92 rfl (d4.blk 0 rfl) Tryz.underlying104 rfl infoStb rfl) rfl ⟨none,0,rfl,Zp.nil _ _,d4.src,d4.grown⟩
 ·rw [if_neg c0]
  have c1:((p:Int) == 0)=false:=by rw [beq_eq_false_iff_ne];omega
  dsimp only;have HsT:Hid (stT l k n=if Z4 l ((stE l k n).2.1+1) 14=0 then 1073741824 else lowV (stE l k n).1 (stE l k n).1.length+((Z4 l (stE l k n).2.1 3:Nat):Int)):=(rfl:stT l k n=_);generalize stT l k n=TT at *;have HsE:Hid (stE l k n=Yb l (k+1+1+1) (1+((Z4 l (k+1+1) 3:Nat):Int)) (Z4 l (k+1) (n+1))):=(rfl:stE l k n=_);have bn1:=Zi l (k+1) (n+1) (by omega);obtain ⟨n1,hn1⟩:∃ n1,n1=Z4 l (k+1) (n+1):=⟨_,rfl⟩;have Hn1:Hid (n1=Z4 l (k+1) (n+1)):=hn1;have bt3:=Zi l (k+1+1) 3 (by omega);obtain ⟨t3,ht3⟩:∃ t3,t3=Z4 l (k+1+1) 3:=⟨_,rfl⟩;have Ht3:Hid (t3=Z4 l (k+1+1) 3):=ht3;rw [<-hn1] at bn1 HsE;rw [<-ht3] at bt3 HsE;clear hn1 ht3;obtain ⟨D,KD,TD,hDe⟩:∃ D KD TD,stE l k n=(D,KD,TD):=⟨_,_,_,rfl⟩;rw [hDe] at HsT HsE ⊢;clear hDe;dsimp only at HsT ⊢;have hDl:=Z0d l (k+1+1+1) (1+(t3:Int)) n1;have hDk:=entsD_k l (k+1+1+1) (1+(t3:Int)) n1;rw [<-HsE.out] at hDl hDk;dsimp only at hDl hDk
  have hlow:0<=lowV D D.length/\lowV D D.length<=1073741824:=by
   have hme:=entsD_memS l (k+1+1+1) (1+(t3:Int)) n1 (by omega) (by omega);rw [<-HsE.out] at hme;rcases Nat.eq_zero_or_pos D.length with h0 | h0
   ·rw [h0];exact ⟨(by show (0:Int)<=1;omega),(by show (1:Int)<=1073741824;omega)⟩
   ·have h1:=lowV_succ D (D.length-1) (by omega)
    rw [show D.length-1+1=D.length by omega] at h1;rw [h1];exact hme _ (List.getElem_mem _)
  obtain ⟨lw,hlw⟩:∃ lw,lw=lowV D D.length:=⟨_,rfl⟩;rw [<-hlw] at hlow HsT;have Hlw:Hid (lw=lowV D D.length):=hlw;obtain ⟨hlw0,hlwM⟩:=hlow;clear hlw;have bq3:=Zi l KD 3 (by omega);obtain ⟨q3,hq3⟩:∃ q3,q3=Z4 l KD 3:=⟨_,rfl⟩;have Hq3:Hid (q3=Z4 l KD 3):=hq3;have bq14:=Zi l (KD+1) 14 (by omega);obtain ⟨q14,hq14⟩:∃ q14,q14=Z4 l (KD+1) 14:=⟨_,rfl⟩;have Hq14:Hid (q14=Z4 l (KD+1) 14):=hq14;have bq8:=Zi l (KD+1+1) 8 (by omega);obtain ⟨q8,hq8⟩:∃ q8,q8=Z4 l (KD+1+1) 8:=⟨_,rfl⟩;have Hq8:Hid (q8=Z4 l (KD+1+1) 8):=hq8;rw [<-hq3] at bq3 HsT;rw [<-hq14] at bq14 HsT;rw [<-hq8] at bq8 ⊢;clear hq3 hq14 hq8
  have HEs:Hid (∀(u:World),Src u g v l (k+1+1+1)->Calls Tryz.prog 96 #[.pointer (some ⟨g,0,none⟩),.int .i64 n1,.int .i64 (1+(t3:Int))] u fun r w'=>∃ ev,r=.returned ev/\Zp w' u.heap.size ev D/\Src w' g v l KD/\u.grownBy w' (some g)):=fun u hu=>by
   have:=Z1w g u v l (k+1+1+1) n1 (1+(t3:Int)) hL (by omega) (by omega) ⟨by omega,by omega⟩ hu;rw [<-HsE.out] at this;exact this
  have HPN:Hid (∀ u:World,Dr w u g v l (k+1) [(w.heap.size,#[.int .i64 0,.int .i64 0,.slice none 0 0],104),(w.heap.size+1,#[.int .i64 0,.int .i64 0,.slice none 0 0],104)]->Calls Tryz.prog 53 #[.pointer (some ⟨g,0,none⟩),.int .i64 ((n:Int)+1)] u fun e w'=>e=.returned (.int .i64 (n1:Nat))/\Dr w w' g v l (k+1+1) [(w.heap.size,#[.int .i64 0,.int .i64 0,.slice none 0 0],104),(w.heap.size+1,#[.int .i64 0,.int .i64 0,.slice none 0 0],104)]):=fun u hu=>by
   rw [Hn1.out];exact hu.pick1 (n+1) hL (by omega) (by omega) (by omega)
  clear HsE;have HDl:Hid (D.length=n1):=hDl;clear hDl;have A1:True:=trivial;have A2:True:=trivial;go_enter Tryz.func92,Tryz.ntmps92
  go_upto_if 24 with (first
   |(go_at_call 53;clear A1;refine (HD0.out.pickG 12 hL (by omega) (by omega) (by omega)).mono ?_;rintro e w1 ⟨rfl,hd_,hg_⟩;rw [<-Hp.out];have HDw1:Hid (Dr w w1 g v l (k+1) [(w.heap.size,#[.int .i64 0,.int .i64 0,.slice none 0 0],104),(w.heap.size+1,#[.int .i64 0,.int .i64 0,.slice none 0 0],104)]):=hd_;have cew1:=(hd_.blk 1 rfl).cell;have few1:=(hd_.blk 1 rfl).free;clear hd_ hg_)
   |(go_at_call 53;clear A2;refine (HPN.out _ HDw1.out).mono ?_;rintro e w2 ⟨rfl,hd_⟩;have HDw2:Hid (Dr w w2 g v l (k+1+1) [(w.heap.size,#[.int .i64 0,.int .i64 0,.slice none 0 0],104),(w.heap.size+1,#[.int .i64 0,.int .i64 0,.slice none 0 0],104)]):=hd_;clear hd_)
   |(go_at_call 53;refine (HDw2.out.pickG 3 hL (by omega) (by omega) (by omega)).mono ?_;rintro e w3 ⟨rfl,hd_,hg_⟩;rw [<-Ht3.out];have HDw3:Hid (Dr w w3 g v l (k+1+1+1) [(w.heap.size,#[.int .i64 0,.int .i64 0,.slice none 0 0],104),(w.heap.size+1,#[.int .i64 0,.int .i64 0,.slice none 0 0],104)]):=hd_;have cew3:=(hd_.blk 1 rfl).cell;have few3:=(hd_.blk 1 rfl).free;clear hd_ hg_)
   |(go_at_call 96;refine (HEs.out _ HDw3.out.src).mono ?_;rintro e w4 ⟨mv,rfl,ho4,hs4,hg4⟩;have HDw4:Hid (Dr w w4 g v l KD [(w.heap.size,#[.int .i64 0,.int .i64 0,.slice none 0 0],104),(w.heap.size+1,#[.int .i64 0,.int .i64 0,.slice none 0 0],104)]):=HDw3.out.call hs4 hg4;obtain ⟨ea,ec,hmv⟩:=ho4.shape;rw [HDl.out] at hmv;subst hmv;have HO4:Hid (Zp w4 w.heap.size (.slice ea n1 ec) D):=ho4.le HDw3.out.size;clear ho4 hs4 hg4))
  clear HEs HPN HDw1 HDw2 HDw3
  go_cut [7] (fun s7 wx=>s7=.int .i64 lw/\wx=w4)
  case first=>
   cases n1 with
   | zero=>
    have hl1:lw=1:=by rw [Hlw.out,HDl.out];rfl
    have Hl1:Hid (lw=1):=hl1;clear hl1
    go_wp2_with fail
    go_meet;exact ⟨by rw [Hl1.out],rfl⟩
   | succ m=>
    have hmD:m<D.length:=by rw [HDl.out];omega
    have hl1:lw=D[m].t:=by rw [Hlw.out,HDl.out];exact lowV_succ D m hmD
    obtain ⟨q,ha,⟨d0,_⟩,_⟩:=ownAt HO4.out HDl.out.symm (k:=m) hmD (by unfold maxLen;omega);rw [<-hl1] at d0;subst ha;have hx1:(m:Int)<(m:Int)+1:=by omega
    have hx2:(0:Int)<(m:Int)+1:=by omega
    clear hl1
    go_wp2_with fail
    go_meet;exact ⟨rfl,rfl⟩
  case rest=>
   obtain ⟨rfl,rfl⟩:=hcut;have ceL:=(HDw4.out.blk 1 rfl).cell;have feL:=(HDw4.out.blk 1 rfl).free;obtain ⟨W4,hW4⟩:∃ W4,W4=wc:=⟨_,rfl⟩;subst hW4;have HDs4:Hid (Dr w (W4.setCell ⟨w.heap.size+1,2,none⟩ (.slice ea n1 ec)) g v l KD [(w.heap.size,#[.int .i64 0,.int .i64 0,.slice none 0 0],104),(w.heap.size+1,#[.int .i64 0,.int .i64 0,.slice ea n1 ec],104)]):=HDw4.out.set 1 rfl 2 (by simp) (.slice ea n1 ec) rfl;have HOs4:Hid (Zp (W4.setCell ⟨w.heap.size+1,2,none⟩ (.slice ea n1 ec)) w.heap.size (.slice ea n1 ec) D):=Jf HO4.out (HDw4.out.blk 1 rfl) (by decide) (Jh _ _ _ _);have A3:True:=trivial
   go_upto_if 41 with (first
    |(go_at_call 53;clear A3;refine (HDs4.out.pickG 3 hL (by omega) (by omega) (by omega)).mono ?_;rintro e w5 ⟨rfl,hd_,hg_⟩;rw [<-Hq3.out];have HDw5:Hid (Dr w w5 g v l (KD+1) [(w.heap.size,#[.int .i64 0,.int .i64 0,.slice none 0 0],104),(w.heap.size+1,#[.int .i64 0,.int .i64 0,.slice ea n1 ec],104)]):=hd_;have cew5:=(hd_.blk 1 rfl).cell;have few5:=(hd_.blk 1 rfl).free;have HOw5:Hid (Zp w5 w.heap.size (.slice ea n1 ec) D):=HOs4.out.grown hg_ hg0;have HDs5:Hid (Dr w (w5.setCell ⟨w.heap.size+1,0,none⟩ (.int .i64 (lw+(q3:Int)))) g v l (KD+1) [(w.heap.size,#[.int .i64 0,.int .i64 0,.slice none 0 0],104),(w.heap.size+1,#[.int .i64 (lw+(q3:Int)),.int .i64 0,.slice ea n1 ec],104)]):=hd_.set 1 rfl 0 (by simp) (.int .i64 (lw+(q3:Int))) rfl;have HOs5:Hid (Zp (w5.setCell ⟨w.heap.size+1,0,none⟩ (.int .i64 (lw+(q3:Int)))) w.heap.size (.slice ea n1 ec) D):=Jf HOw5.out (hd_.blk 1 rfl) (by decide) (Jh _ _ _ _);clear hd_ hg_)
    |(go_at_call 53;refine (HDs5.out.pickG 14 hL (by omega) (by omega) (by omega)).mono ?_;rintro e w6 ⟨rfl,hd_,hg_⟩;rw [<-Hq14.out];have HDw6:Hid (Dr w w6 g v l (KD+1+1) [(w.heap.size,#[.int .i64 0,.int .i64 0,.slice none 0 0],104),(w.heap.size+1,#[.int .i64 (lw+(q3:Int)),.int .i64 0,.slice ea n1 ec],104)]):=hd_;have cew6:=(hd_.blk 1 rfl).cell;have few6:=(hd_.blk 1 rfl).free;have HOw6:Hid (Zp w6 w.heap.size (.slice ea n1 ec) D):=HOs5.out.grown hg_ hg0;clear hd_ hg_))
   go_cut [41] (fun _ wx=>Zp wx w.heap.size (.slice ea n1 ec) D/\Dr w wx g v l (KD+1+1) [(w.heap.size,#[.int .i64 0,.int .i64 0,.slice none 0 0],104),(w.heap.size+1,#[.int .i64 TT,.int .i64 0,.slice ea n1 ec],104)])
   case first=>
    by_cases c14:q14=0
    ·subst c14
     rw [if_pos rfl] at HsT;have hT:=HsT.out;subst hT
     go_wp2_with fail
     go_meet;exact ⟨Jf HOw6.out (HDw6.out.blk 1 rfl) (by decide) (Jh _ _ _ _),HDw6.out.set 1 rfl 0 (by simp) (.int .i64 1073741824) rfl⟩
    ·rw [if_neg c14] at HsT
     have hT:=HsT.out;subst hT;have c15:((q14:Int) == 0)=false:=by rw [beq_eq_false_iff_ne];omega
     go_wp2_with fail
     go_meet;exact ⟨HOw6.out,HDw6.out⟩
   case rest=>
    obtain ⟨ho,hd⟩:=hcut;have HO7:Hid (Zp wc w.heap.size (.slice ea n1 ec) D):=ho;have HD7:Hid (Dr w wc g v l (KD+1+1) [(w.heap.size,#[.int .i64 0,.int .i64 0,.slice none 0 0],104),(w.heap.size+1,#[.int .i64 TT,.int .i64 0,.slice ea n1 ec],104)]):=hd;clear ho hd
    go_wp2_with (go_at_call 53;refine (HD7.out.pickG 8 hL (by omega) (by omega) (by omega)).mono ?_;rintro e w8 ⟨rfl,hd_,hg_⟩;rw [<-Hq8.out];have HDw8:Hid (Dr w w8 g v l (KD+1+1+1) [(w.heap.size,#[.int .i64 0,.int .i64 0,.slice none 0 0],104),(w.heap.size+1,#[.int .i64 TT,.int .i64 0,.slice ea n1 ec],104)]):=hd_;have cew8:=(hd_.blk 1 rfl).cell;have few8:=(hd_.blk 1 rfl).free;have HOw8:Hid (Zp w8 w.heap.size (.slice ea n1 ec) D):=HO7.out.grown hg_ hg0;have cz8:=(hd_.blk 0 rfl).cell;have fz8:=(hd_.blk 0 rfl).free;clear hd_ hg_)
    have d1:=HDw8.out.set 1 rfl 1 (by simp) (.int .i64 (q8:Int)) rfl;have o1:=Jf HOw8.out (HDw8.out.blk 1 rfl) (by decide) (Jh _ _ 1 (.int .i64 (q8:Int)));have d2:=d1.set 0 rfl 0 (by simp) (.int .i64 TT) rfl;have d3:=d2.set 0 rfl 1 (by simp) (.int .i64 (q8:Int)) rfl;have d4:=d3.set 0 rfl 2 (by simp) (.slice ea n1 ec) rfl;have o2:=Jf o1 (d1.blk 0 rfl) (by decide) (Jh _ _ 0 (.int .i64 TT));have o3:=Jf o2 (d2.blk 0 rfl) (by decide) (Jh _ _ 1 (.int .i64 (q8:Int)));have o4:=Jf o3 (d3.blk 0 rfl) (by decide) (Jh _ _ 2 (.slice ea n1 ec));exact bodyPost_ret (Y5 Tryz.results92 rfl (d4.blk 0 rfl) Tryz.underlying104 rfl infoStb rfl) rfl ⟨ea,ec,by rw [HDl.out];rfl,by rw [HDl.out];exact o4,d4.src,d4.grown⟩
def ndZ:Nd:=⟨0,0,0,0,0,0,0,0,0,0,0,0,[],[],[],[],[],[]⟩
def newN (id sz el bt t v dr:Int)(lg:List Ent):Nd:=if newB id sz el bt t v lg then ⟨id,sz,el,bt,t,v,0,0,0,0,Xg el dr,0,lg,[],[],[],[],[]⟩ else ndZ
structure DnH where
 sz:Nat
 el:Nat
 id:Nat
 k:Nat
def dnH (l:List Int)(k:Nat):DnH:=
 let sz:=if Z4 l (k+1) 2=0 then 3 else 3+2*Z4 l k 3
 let el:=if Z4 l (k+1+1+1) 10=0 then 1000 else 2+Z4 l (k+1+1) 12
 ⟨sz,el,1+Z4 l (k+1+1+1+1) sz,k+1+1+1+1+1⟩
theorem dnH_le (l:List Int)(k:Nat):3<=(dnH l k).sz/\(dnH l k).sz<=7/\2<=(dnH l k).el/\(dnH l k).el<=1000/\1<=(dnH l k).id/\(dnH l k).id<=(dnH l k).sz:=by
 have h1:=Zi l k 3 (by omega);have h2:=Zi l (k+1+1) 12 (by omega);have hs:3<=(dnH l k).sz/\(dnH l k).sz<=7:=by unfold dnH;dsimp only;split <;> omega
 have he:2<=(dnH l k).el/\(dnH l k).el<=1000:=by unfold dnH;dsimp only;split <;> omega
 have h3:=Zi l (k+1+1+1+1) (dnH l k).sz (by omega);have hi:(dnH l k).id=1+Z4 l (k+1+1+1+1) (dnH l k).sz:=rfl;omega
structure DnS where
 n:Nd
 k:Nat
def dn0 (l:List Int)(k n:Nat):DnS:=
 let s:=stD l k n
 let h:=dnH l s.2.2.2
 ⟨newN h.id h.sz h.el (1+(Z4 l h.k h.el:Nat)) s.1 (s.2.1%(h.sz+1)) (Yk l (h.k+Zn h.el)) s.2.2.1,h.k+Zn h.el+1⟩
def J8 (l:List Int)(d:DnS):DnS:=
 if Z4 l (d.k+1) 20=0 then ⟨{ d.n with nw:=1099511627776-(Z4 l (d.k+1+1) 2:Nat) },d.k+1+1+1⟩ else ⟨{ d.n with nw:=(Z4 l d.k 40:Nat) },d.k+1+1⟩
def Ja (l:List Int)(el:Nat)(d:DnS):DnS:=
 let q:=d.k+Zn (2*el+1)
 if Z4 l q 3=0 then ⟨{ d.n with dl:=d.n.nw+(Z4 l (q+1) 2:Nat) },q+1+1⟩ else ⟨{ d.n with dl:=d.n.nw+(Z4 l d.k (2*el+1):Nat) },q+1⟩
def Jo (l:List Int)(el:Nat)(d:DnS):DnS:=
 let m:=min d.n.nw.toNat (2*el)+1
 ⟨{ d.n with hd:=d.n.nw-(Z4 l d.k m:Nat) },d.k+Zn m⟩
def Z07 (l:List Int)(d:DnS):DnS:=⟨{ d.n with cm:=(Z4 l d.k (d.n.log.length+1):Nat) },d.k+Zn (d.n.log.length+1)⟩
def Jn (l:List Int)(h:DnH)(T:Int)(d:DnS):DnS:=
 let q:=Z4 l d.k 8
 if q=0 then
  let x:Int:=1+(((h.id:Int)+(Z4 l (d.k+1) (h.sz-1):Nat))%(h.sz:Int))
  ⟨{ d.n with ld:=if x=h.id then 0 else x },d.k+1+1⟩
 else if q<3 then ⟨{ d.n with ro:=1 },d.k+1⟩
 else if q<5/\0<T then ⟨{ d.n with ro:=2,vo:=h.id },d.k+1⟩
 else if 4<q/\0<T then ⟨{ d.n with ro:=3,vo:=h.id,ld:=h.id },d.k+1⟩
 else ⟨d.n,d.k+1⟩
structure DnG where
 gr:List Int
 ex:Nat
 k:Nat
def Xt (l:List Int)(id:Nat)(s:DnG):Nat->DnG
 | 0=>s
 | j+1=>
  let r:=Xt l id s j
  if j+1=id then ⟨r.gr ++ [(j:Int)+1],r.ex,r.k⟩
  else if 0<r.ex then (if Z4 l r.k 2=0 then ⟨r.gr ++ [(j:Int)+1],r.ex-1,r.k+1⟩ else ⟨r.gr,r.ex,r.k+1⟩)
  else r
def J1 (l:List Int)(h:DnH)(d:DnS):DnS:=
 if d.n.ro=1∨d.n.ro=2 then
  let r:=Xt l h.id ⟨d.n.gr,Z4 l d.k (h.sz / 2),d.k+1⟩ h.sz
  ⟨{ d.n with gr:=r.gr },r.k⟩
 else d
def Yy (T:Int)(L:List Ent)(o:Nat):List Ent:=L.take (L.length-o) ++ (L.drop (L.length-o)).map (setTE T)
structure DnR where
 nx:List Int
 mt:List Int
 se:List Int
 st:List Int
 k:Nat
def Xh (l:List Int)(h:DnH)(LN:Nat)(nw:Int)(s:DnR):Nat->DnR
 | 0=>s
 | j+1=>
  let r:=Xh l h LN nw s j
  if j+1=h.id then ⟨r.nx ++ [0],r.mt ++ [0],r.se ++ [0],r.st ++ [0],r.k⟩
  else
   let m6:=min LN 6+1
   let next:Nat:=LN+1-Z4 l r.k m6
   let k1:=r.k+1
   let mt0:=Z4 l k1 next
   let k2:=k1+Zn next
   let mt:Int:=if Z4 l k2 2=0 then (next:Int)-1 else mt0
   let bk:=min nw.toNat (h.el+2)+1
   let se:Int:=nw-(Z4 l (k2+1) bk:Nat)
   let st:Int:=nw-(Z4 l (k2+1+Zn bk) bk:Nat)
   ⟨r.nx ++ [(next:Int)],r.mt ++ [mt],r.se ++ [se],r.st ++ [st],k2+1+Zn bk+Zn bk⟩
def Z0a (l:List Int)(h:DnH)(d:DnS):DnS:=
 if d.n.ro=3 then
  let lg:=Yy d.n.tm d.n.log (Z4 l d.k 4)
  let cm:Int:=if Z4 l (d.k+1) 2=0 then max 0 ((lg.length:Int)-2) else d.n.cm
  let r:=Xh l h lg.length d.n.nw ⟨d.n.nx,d.n.mt,d.n.se,d.n.st,d.k+1+1⟩ h.sz
  ⟨{ d.n with log:=lg,cm:=cm,nx:=r.nx,mt:=r.mt,se:=r.se,st:=r.st },r.k⟩
 else d
def dnD (l:List Int)(k n:Nat):DnS:=
 let s:=stD l k n
 let h:=dnH l s.2.2.2
 Z0a l h (J1 l h (Jn l h s.1 (Z07 l (Jo l h.el (Ja l h.el (J8 l (dn0 l k n)))))))
def J9:Array Value:=#[.int .i64 0,.int .i64 0,.int .i64 0,.int .i64 0,.int .i64 0,.int .i64 0,.int .i64 0,.int .i64 0,.int .i64 0,.int .i64 0,.int .i64 0,.int .i64 0,.slice none 0 0,.slice none 0 0,.slice none 0 0,.slice none 0 0,.slice none 0 0,.slice none 0 0]
structure NS (w0 w:World) (g:Nat) (v:Value) (l:List Int) (k b4 b5 b9:Nat) (S:Array Value) (n:Nd) (x:RV):Prop where
 dr:Dr w0 w g v l k [(b4,J9,36),(b5,S,104),(b9,ndC n x,36)]
 log:Zp w w0.heap.size x.vl n.log
 gr:Zg inC 1 3 w w0.heap.size x.vg n.gr
 nx:Zg inC 1 3 w w0.heap.size x.vn n.nx
 mt:Zg inC 1 3 w w0.heap.size x.vm n.mt
 se:Zg inC 1 3 w w0.heap.size x.vs n.se
 st:Zg inC 1 3 w w0.heap.size x.vt n.st
 ap:[x.vg,x.vn,x.vm,x.vs,x.vt].Pairwise Ya
section
variable {w0 w w':World} {g:Nat} {v:Value} {l:List Int} {k k' b4 b5 b9:Nat} {S:Array Value} {n n':Nd} {x:RV}
theorem NS.keep (h:NS w0 w g v l k b4 b5 b9 S n x)(hd:Dr w0 w' g v l k' [(b4,J9,36),(b5,S,104),(b9,ndC n x,36)])(hk:∀ q,w0.heap.size<=q->q<w.heap.size->w'.heap[q]? = w.heap[q]?):NS w0 w' g v l k' b4 b5 b9 S n x:=by
 have hg:∀ {v:Value} {l:List Int},Zg inC 1 3 w w0.heap.size v l->Zg inC 1 3 w' w0.heap.size v l:=fun ho=>ho.block fun q e=>hk q (ho.lts q e).1 (ho.lts q e).2
 exact ⟨hd,h.log.block fun q e=>hk q (World.ownsRow.lt h.log.2 q e).1 (World.ownsRow.lt h.log.2 q e).2,hg h.gr,hg h.nx,hg h.mt,hg h.se,hg h.st,h.ap⟩
theorem NS.call (h:NS w0 w g v l k b4 b5 b9 S n x)(hs:Src w' g v l k')(hg:w.grownBy w' (some g)):NS w0 w' g v l k' b4 b5 b9 S n x:=
 h.keep (h.dr.call hs hg) fun q h1 h2=>hg.block q h2 (fun e=>by injection e with e;have:=h.dr.gl;omega)
theorem NS.below (h:NS w0 w g v l k b4 b5 b9 S n x)(hb:Below w.heap.size w w'):NS w0 w' g v l k b4 b5 b9 S n x:=
 h.keep (h.dr.below hb) fun q _ h2=>hb.block q h2
theorem NS.drew (h:NS w0 w g v l k b4 b5 b9 S n x):NS w0 w.drew g v l k b4 b5 b9 S n x:=h.below (Below.refl _ _).drew
theorem NS.pick (h:NS w0 w g v l k b4 b5 b9 S n x)(m:Nat)(hL:l.length<=1048576)(hk:k<=900000000)(hm:0<m)(hM:m<=4294967296) :
  Calls Tryz.prog 53 #[.pointer (some ⟨g,0,none⟩),.int .i64 m] w fun e w'=>e=.returned (.int .i64 (Z4 l k m:Nat))/\NS w0 w' g v l (k+Zn m) b4 b5 b9 S n x:=
 (Zq g w v l k m hL hk hm hM h.dr.src).mono fun e w' ⟨h1,h2,h3⟩=>⟨h1,h.call h2 h3⟩
theorem NS.nodeB (h:NS w0 w g v l k b4 b5 b9 S n x):Blk w b9 (ndC n x) 36:=h.dr.blk 2 rfl
theorem NS.stB5 (h:NS w0 w g v l k b4 b5 b9 S n x):Blk w b5 S 104:=h.dr.blk 1 rfl
theorem NS.resB (h:NS w0 w g v l k b4 b5 b9 S n x):Blk w b4 J9 36:=h.dr.blk 0 rfl
theorem NS.set (h:NS w0 w g v l k b4 b5 b9 S n x)(j:Nat)(hj:j<12)(y:Int)(hc:(ndC n x).setIfInBounds j (.int .i64 y)=ndC n' x)
  (e1:n'.log=n.log) (e2:n'.gr=n.gr) (e3:n'.nx=n.nx) (e4:n'.mt=n.mt) (e5:n'.se=n.se) (e6:n'.st=n.st):NS w0 (w.setCell ⟨b9,j,none⟩ (.int .i64 y)) g v l k b4 b5 b9 S n' x:=by
 have hd:=h.dr.set 2 rfl j (by show j<18;omega) (.int .i64 y) rfl;rw [hc] at hd;have hq:∀ q,q≠b9->(w.setCell ⟨b9,j,none⟩ (.int .i64 y)).heap[q]? = w.heap[q]?:=fun q hq=>Below.heap_setCell _ _ _ _ hq
 have hg:∀ {v:Value} {l:List Int},Zg inC 1 3 w w0.heap.size v l->Zg inC 1 3 (w.setCell ⟨b9,j,none⟩ (.int .i64 y)) w0.heap.size v l:=fun ho=>ho.block fun q e=>hq q (Zu ho h.nodeB (by decide) q e)
 exact ⟨hd,by rw [e1];exact h.log.block fun q e=>hq q (Ym h.log h.nodeB (by decide) q e),by rw [e2];exact hg h.gr,by rw [e3];exact hg h.nx,by rw [e4];exact hg h.mt,by rw [e5];exact hg h.se,by rw [e6];exact hg h.st,h.ap⟩
end
theorem bit0 {n j:Nat} : (Array.replicate n false).getD j false=false:=by
 cases h:(Array.replicate n false).getD j false with
 | false=>rfl
 | true=>exact (Zt h).elim
theorem Y4 {L:Array Bool}{i j:Nat}(hi:i<L.size)(hne:j≠i):(L.setIfInBounds i true).getD j false=L.getD j false:=by
 rw [Z0t L i j hi];simp [hne]
def St3 (P0 P1 P2:World->Prop):Bool->Bool->World->Prop
 | false,false=>P0
 | false,true=>fun _=>False
 | true,false=>P1
 | true,true=>P2
theorem St3.any {P0 P1 P2 P:World->Prop}(h0:∀ w,P0 w->P w)(h1:∀ w,P1 w->P w)(h2:∀ w,P2 w->P w):∀ {a b:Bool} {w:World},St3 P0 P1 P2 a b w->P w
 | false,false,w,h=>h0 w h
 | false,true,w,h=>h.elim
 | true,false,w,h=>h1 w h
 | true,true,w,h=>h2 w h
theorem St3.fst {P0 P1 P2:World->Prop} : ∀ {b:Bool} {w:World},St3 P0 P1 P2 false b w->b=false/\P0 w
 | false,w,h=>⟨rfl,h⟩
 | true,w,h=>h.elim
theorem stD_v (l:List Int)(k n:Nat):0<=(stD l k n).2.1/\(stD l k n).2.1<=7:=by
 unfold stD;split
 ·dsimp only;omega
 ·have:=Zi l ((stE l k n).2.1+1+1) 8 (by omega)
  dsimp only;omega
theorem stD_k (l:List Int)(k n:Nat):(stD l k n).2.2.2<=k+16*n+6:=by
 unfold stD;split
 ·show k+1<=_
  omega
 ·have h1:=entsD_k l (k+1+1+1) (1+((Z4 l (k+1+1) 3:Nat):Int)) (Z4 l (k+1) (n+1))
  have h2:=Zi l (k+1) (n+1) (by omega);show (stE l k n).2.1+1+1+1<=_;unfold stE;omega
theorem stD_len (l:List Int)(k n:Nat):(stD l k n).2.2.1.length<=n:=by
 unfold stD;split
 ·simp
 ·have:=Zi l (k+1) (n+1) (by omega)
  show (stE l k n).1.length<=n;unfold stE;rw [Z0d];omega
def stC (T V:Int)(a:Option Addr)(N c:Nat):Array Value:=#[.int .i64 T,.int .i64 V,.slice a N c]
structure DL (w0 w:World) (g:Nat) (v:Value) (l:List Int) (k:Nat) (F:List (Nat×Array Value×TypeId)) (u:Value) (lg:List Ent):Prop where
 dr:Dr w0 w g v l k F
 log:Zp w w0.heap.size u lg
section
variable {w0 w w':World} {g:Nat} {v:Value} {l:List Int} {k k':Nat} {F:List (Nat×Array Value×TypeId)} {u:Value} {lg:List Ent}
theorem DL.call (h:DL w0 w g v l k F u lg)(hs:Src w' g v l k')(hg:w.grownBy w' (some g)):DL w0 w' g v l k' F u lg:=
 ⟨h.dr.call hs hg,h.log.block fun q e=>hg.block q (World.ownsRow.lt h.log.2 q e).2 (fun e'=>by injection e' with e';have h1:=(World.ownsRow.lt h.log.2 q e).1;have:=h.dr.gl;omega)⟩
theorem DL.pick (h:DL w0 w g v l k F u lg)(m:Nat)(hL:l.length<=1048576)(hk:k<=900000000)(hm:0<m)(hM:m<=256) :
  Calls Tryz.prog 53 #[.pointer (some ⟨g,0,none⟩),.int .i64 m] w fun e w'=>e=.returned (.int .i64 (Z4 l k m:Nat))/\DL w0 w' g v l (k+1) F u lg:=
 (Zq g w v l k m hL hk hm (by omega) h.dr.src).mono fun e w' ⟨h1,h2,h3⟩=>⟨h1,by have h9:=h.call h2 h3;rwa [show Zn m=1 by unfold Zn;rw [if_pos hM]] at h9⟩
theorem DL.pickG {w0 w:World}{g:Nat}{v:Value}{l:List Int}{k:Nat}{F:List (Nat×Array Value×TypeId)}{u:Value}{lg:List Ent}(h:DL w0 w g v l k F u lg)(m:Nat)(hL:l.length<=1048576)(hk:k<=900000000)(hm:0<m)(hM:m<=4294967296) :
  Calls Tryz.prog 53 #[.pointer (some ⟨g,0,none⟩),.int .i64 m] w fun e w'=>e=.returned (.int .i64 (Z4 l k m:Nat))/\DL w0 w' g v l (k+Zn m) F u lg/\w.grownBy w' (some g):=
 (Zq g w v l k m hL hk hm hM h.dr.src).mono fun e w' ⟨h1,h2,h3⟩=>⟨h1,h.call h2 h3,h3⟩
theorem DL.nextG {w0 w:World}{g:Nat}{v:Value}{l:List Int}{k:Nat}{F:List (Nat×Array Value×TypeId)}{u:Value}{lg:List Ent}(h:DL w0 w g v l k F u lg)(hL:l.length<=1048576)(hk:k<=900000000) :
  Calls Tryz.prog 93 #[.pointer (some ⟨g,0,none⟩)] w fun e w'=>e=.returned (.int .i64 (Yk l k))/\DL w0 w' g v l (k+1) F u lg/\w.grownBy w' (some g):=
 (Xm g w v l k hL (by omega) h.dr.src).mono fun e w' ⟨h1,h2,h3⟩=>⟨h1,h.call h2 h3,h3⟩
theorem DL.below {w0 w w':World}{g:Nat}{v:Value}{l:List Int}{k:Nat}{F:List (Nat×Array Value×TypeId)}{u:Value}{lg:List Ent}(h:DL w0 w g v l k F u lg)(hb:Below w.heap.size w w'):DL w0 w' g v l k F u lg:=⟨h.dr.below hb,h.log.below hb⟩
theorem DL.rowP {w0 w:World}{g:Nat}{v:Value}{l:List Int}{k B p:Nat}{F:List (Nat×Array Value×TypeId)}{u:Value}{lg:List Ent}{C:Array Value}(h:DL w0 w g v l k F u lg)(hp:Blk w p C 36)(hB:w0.heap.size<=B)(hF:∀ x∈F,x.1<B)(hpB:B<=p)(C':Array Value):DL w0 (w.setRow p C') g v l k F u lg:=
 ⟨h.dr.belowB (X4 (Below.refl _ _) hpB _) hB hF,h.log.block fun q e=>setRow_other w p q C' (Ym h.log hp (by decide) q e)⟩
theorem Z23 (w:World)(p:Nat)(C:Array Value):(w.setRow p C).heap.size=w.heap.size:=by simp [World.setRow]
theorem St3.tq {P0 P1 P2:World->Prop}{w w2:World}(h0:P0 w->P0 w2)(h1:P1 w->P1 w2)(h2:P2 w->P2 w2):∀ {a b:Bool},St3 P0 P1 P2 a b w->St3 P0 P1 P2 a b w2
 | false,false,h=>h0 h
 | false,true,h=>h
 | true,false,h=>h1 h
 | true,true,h=>h2 h
def rvZ (a:Option Addr)(N c:Nat):RV:=⟨.slice a N c,.slice none 0 0,.slice none 0 0,.slice none 0 0,.slice none 0 0,.slice none 0 0,.slice none 0 0,[]⟩
theorem newNode_d (id sz el bt t v dr:Int)(a:Option Addr)(cap:Nat)(lg:List Ent)(w:World)(hv:Es w (.slice a lg.length cap) lg)(hll:lg.length<=1048576)(hd1 : -(2^63)<=dr)(hd2:dr<2^63) :
  Calls Tryz.prog 63 #[.int .i64 id,.int .i64 sz,.int .i64 el,.int .i64 bt,.agg (stC t v a lg.length cap),.int .i64 dr] w fun e w'=>∃ b c,e=.returned (.agg (ndC (newN id sz el bt t v dr lg) (rvZ b (newN id sz el bt t v dr lg).log.length c)))/\Zp w' w.heap.size (.slice b (newN id sz el bt t v dr lg).log.length c) (newN id sz el bt t v dr lg).log/\Below w.heap.size w w':=by
 refine (sNewNode_any id sz el bt t v dr a cap lg w hv hll hd1 hd2).mono fun e w' h=>?_
 unfold NewAt at h;unfold newN;cases hn:newB id sz el bt t v lg
 ·rw [hn] at h
  simp only [Bool.false_eq_true,if_false] at h ⊢;exact ⟨none,0,h.1,Zp.nil _ _,h.2⟩
 ·rw [hn] at h
  simp only [if_true] at h ⊢;obtain ⟨b,c,h1,h2,h3⟩:=h;exact ⟨b,c,h1,h2,h3⟩
theorem Dr.add {w0 w:World}{g:Nat}{v:Value}{l:List Int}{k:Nat}{F:List (Nat×Array Value×TypeId)}(h:Dr w0 w g v l k F){p:Nat}{C:Array Value}{t:TypeId}(hP:Blk w p C t)(hp:w0.heap.size<=p)(hn:NoU8 C)(hF:∀ x∈F,x.1≠p):Dr w0 w g v l k (F ++ [(p,C,t)]):=by
 refine ⟨h.grown,h.src,h.gl,h.bs0,fun i x e=>?_,fun i j x y ei ej e=>?_⟩
 ·rcases Nat.lt_or_ge i F.length with hi | hi
  ·rw [List.getElem?_append_left hi] at e;exact h.blks i x e
  ·rw [List.getElem?_append_right hi] at e
   rcases Nat.eq_zero_or_pos (i-F.length) with hz | hz
   ·rw [hz] at e;simp at e;subst e;exact ⟨hp,hP,hn⟩
   ·rw [List.getElem?_eq_none (by simp;omega)] at e;cases e
 ·have key:∀(i:Nat) x,(F ++ [(p,C,t)])[i]? = some x->(i<F.length/\F[i]? = some x/\x.1≠p)∨(i=F.length/\x.1=p):=fun i x e=>by
   rcases Nat.lt_or_ge i F.length with hi | hi
   ·rw [List.getElem?_append_left hi] at e;exact .inl ⟨hi,e,hF x (List.mem_of_getElem? e)⟩
   ·rw [List.getElem?_append_right hi] at e
    rcases Nat.eq_zero_or_pos (i-F.length) with hz | hz
    ·rw [hz] at e;simp at e;subst e;exact .inr ⟨by omega,rfl⟩
    ·rw [List.getElem?_eq_none (by simp;omega)] at e;cases e
  rcases key i x ei with ⟨a1,a2,a3⟩ | ⟨a1,a2⟩ <;> rcases key j y ej with ⟨b1,b2,b3⟩ | ⟨b1,b2⟩
  ·exact h.dis i j x y a2 b2 e
  ·exact absurd (e.trans b2) a3
  ·exact absurd (e.symm.trans a2) b3
  ·omega
theorem newN_nil (id sz el bt t v dr:Int)(lg:List Ent):(newN id sz el bt t v dr lg).gr = []/\(newN id sz el bt t v dr lg).nx = []/\(newN id sz el bt t v dr lg).mt = []/\(newN id sz el bt t v dr lg).se = []/\(newN id sz el bt t v dr lg).st = []:=by
 unfold newN;split <;> exact ⟨rfl,rfl,rfl,rfl,rfl⟩
theorem NS.of {w0 w:World}{g:Nat}{v:Value}{l:List Int}{k b4 b5 p:Nat}{S:Array Value}{N0:Nd}{b:Option Addr}{c:Nat}(h:Dr w0 w g v l k [(b4,J9,36),(b5,S,104)])(hP:Blk w p (ndC N0 (rvZ b N0.log.length c)) 36)(hp:w0.heap.size<=p)(h4:b4≠p)(h5:b5≠p)(hO:Zp w w0.heap.size (.slice b N0.log.length c) N0.log)(hn:N0.gr = []/\N0.nx = []/\N0.mt = []/\N0.se = []/\N0.st = []):NS w0 w g v l k b4 b5 p S N0 (rvZ b N0.log.length c):=by
 obtain ⟨n1,n2,n3,n4,n5⟩:=hn;refine ⟨h.add hP hp (Yl rfl) (fun x hx=>?_),hO,by rw [n1];exact Zg.nil _ _ _ _ _,by rw [n2];exact Zg.nil _ _ _ _ _,by rw [n3];exact Zg.nil _ _ _ _ _,by rw [n4];exact Zg.nil _ _ _ _ _,by rw [n5];exact Zg.nil _ _ _ _ _,?_⟩
 ·simp only [List.mem_cons,List.not_mem_nil,or_false] at hx
  rcases hx with rfl | rfl
  ·exact h4
  ·exact h5
 ·have hz:∀ u:Value,Ya (.slice none 0 0) u:=fun u k e=>by cases e
  simp only [rvZ,List.pairwise_cons,List.mem_cons,List.not_mem_nil,or_false,forall_eq_or_imp,forall_eq,List.Pairwise.nil,and_true,false_imp_iff,implies_true];exact ⟨⟨hz _,hz _,hz _,hz _⟩,⟨hz _,hz _,hz _⟩,⟨hz _,hz _⟩,hz _⟩
theorem NS.pick1 {w0 w:World}{g:Nat}{v:Value}{l:List Int}{k b4 b5 b9:Nat}{S:Array Value}{n:Nd}{x:RV}(h:NS w0 w g v l k b4 b5 b9 S n x)(m:Nat)(hL:l.length<=1048576)(hk:k<=900000000)(hm:0<m)(hM:m<=256) :
  Calls Tryz.prog 53 #[.pointer (some ⟨g,0,none⟩),.int .i64 m] w fun e w'=>e=.returned (.int .i64 (Z4 l k m:Nat))/\NS w0 w' g v l (k+1) b4 b5 b9 S n x:=
 (h.pick m hL hk hm (by omega)).mono fun e w' ⟨h1,h2⟩=>⟨h1,by rwa [show Zn m=1 by unfold Zn;rw [if_pos hM]] at h2⟩
theorem wp_st1 {o:Oper}{a:Act}{w:World}{K:Act->World->Prop}{Q:Exit->Act->World->Prop}(y z:Operand)(ho:o.op=.store 3 y z){b i:Nat}{v u:Int}(hy:a.eval y=.pointer (some ⟨b,i,none⟩))(hz:a.eval z=.int .i64 v)(hc:w.cell? ⟨b,i,none⟩=some (.int .i64 u))(hf:w.frozen? ⟨b,i,none⟩=false)(hd:o.dst=none)(h:K a (w.setCell ⟨b,i,none⟩ (.int .i64 v))):o.wp Tryz.prog a w K Q:=by
 unfold Oper.wp execOp;simp only [ho,hy,hz];go_simp;exact h
theorem Z00 {P:Program}{c:Code}{Q:Exit->Act->World->Prop}{a:Act}{w:World}(Fa:Act->Prop)(R:Act->Act->World->Prop)(h:∀ a0,Fa a0->c.wp P (fun e a' w'=>e=Exit.normal/\R a0 a' w') a0 w)(hf:Fa a)(hq:∀ a' w',R a a' w'->Q Exit.normal a' w'):c.wp P Q a w:=wp_mono (h a hf) (by rintro e a' w' ⟨rfl,hr⟩;exact hq a' w' hr)
theorem DL.set5 {w0 w:World}{g:Nat}{v:Value}{l:List Int}{k b4 b5:Nat}{C4:Array Value}{T V:Int}{a:Option Addr}{N c:Nat}{u:Value}{lg:List Ent}(h:DL w0 w g v l k [(b4,C4,36),(b5,stC T V a N c,104)] u lg)(V2:Int):DL w0 (w.setCell ⟨b5,1,none⟩ (.int .i64 V2)) g v l k [(b4,C4,36),(b5,stC T V2 a N c,104)] u lg:=
 ⟨h.dr.set 1 rfl 1 (by show 1<3;omega) (.int .i64 V2) rfl,h.log.block fun q e=>Below.heap_setCell _ _ _ _ (Ym h.log (h.dr.blk 1 rfl) (by decide) q e)⟩
end
def Z2:Nat->Code->Code
 | 0,.seq a _=>a
 | n+1,.seq _ b=>Z2 n b
 | _,c=>c
def Z1:Nat->Code->Code
 | 0,c=>c
 | n+1,.seq _ b=>Z1 n b
 | _,c=>c
def Z9 (f:Func):Code:=f.body.getD .skip
def Zo:Code->Code
 | .cond _ a _=>a
 | c=>c
def Zf:Code->Code
 | .block _ c=>c
 | c=>c
def Zy:Code->Code
 | .loop c=>c
 | c=>c
def lst (t:Nat->Value):Nat->Nat->List Value
 | _,0=>[]
 | i,n+1=>t i :: lst t (i+1) n
theorem lst_eq (t:Nat->Value):∀(L:List Value) (i:Nat),(∀ j,j<L.length->L[j]? = some (t (i+j)))->L=lst t i L.length
 | [],i,_=>rfl
 | x :: L,i,h=>by
  have h0:=h 0 (by simp);simp at h0;subst h0
  have h1:=lst_eq t L (i+1) (fun j hj=>by
   have:=h (j+1) (by simp;omega);simp only [List.getElem?_cons_succ] at this;rw [this];congr 2;omega)
  show _=t i :: lst t (i+1) L.length;rw [<-h1]
theorem lst_of (L:List Value)(n:Nat)(hn:L.length=n):L=lst (fun i=>L.getD i undef) 0 n:=by
 subst hn;refine lst_eq _ L 0 (fun j hj=>?_);rw [List.getElem?_eq_getElem hj];simp [List.getD,hj]
structure DC where
 w0:World
 g:Nat
 v:Value
 l:List Int
 b4:Nat
 b5:Nat
 b9:Nat
 T:Int
 V:Int
 ea:Option Addr
 LN:Nat
 ec:Nat
 SZ:Nat
 EL:Nat
 ID:Nat
structure DC.Ok (c:DC):Prop where
 hL:c.l.length<=1048576
 sz:3<=c.SZ/\c.SZ<=7
 el:2<=c.EL/\c.EL<=1000
 id:1<=c.ID/\c.ID<=c.SZ
def DC.S (c:DC):Array Value:=stC c.T c.V c.ea c.LN c.ec
def DC.N (c:DC)(w:World)(d:DnS)(x:RV):Prop:=NS c.w0 w c.g c.v c.l d.k c.b4 c.b5 c.b9 c.S d.n x
def DC.h (c:DC):DnH:=⟨c.SZ,c.EL,c.ID,0⟩
structure DC.Fr (c:DC) (a:Act):Prop where
 sz:a.tmps.size=297
 df:a.defers = []
 e0:a.eval (.tmp 0)=.pointer (some ⟨c.g,0,none⟩)
 e4:a.eval (.tmp 4)=.pointer (some ⟨c.b4,0,none⟩)
 e5:a.eval (.tmp 5)=.pointer (some ⟨c.b5,0,none⟩)
 e6:a.eval (.tmp 6)=.int .i64 (c.SZ:Int)
 e7:a.eval (.tmp 7)=.int .i64 (c.EL:Int)
 e8:a.eval (.tmp 8)=.int .i64 (c.ID:Int)
 e9:a.eval (.tmp 9)=.pointer (some ⟨c.b9,0,none⟩)
structure DB (d:DnS) (m:Nat):Prop where
 k:d.k<=m
 nw:0<=d.n.nw/\d.n.nw<=1099511627776
 lg:d.n.log.length<=200
 tm:0<=d.n.tm/\d.n.tm<=1099511627776
section
variable {c:DC} {a:Act} {w w':World} {d:DnS} {x:RV}
theorem DC.Fr.frame (h:c.Fr a)(ds:List Nat)(y:Nat->Value)(hd:[0,4,5,6,7,8,9].all (fun s=>!ds.contains s)=true):c.Fr (frame a ds y):=by
 simp only [List.all_cons,List.all_nil,Bool.and_true,Bool.and_eq_true,Bool.not_eq_true'] at hd;obtain ⟨q0,q4,q5,q6,q7,q8,q9⟩:=hd;exact ⟨(Z39 a ds y).trans h.sz,h.df,(Zm a ds y 0 q0).trans h.e0,(Zm a ds y 4 q4).trans h.e4,(Zm a ds y 5 q5).trans h.e5,(Zm a ds y 6 q6).trans h.e6,(Zm a ds y 7 q7).trans h.e7,(Zm a ds y 8 q8).trans h.e8,(Zm a ds y 9 q9).trans h.e9⟩
theorem DC.Fr.opened (h:c.Fr a):∃ t:Nat->Value,a=⟨#[.pointer (some ⟨c.g,0,none⟩),t 1,t 2,t 3,.pointer (some ⟨c.b4,0,none⟩),.pointer (some ⟨c.b5,0,none⟩),.int .i64 (c.SZ:Int),.int .i64 (c.EL:Int),.int .i64 (c.ID:Int),.pointer (some ⟨c.b9,0,none⟩),t 10,t 11,t 12,t 13,t 14,t 15,t 16,t 17,t 18,t 19,t 20,t 21,t 22,t 23,t 24,t 25,t 26,t 27,t 28,t 29,t 30,t 31,t 32,t 33,t 34,t 35,t 36,t 37,t 38,t 39,t 40,t 41,t 42,t 43,t 44,t 45,t 46,t 47,t 48,t 49,t 50,t 51,t 52,t 53,t 54,t 55,t 56,t 57,t 58,t 59,t 60,t 61,t 62,t 63,t 64,t 65,t 66,t 67,t 68,t 69,t 70,t 71,t 72,t 73,t 74,t 75,t 76,t 77,t 78,t 79,t 80,t 81,t 82,t 83,t 84,t 85,t 86,t 87,t 88,t 89,t 90,t 91,t 92,t 93,t 94,t 95,t 96,t 97,t 98,t 99,t 100,t 101,t 102,t 103,t 104,t 105,t 106,t 107,t 108,t 109,t 110,t 111,t 112,t 113,t 114,t 115,t 116,t 117,t 118,t 119,t 120,t 121,t 122,t 123,t 124,t 125,t 126,t 127,t 128,t 129,t 130,t 131,t 132,t 133,t 134,t 135,t 136,t 137,t 138,t 139,t 140,t 141,t 142,t 143,t 144,t 145,t 146,t 147,t 148,t 149,t 150,t 151,t 152,t 153,t 154,t 155,t 156,t 157,t 158,t 159,t 160,t 161,t 162,t 163,t 164,t 165,t 166,t 167,t 168,t 169,t 170,t 171,t 172,t 173,t 174,t 175,t 176,t 177,t 178,t 179,t 180,t 181,t 182,t 183,t 184,t 185,t 186,t 187,t 188,t 189,t 190,t 191,t 192,t 193,t 194,t 195,t 196,t 197,t 198,t 199,t 200,t 201,t 202,t 203,t 204,t 205,t 206,t 207,t 208,t 209,t 210,t 211,t 212,t 213,t 214,t 215,t 216,t 217,t 218,t 219,t 220,t 221,t 222,t 223,t 224,t 225,t 226,t 227,t 228,t 229,t 230,t 231,t 232,t 233,t 234,t 235,t 236,t 237,t 238,t 239,t 240,t 241,t 242,t 243,t 244,t 245,t 246,t 247,t 248,t 249,t 250,t 251,t 252,t 253,t 254,t 255,t 256,t 257,t 258,t 259,t 260,t 261,t 262,t 263,t 264,t 265,t 266,t 267,t 268,t 269,t 270,t 271,t 272,t 273,t 274,t 275,t 276,t 277,t 278,t 279,t 280,t 281,t 282,t 283,t 284,t 285,t 286,t 287,t 288,t 289,t 290,t 291,t 292,t 293,t 294,t 295,t 296],[]⟩:=by
 obtain ⟨⟨L⟩,df⟩:=a;have hd:df = []:=h.df;subst hd;have hs:L.length=297:=h.sz;have e1:=lst_of L 297 hs;have h0:L.getD 0 undef=.pointer (some ⟨c.g,0,none⟩):=by have:=h.e0;simpa [Act.eval] using this
 have h4:L.getD 4 undef=.pointer (some ⟨c.b4,0,none⟩):=by have:=h.e4;simpa [Act.eval] using this
 have h5:L.getD 5 undef=.pointer (some ⟨c.b5,0,none⟩):=by have:=h.e5;simpa [Act.eval] using this
 have h6:L.getD 6 undef=.int .i64 (c.SZ:Int):=by have:=h.e6;simpa [Act.eval] using this
 have h7:L.getD 7 undef=.int .i64 (c.EL:Int):=by have:=h.e7;simpa [Act.eval] using this
 have h8:L.getD 8 undef=.int .i64 (c.ID:Int):=by have:=h.e8;simpa [Act.eval] using this
 have h9:L.getD 9 undef=.pointer (some ⟨c.b9,0,none⟩):=by have:=h.e9;simpa [Act.eval] using this
 obtain ⟨t,ht⟩:∃ t:Nat->Value,t=fun i=>L.getD i undef:=⟨_,rfl⟩
 rw [<-ht] at e1;replace h0:t 0=.pointer (some ⟨c.g,0,none⟩):=by rw [ht];exact h0
 replace h4:t 4=.pointer (some ⟨c.b4,0,none⟩):=by rw [ht];exact h4
 replace h5:t 5=.pointer (some ⟨c.b5,0,none⟩):=by rw [ht];exact h5
 replace h6:t 6=.int .i64 (c.SZ:Int):=by rw [ht];exact h6
 replace h7:t 7=.int .i64 (c.EL:Int):=by rw [ht];exact h7
 replace h8:t 8=.int .i64 (c.ID:Int):=by rw [ht];exact h8
 replace h9:t 9=.pointer (some ⟨c.b9,0,none⟩):=by rw [ht];exact h9
 refine ⟨t,?_⟩;have e2:lst t 0 297 = [t 0,t 1,t 2,t 3,t 4,t 5,t 6,t 7,t 8,t 9,t 10,t 11,t 12,t 13,t 14,t 15,t 16,t 17,t 18,t 19,t 20,t 21,t 22,t 23,t 24,t 25,t 26,t 27,t 28,t 29,t 30,t 31,t 32,t 33,t 34,t 35,t 36,t 37,t 38,t 39,t 40,t 41,t 42,t 43,t 44,t 45,t 46,t 47,t 48,t 49,t 50,t 51,t 52,t 53,t 54,t 55,t 56,t 57,t 58,t 59,t 60,t 61,t 62,t 63,t 64,t 65,t 66,t 67,t 68,t 69,t 70,t 71,t 72,t 73,t 74,t 75,t 76,t 77,t 78,t 79,t 80,t 81,t 82,t 83,t 84,t 85,t 86,t 87,t 88,t 89,t 90,t 91,t 92,t 93,t 94,t 95,t 96,t 97,t 98,t 99,t 100,t 101,t 102,t 103,t 104,t 105,t 106,t 107,t 108,t 109,t 110,t 111,t 112,t 113,t 114,t 115,t 116,t 117,t 118,t 119,t 120,t 121,t 122,t 123,t 124,t 125,t 126,t 127,t 128,t 129,t 130,t 131,t 132,t 133,t 134,t 135,t 136,t 137,t 138,t 139,t 140,t 141,t 142,t 143,t 144,t 145,t 146,t 147,t 148,t 149,t 150,t 151,t 152,t 153,t 154,t 155,t 156,t 157,t 158,t 159,t 160,t 161,t 162,t 163,t 164,t 165,t 166,t 167,t 168,t 169,t 170,t 171,t 172,t 173,t 174,t 175,t 176,t 177,t 178,t 179,t 180,t 181,t 182,t 183,t 184,t 185,t 186,t 187,t 188,t 189,t 190,t 191,t 192,t 193,t 194,t 195,t 196,t 197,t 198,t 199,t 200,t 201,t 202,t 203,t 204,t 205,t 206,t 207,t 208,t 209,t 210,t 211,t 212,t 213,t 214,t 215,t 216,t 217,t 218,t 219,t 220,t 221,t 222,t 223,t 224,t 225,t 226,t 227,t 228,t 229,t 230,t 231,t 232,t 233,t 234,t 235,t 236,t 237,t 238,t 239,t 240,t 241,t 242,t 243,t 244,t 245,t 246,t 247,t 248,t 249,t 250,t 251,t 252,t 253,t 254,t 255,t 256,t 257,t 258,t 259,t 260,t 261,t 262,t 263,t 264,t 265,t 266,t 267,t 268,t 269,t 270,t 271,t 272,t 273,t 274,t 275,t 276,t 277,t 278,t 279,t 280,t 281,t 282,t 283,t 284,t 285,t 286,t 287,t 288,t 289,t 290,t 291,t 292,t 293,t 294,t 295,t 296]:=rfl;rw [e2] at e1;rw [h0,h4,h5,h6,h7,h8,h9] at e1;rw [e1]
theorem beq0 (p:Nat):((p:Int) == 0)=decide (p=0):=by
 by_cases h:p=0
 ·subst h;rfl
 ·have:¬(p:Int)=0:=by omega
  simp [h,this]
theorem DB.step {m:Nat}(h:DB d m){d':DnS}(q:Nat)(hk:d'.k<=d.k+q)(h1:d'.n.nw=d.n.nw)(h2:d'.n.log.length=d.n.log.length)(h3:d'.n.tm=d.n.tm):DB d' (m+q):=⟨by have:=h.k;omega,by rw [h1];exact h.nw,by rw [h2];exact h.lg,by rw [h3];exact h.tm⟩
theorem eval_c (a:Act)(v:Value):a.eval (.const v)=v:=rfl
theorem DC.N.drew (h:c.N w d x):c.N w.drew d x:=NS.drew h
theorem DC.N.pick (h:c.N w d x)(hc:c.Ok)(m:Nat)(hk:d.k<=900000000)(hm:0<m)(hM:m<=4294967296) :
  Calls Tryz.prog 53 #[.pointer (some ⟨c.g,0,none⟩),.int .i64 m] w fun e w'=>e=.returned (.int .i64 (Z4 c.l d.k m:Nat))/\c.N w' ⟨d.n,d.k+Zn m⟩ x:=
 (NS.pick h m hc.hL hk hm hM).mono fun e w' h=>h
theorem DC.N.pick1 (h:c.N w d x)(hc:c.Ok)(m:Nat)(hk:d.k<=900000000)(hm:0<m)(hM:m<=256) :
  Calls Tryz.prog 53 #[.pointer (some ⟨c.g,0,none⟩),.int .i64 m] w fun e w'=>e=.returned (.int .i64 (Z4 c.l d.k m:Nat))/\c.N w' ⟨d.n,d.k+1⟩ x:=
 (NS.pick1 h m hc.hL hk hm hM).mono fun e w' h=>h
theorem DC.N.set (h:c.N w d x)(j:Nat)(hj:j<12)(y:Int){n':Nd}(hc:(ndC d.n x).setIfInBounds j (.int .i64 y)=ndC n' x)
  (e1:n'.log=d.n.log) (e2:n'.gr=d.n.gr) (e3:n'.nx=d.n.nx) (e4:n'.mt=d.n.mt) (e5:n'.se=d.n.se) (e6:n'.st=d.n.st):c.N (w.setCell ⟨c.b9,j,none⟩ (.int .i64 y)) ⟨n',d.k⟩ x:=NS.set h j hj y hc e1 e2 e3 e4 e5 e6
theorem DC.N.vl (h:c.N w d x):∃ a k,x.vl=.slice a d.n.log.length k:=(NS.log h).shape
theorem DC.N.blk (h:c.N w d x):Blk w c.b9 (ndC d.n x) 36:=NS.nodeB h
theorem DC.N.stb (h:c.N w d x):Blk w c.b5 c.S 104:=NS.stB5 h
theorem DC.N.res (h:c.N w d x):Blk w c.b4 J9 36:=NS.resB h
end
section
variable {w0 w w2 w3:World} {g:Nat} {v:Value} {l:List Int} {k b4 b5 b9:Nat} {S:Array Value} {n:Nd} {x:RV} {u:Value} {q:List Int}
theorem NS.grNew (h:NS w0 w g v l k b4 b5 b9 S n x)(h2:Below w.heap.size w w2)(ho:Zg inC 1 3 w3 w0.heap.size u q)(hg:Xa w2 x.vg w3 u) :
  Blk w3 b9 (ndC n x) 36/\NS w0 (w3.setCell ⟨b9,13,none⟩ u) g v l k b4 b5 b9 S { n with gr:=q } { x with vg:=u }:=by
 have hs2:=h2.size;have hno:∀ p,x.vg.ownBlock=some p->w0.heap.size<=p/\p<w.heap.size/\p≠b9:=fun p e=>⟨(h.gr.lts p e).1,(h.gr.lts p e).2,Zu h.gr h.nodeB (by decide) p e⟩
 have hk3:∀ p,p<w.heap.size->x.vg.ownBlock≠some p->w3.heap[p]? = w.heap[p]?:=fun p hp hne=>(hg.g.block p (by omega) (fun e=>hne e.symm)).trans (h2.block p hp)
 have hset:∀ p,p≠b9->(w3.setCell ⟨b9,13,none⟩ u).heap[p]? = w3.heap[p]?:=fun p hp=>Below.heap_setCell _ _ _ _ hp
 have hmv:∀ {α:Type} {cs:α->List Value} {m':Nat} {T:TypeId} {y:Value} {q:List α},T≠36->Zg cs m' T w w0.heap.size y q->Ya x.vg y->Zg cs m' T (w3.setCell ⟨b9,13,none⟩ u) w0.heap.size y q:=fun h1 ho' ha=>ho'.block fun p e=>(hset p (Zu ho' h.nodeB h1 p e)).trans (hk3 p (ho'.lts p e).2 fun e'=>ha p e' e)
 have hnb:∀ p,u.ownBlock=some p->p≠b9:=fun p e=>by
  rcases hg.at' with e' | ⟨r,e',hp⟩
  ·rw [e] at e';exact (hno p e'.symm).2.2
  ·rw [e] at e';cases e';have:=h.nodeB.lt;omega
 have hA:∀ {y:Value} {q':List Int},Zg inC 1 3 w w0.heap.size y q'->Ya x.vg y->Ya u y:=fun hu ha p e1 e2=>by
  rcases hg.at' with e' | ⟨r,e',hp⟩
  ·rw [e1] at e';exact ha p e'.symm e2
  ·rw [e1] at e';cases e';have:=(hu.lts _ e2).2;omega
 have hD:Dr w0 w3 g v l k [(b4,J9,36),(b5,S,104),(b9,ndC n x,36)]:=(h.dr.below h2).grew hg (fun p e=>(hno p e).1) fun y hy e=>by
  simp only [List.mem_cons,List.not_mem_nil,or_false] at hy;rcases hy with rfl | rfl | rfl
  ·exact Zu h.gr h.resB (by decide) _ e rfl
  ·exact Zu h.gr h.stB5 (by decide) _ e rfl
  ·exact (hno _ e).2.2 rfl
 have hu8:isU8 u=false:=by obtain ⟨a,c,rfl⟩:=ho.shape;rfl
 refine ⟨hD.blk 2 rfl,hD.set 2 rfl 13 (by show 13<18;omega) u hu8,Zg.e (hmv (by decide) h.log.g (J3 h.gr h.log.g (by decide))) h.log.1,ho.block fun p e=>hset p (hnb p e),hmv (by decide) h.nx (Zc h.ap 0 1 (by decide) rfl rfl),hmv (by decide) h.mt (Zc h.ap 0 2 (by decide) rfl rfl),hmv (by decide) h.se (Zc h.ap 0 3 (by decide) rfl rfl),hmv (by decide) h.st (Zc h.ap 0 4 (by decide) rfl rfl),pw5 ((hA h.nx (Zc h.ap 0 1 (by decide) rfl rfl))) ((hA h.mt (Zc h.ap 0 2 (by decide) rfl rfl))) ((hA h.se (Zc h.ap 0 3 (by decide) rfl rfl))) ((hA h.st (Zc h.ap 0 4 (by decide) rfl rfl))) ((Zc h.ap 1 2 (by decide) rfl rfl)) ((Zc h.ap 1 3 (by decide) rfl rfl)) ((Zc h.ap 1 4 (by decide) rfl rfl)) ((Zc h.ap 2 3 (by decide) rfl rfl)) ((Zc h.ap 2 4 (by decide) rfl rfl)) ((Zc h.ap 3 4 (by decide) rfl rfl))⟩
theorem NS.nxNew (h:NS w0 w g v l k b4 b5 b9 S n x)(h2:Below w.heap.size w w2)(ho:Zg inC 1 3 w3 w0.heap.size u q)(hg:Xa w2 x.vn w3 u) :
  Blk w3 b9 (ndC n x) 36/\NS w0 (w3.setCell ⟨b9,14,none⟩ u) g v l k b4 b5 b9 S { n with nx:=q } { x with vn:=u }:=by
 have hs2:=h2.size;have hno:∀ p,x.vn.ownBlock=some p->w0.heap.size<=p/\p<w.heap.size/\p≠b9:=fun p e=>⟨(h.nx.lts p e).1,(h.nx.lts p e).2,Zu h.nx h.nodeB (by decide) p e⟩
 have hk3:∀ p,p<w.heap.size->x.vn.ownBlock≠some p->w3.heap[p]? = w.heap[p]?:=fun p hp hne=>(hg.g.block p (by omega) (fun e=>hne e.symm)).trans (h2.block p hp)
 have hset:∀ p,p≠b9->(w3.setCell ⟨b9,14,none⟩ u).heap[p]? = w3.heap[p]?:=fun p hp=>Below.heap_setCell _ _ _ _ hp
 have hmv:∀ {α:Type} {cs:α->List Value} {m':Nat} {T:TypeId} {y:Value} {q:List α},T≠36->Zg cs m' T w w0.heap.size y q->Ya x.vn y->Zg cs m' T (w3.setCell ⟨b9,14,none⟩ u) w0.heap.size y q:=fun h1 ho' ha=>ho'.block fun p e=>(hset p (Zu ho' h.nodeB h1 p e)).trans (hk3 p (ho'.lts p e).2 fun e'=>ha p e' e)
 have hnb:∀ p,u.ownBlock=some p->p≠b9:=fun p e=>by
  rcases hg.at' with e' | ⟨r,e',hp⟩
  ·rw [e] at e';exact (hno p e'.symm).2.2
  ·rw [e] at e';cases e';have:=h.nodeB.lt;omega
 have hA:∀ {y:Value} {q':List Int},Zg inC 1 3 w w0.heap.size y q'->Ya x.vn y->Ya u y:=fun hu ha p e1 e2=>by
  rcases hg.at' with e' | ⟨r,e',hp⟩
  ·rw [e1] at e';exact ha p e'.symm e2
  ·rw [e1] at e';cases e';have:=(hu.lts _ e2).2;omega
 have hD:Dr w0 w3 g v l k [(b4,J9,36),(b5,S,104),(b9,ndC n x,36)]:=(h.dr.below h2).grew hg (fun p e=>(hno p e).1) fun y hy e=>by
  simp only [List.mem_cons,List.not_mem_nil,or_false] at hy;rcases hy with rfl | rfl | rfl
  ·exact Zu h.nx h.resB (by decide) _ e rfl
  ·exact Zu h.nx h.stB5 (by decide) _ e rfl
  ·exact (hno _ e).2.2 rfl
 have hu8:isU8 u=false:=by obtain ⟨a,c,rfl⟩:=ho.shape;rfl
 refine ⟨hD.blk 2 rfl,hD.set 2 rfl 14 (by show 14<18;omega) u hu8,Zg.e (hmv (by decide) h.log.g (J3 h.nx h.log.g (by decide))) h.log.1,hmv (by decide) h.gr (Zc h.ap 0 1 (by decide) rfl rfl).symm,ho.block fun p e=>hset p (hnb p e),hmv (by decide) h.mt (Zc h.ap 1 2 (by decide) rfl rfl),hmv (by decide) h.se (Zc h.ap 1 3 (by decide) rfl rfl),hmv (by decide) h.st (Zc h.ap 1 4 (by decide) rfl rfl),pw5 ((hA h.gr (Zc h.ap 0 1 (by decide) rfl rfl).symm).symm) ((Zc h.ap 0 2 (by decide) rfl rfl)) ((Zc h.ap 0 3 (by decide) rfl rfl)) ((Zc h.ap 0 4 (by decide) rfl rfl)) ((hA h.mt (Zc h.ap 1 2 (by decide) rfl rfl))) ((hA h.se (Zc h.ap 1 3 (by decide) rfl rfl))) ((hA h.st (Zc h.ap 1 4 (by decide) rfl rfl))) ((Zc h.ap 2 3 (by decide) rfl rfl)) ((Zc h.ap 2 4 (by decide) rfl rfl)) ((Zc h.ap 3 4 (by decide) rfl rfl))⟩
theorem NS.mtNew (h:NS w0 w g v l k b4 b5 b9 S n x)(h2:Below w.heap.size w w2)(ho:Zg inC 1 3 w3 w0.heap.size u q)(hg:Xa w2 x.vm w3 u) :
  Blk w3 b9 (ndC n x) 36/\NS w0 (w3.setCell ⟨b9,15,none⟩ u) g v l k b4 b5 b9 S { n with mt:=q } { x with vm:=u }:=by
 have hs2:=h2.size;have hno:∀ p,x.vm.ownBlock=some p->w0.heap.size<=p/\p<w.heap.size/\p≠b9:=fun p e=>⟨(h.mt.lts p e).1,(h.mt.lts p e).2,Zu h.mt h.nodeB (by decide) p e⟩
 have hk3:∀ p,p<w.heap.size->x.vm.ownBlock≠some p->w3.heap[p]? = w.heap[p]?:=fun p hp hne=>(hg.g.block p (by omega) (fun e=>hne e.symm)).trans (h2.block p hp)
 have hset:∀ p,p≠b9->(w3.setCell ⟨b9,15,none⟩ u).heap[p]? = w3.heap[p]?:=fun p hp=>Below.heap_setCell _ _ _ _ hp
 have hmv:∀ {α:Type} {cs:α->List Value} {m':Nat} {T:TypeId} {y:Value} {q:List α},T≠36->Zg cs m' T w w0.heap.size y q->Ya x.vm y->Zg cs m' T (w3.setCell ⟨b9,15,none⟩ u) w0.heap.size y q:=fun h1 ho' ha=>ho'.block fun p e=>(hset p (Zu ho' h.nodeB h1 p e)).trans (hk3 p (ho'.lts p e).2 fun e'=>ha p e' e)
 have hnb:∀ p,u.ownBlock=some p->p≠b9:=fun p e=>by
  rcases hg.at' with e' | ⟨r,e',hp⟩
  ·rw [e] at e';exact (hno p e'.symm).2.2
  ·rw [e] at e';cases e';have:=h.nodeB.lt;omega
 have hA:∀ {y:Value} {q':List Int},Zg inC 1 3 w w0.heap.size y q'->Ya x.vm y->Ya u y:=fun hu ha p e1 e2=>by
  rcases hg.at' with e' | ⟨r,e',hp⟩
  ·rw [e1] at e';exact ha p e'.symm e2
  ·rw [e1] at e';cases e';have:=(hu.lts _ e2).2;omega
 have hD:Dr w0 w3 g v l k [(b4,J9,36),(b5,S,104),(b9,ndC n x,36)]:=(h.dr.below h2).grew hg (fun p e=>(hno p e).1) fun y hy e=>by
  simp only [List.mem_cons,List.not_mem_nil,or_false] at hy;rcases hy with rfl | rfl | rfl
  ·exact Zu h.mt h.resB (by decide) _ e rfl
  ·exact Zu h.mt h.stB5 (by decide) _ e rfl
  ·exact (hno _ e).2.2 rfl
 have hu8:isU8 u=false:=by obtain ⟨a,c,rfl⟩:=ho.shape;rfl
 refine ⟨hD.blk 2 rfl,hD.set 2 rfl 15 (by show 15<18;omega) u hu8,Zg.e (hmv (by decide) h.log.g (J3 h.mt h.log.g (by decide))) h.log.1,hmv (by decide) h.gr (Zc h.ap 0 2 (by decide) rfl rfl).symm,hmv (by decide) h.nx (Zc h.ap 1 2 (by decide) rfl rfl).symm,ho.block fun p e=>hset p (hnb p e),hmv (by decide) h.se (Zc h.ap 2 3 (by decide) rfl rfl),hmv (by decide) h.st (Zc h.ap 2 4 (by decide) rfl rfl),pw5 ((Zc h.ap 0 1 (by decide) rfl rfl)) ((hA h.gr (Zc h.ap 0 2 (by decide) rfl rfl).symm).symm) ((Zc h.ap 0 3 (by decide) rfl rfl)) ((Zc h.ap 0 4 (by decide) rfl rfl)) ((hA h.nx (Zc h.ap 1 2 (by decide) rfl rfl).symm).symm) ((Zc h.ap 1 3 (by decide) rfl rfl)) ((Zc h.ap 1 4 (by decide) rfl rfl)) ((hA h.se (Zc h.ap 2 3 (by decide) rfl rfl))) ((hA h.st (Zc h.ap 2 4 (by decide) rfl rfl))) ((Zc h.ap 3 4 (by decide) rfl rfl))⟩
theorem NS.seNew (h:NS w0 w g v l k b4 b5 b9 S n x)(h2:Below w.heap.size w w2)(ho:Zg inC 1 3 w3 w0.heap.size u q)(hg:Xa w2 x.vs w3 u) :
  Blk w3 b9 (ndC n x) 36/\NS w0 (w3.setCell ⟨b9,16,none⟩ u) g v l k b4 b5 b9 S { n with se:=q } { x with vs:=u }:=by
 have hs2:=h2.size;have hno:∀ p,x.vs.ownBlock=some p->w0.heap.size<=p/\p<w.heap.size/\p≠b9:=fun p e=>⟨(h.se.lts p e).1,(h.se.lts p e).2,Zu h.se h.nodeB (by decide) p e⟩
 have hk3:∀ p,p<w.heap.size->x.vs.ownBlock≠some p->w3.heap[p]? = w.heap[p]?:=fun p hp hne=>(hg.g.block p (by omega) (fun e=>hne e.symm)).trans (h2.block p hp)
 have hset:∀ p,p≠b9->(w3.setCell ⟨b9,16,none⟩ u).heap[p]? = w3.heap[p]?:=fun p hp=>Below.heap_setCell _ _ _ _ hp
 have hmv:∀ {α:Type} {cs:α->List Value} {m':Nat} {T:TypeId} {y:Value} {q:List α},T≠36->Zg cs m' T w w0.heap.size y q->Ya x.vs y->Zg cs m' T (w3.setCell ⟨b9,16,none⟩ u) w0.heap.size y q:=fun h1 ho' ha=>ho'.block fun p e=>(hset p (Zu ho' h.nodeB h1 p e)).trans (hk3 p (ho'.lts p e).2 fun e'=>ha p e' e)
 have hnb:∀ p,u.ownBlock=some p->p≠b9:=fun p e=>by
  rcases hg.at' with e' | ⟨r,e',hp⟩
  ·rw [e] at e';exact (hno p e'.symm).2.2
  ·rw [e] at e';cases e';have:=h.nodeB.lt;omega
 have hA:∀ {y:Value} {q':List Int},Zg inC 1 3 w w0.heap.size y q'->Ya x.vs y->Ya u y:=fun hu ha p e1 e2=>by
  rcases hg.at' with e' | ⟨r,e',hp⟩
  ·rw [e1] at e';exact ha p e'.symm e2
  ·rw [e1] at e';cases e';have:=(hu.lts _ e2).2;omega
 have hD:Dr w0 w3 g v l k [(b4,J9,36),(b5,S,104),(b9,ndC n x,36)]:=(h.dr.below h2).grew hg (fun p e=>(hno p e).1) fun y hy e=>by
  simp only [List.mem_cons,List.not_mem_nil,or_false] at hy;rcases hy with rfl | rfl | rfl
  ·exact Zu h.se h.resB (by decide) _ e rfl
  ·exact Zu h.se h.stB5 (by decide) _ e rfl
  ·exact (hno _ e).2.2 rfl
 have hu8:isU8 u=false:=by obtain ⟨a,c,rfl⟩:=ho.shape;rfl
 refine ⟨hD.blk 2 rfl,hD.set 2 rfl 16 (by show 16<18;omega) u hu8,Zg.e (hmv (by decide) h.log.g (J3 h.se h.log.g (by decide))) h.log.1,hmv (by decide) h.gr (Zc h.ap 0 3 (by decide) rfl rfl).symm,hmv (by decide) h.nx (Zc h.ap 1 3 (by decide) rfl rfl).symm,hmv (by decide) h.mt (Zc h.ap 2 3 (by decide) rfl rfl).symm,ho.block fun p e=>hset p (hnb p e),hmv (by decide) h.st (Zc h.ap 3 4 (by decide) rfl rfl),pw5 ((Zc h.ap 0 1 (by decide) rfl rfl)) ((Zc h.ap 0 2 (by decide) rfl rfl)) ((hA h.gr (Zc h.ap 0 3 (by decide) rfl rfl).symm).symm) ((Zc h.ap 0 4 (by decide) rfl rfl)) ((Zc h.ap 1 2 (by decide) rfl rfl)) ((hA h.nx (Zc h.ap 1 3 (by decide) rfl rfl).symm).symm) ((Zc h.ap 1 4 (by decide) rfl rfl)) ((hA h.mt (Zc h.ap 2 3 (by decide) rfl rfl).symm).symm) ((Zc h.ap 2 4 (by decide) rfl rfl)) ((hA h.st (Zc h.ap 3 4 (by decide) rfl rfl)))⟩
theorem NS.stNew (h:NS w0 w g v l k b4 b5 b9 S n x)(h2:Below w.heap.size w w2)(ho:Zg inC 1 3 w3 w0.heap.size u q)(hg:Xa w2 x.vt w3 u) :
  Blk w3 b9 (ndC n x) 36/\NS w0 (w3.setCell ⟨b9,17,none⟩ u) g v l k b4 b5 b9 S { n with st:=q } { x with vt:=u }:=by
 have hs2:=h2.size;have hno:∀ p,x.vt.ownBlock=some p->w0.heap.size<=p/\p<w.heap.size/\p≠b9:=fun p e=>⟨(h.st.lts p e).1,(h.st.lts p e).2,Zu h.st h.nodeB (by decide) p e⟩
 have hk3:∀ p,p<w.heap.size->x.vt.ownBlock≠some p->w3.heap[p]? = w.heap[p]?:=fun p hp hne=>(hg.g.block p (by omega) (fun e=>hne e.symm)).trans (h2.block p hp)
 have hset:∀ p,p≠b9->(w3.setCell ⟨b9,17,none⟩ u).heap[p]? = w3.heap[p]?:=fun p hp=>Below.heap_setCell _ _ _ _ hp
 have hmv:∀ {α:Type} {cs:α->List Value} {m':Nat} {T:TypeId} {y:Value} {q:List α},T≠36->Zg cs m' T w w0.heap.size y q->Ya x.vt y->Zg cs m' T (w3.setCell ⟨b9,17,none⟩ u) w0.heap.size y q:=fun h1 ho' ha=>ho'.block fun p e=>(hset p (Zu ho' h.nodeB h1 p e)).trans (hk3 p (ho'.lts p e).2 fun e'=>ha p e' e)
 have hnb:∀ p,u.ownBlock=some p->p≠b9:=fun p e=>by
  rcases hg.at' with e' | ⟨r,e',hp⟩
  ·rw [e] at e';exact (hno p e'.symm).2.2
  ·rw [e] at e';cases e';have:=h.nodeB.lt;omega
 have hA:∀ {y:Value} {q':List Int},Zg inC 1 3 w w0.heap.size y q'->Ya x.vt y->Ya u y:=fun hu ha p e1 e2=>by
  rcases hg.at' with e' | ⟨r,e',hp⟩
  ·rw [e1] at e';exact ha p e'.symm e2
  ·rw [e1] at e';cases e';have:=(hu.lts _ e2).2;omega
 have hD:Dr w0 w3 g v l k [(b4,J9,36),(b5,S,104),(b9,ndC n x,36)]:=(h.dr.below h2).grew hg (fun p e=>(hno p e).1) fun y hy e=>by
  simp only [List.mem_cons,List.not_mem_nil,or_false] at hy;rcases hy with rfl | rfl | rfl
  ·exact Zu h.st h.resB (by decide) _ e rfl
  ·exact Zu h.st h.stB5 (by decide) _ e rfl
  ·exact (hno _ e).2.2 rfl
 have hu8:isU8 u=false:=by obtain ⟨a,c,rfl⟩:=ho.shape;rfl
 refine ⟨hD.blk 2 rfl,hD.set 2 rfl 17 (by show 17<18;omega) u hu8,Zg.e (hmv (by decide) h.log.g (J3 h.st h.log.g (by decide))) h.log.1,hmv (by decide) h.gr (Zc h.ap 0 4 (by decide) rfl rfl).symm,hmv (by decide) h.nx (Zc h.ap 1 4 (by decide) rfl rfl).symm,hmv (by decide) h.mt (Zc h.ap 2 4 (by decide) rfl rfl).symm,hmv (by decide) h.se (Zc h.ap 3 4 (by decide) rfl rfl).symm,ho.block fun p e=>hset p (hnb p e),pw5 ((Zc h.ap 0 1 (by decide) rfl rfl)) ((Zc h.ap 0 2 (by decide) rfl rfl)) ((Zc h.ap 0 3 (by decide) rfl rfl)) ((hA h.gr (Zc h.ap 0 4 (by decide) rfl rfl).symm).symm) ((Zc h.ap 1 2 (by decide) rfl rfl)) ((Zc h.ap 1 3 (by decide) rfl rfl)) ((hA h.nx (Zc h.ap 1 4 (by decide) rfl rfl).symm).symm) ((Zc h.ap 2 3 (by decide) rfl rfl)) ((hA h.mt (Zc h.ap 2 4 (by decide) rfl rfl).symm).symm) ((hA h.se (Zc h.ap 3 4 (by decide) rfl rfl).symm).symm)⟩
theorem NS.logT (h:NS w0 w g v l k b4 b5 b9 S n x){p cp:Nat}(hv:x.vl=.slice (some ⟨p,0,none⟩) n.log.length cp)(i:Nat)(hi:i<n.log.length)(T:Int):NS w0 (w.setCell ⟨p,i*7,none⟩ (.int .i64 T)) g v l k b4 b5 b9 S { n with log:=n.log.set i (setTE T n.log[i]) } x:=by
 have hlog:=h.log;rw [hv] at hlog;have hp:x.vl.ownBlock=some p:=by rw [hv];rfl
 have hst:=(hlog.2.stored (i*7) (.int .i64 T)).2;have hset:∀ q,q≠p->(w.setCell ⟨p,i*7,none⟩ (.int .i64 T)).heap[q]? = w.heap[q]?:=fun q hq=>Below.heap_setCell _ _ _ _ hq
 have hD:=h.dr.grew (u:=.slice (some ⟨p,0,none⟩) n.log.length cp) (u':=.slice (some ⟨p,0,none⟩) n.log.length cp) ⟨hst,.inl rfl⟩ (fun q' hq'=>(hlog.2.lt q' hq').1) (fun y hy=>by
  simp only [List.mem_cons,List.not_mem_nil,or_false] at hy;rcases hy with rfl | rfl | rfl
  ·exact fun e=>Ym hlog h.resB (by decide) _ e rfl
  ·exact fun e=>Ym hlog h.stB5 (by decide) _ e rfl
  ·exact fun e=>Ym hlog h.nodeB (by decide) _ e rfl)
 have hmv:∀ {y:Value} {q:List Int},Zg inC 1 3 w w0.heap.size y q->Zg inC 1 3 (w.setCell ⟨p,i*7,none⟩ (.int .i64 T)) w0.heap.size y q:=fun ho=>ho.block fun q e=>hset q fun e'=>J3 ho h.log.g (by decide) q e (by rw [hp,e'])
 refine ⟨hD,?_,hmv h.gr,hmv h.nx,hmv h.mt,hmv h.se,hmv h.st,h.ap⟩;show Zp _ _ x.vl _;rw [hv];exact hlog.setT rfl i hi T
end
section
variable {c:DC} {w w2 w3:World} {d:DnS} {x:RV} {u:Value} {q:List Int}
theorem DC.N.grNew (h:c.N w d x)(h2:Below w.heap.size w w2)(ho:Zg inC 1 3 w3 c.w0.heap.size u q)(hg:Xa w2 x.vg w3 u):c.N (w3.setCell ⟨c.b9,13,none⟩ u) ⟨{ d.n with gr:=q },d.k⟩ { x with vg:=u }:=(NS.grNew h h2 ho hg).2
theorem DC.N.grBlk (h:c.N w d x)(h2:Below w.heap.size w w2)(ho:Zg inC 1 3 w3 c.w0.heap.size u q)(hg:Xa w2 x.vg w3 u):Blk w3 c.b9 (ndC d.n x) 36:=(NS.grNew h h2 ho hg).1
theorem DC.N.grOwn (h:c.N w d x):Zg inC 1 3 w c.w0.heap.size x.vg d.n.gr:=NS.gr h
theorem DC.N.nxNew (h:c.N w d x)(h2:Below w.heap.size w w2)(ho:Zg inC 1 3 w3 c.w0.heap.size u q)(hg:Xa w2 x.vn w3 u):c.N (w3.setCell ⟨c.b9,14,none⟩ u) ⟨{ d.n with nx:=q },d.k⟩ { x with vn:=u }:=(NS.nxNew h h2 ho hg).2
theorem DC.N.nxBlk (h:c.N w d x)(h2:Below w.heap.size w w2)(ho:Zg inC 1 3 w3 c.w0.heap.size u q)(hg:Xa w2 x.vn w3 u):Blk w3 c.b9 (ndC d.n x) 36:=(NS.nxNew h h2 ho hg).1
theorem DC.N.nxOwn (h:c.N w d x):Zg inC 1 3 w c.w0.heap.size x.vn d.n.nx:=NS.nx h
theorem DC.N.mtNew (h:c.N w d x)(h2:Below w.heap.size w w2)(ho:Zg inC 1 3 w3 c.w0.heap.size u q)(hg:Xa w2 x.vm w3 u):c.N (w3.setCell ⟨c.b9,15,none⟩ u) ⟨{ d.n with mt:=q },d.k⟩ { x with vm:=u }:=(NS.mtNew h h2 ho hg).2
theorem DC.N.mtBlk (h:c.N w d x)(h2:Below w.heap.size w w2)(ho:Zg inC 1 3 w3 c.w0.heap.size u q)(hg:Xa w2 x.vm w3 u):Blk w3 c.b9 (ndC d.n x) 36:=(NS.mtNew h h2 ho hg).1
theorem DC.N.mtOwn (h:c.N w d x):Zg inC 1 3 w c.w0.heap.size x.vm d.n.mt:=NS.mt h
theorem DC.N.seNew (h:c.N w d x)(h2:Below w.heap.size w w2)(ho:Zg inC 1 3 w3 c.w0.heap.size u q)(hg:Xa w2 x.vs w3 u):c.N (w3.setCell ⟨c.b9,16,none⟩ u) ⟨{ d.n with se:=q },d.k⟩ { x with vs:=u }:=(NS.seNew h h2 ho hg).2
theorem DC.N.seBlk (h:c.N w d x)(h2:Below w.heap.size w w2)(ho:Zg inC 1 3 w3 c.w0.heap.size u q)(hg:Xa w2 x.vs w3 u):Blk w3 c.b9 (ndC d.n x) 36:=(NS.seNew h h2 ho hg).1
theorem DC.N.seOwn (h:c.N w d x):Zg inC 1 3 w c.w0.heap.size x.vs d.n.se:=NS.se h
theorem DC.N.stNew (h:c.N w d x)(h2:Below w.heap.size w w2)(ho:Zg inC 1 3 w3 c.w0.heap.size u q)(hg:Xa w2 x.vt w3 u):c.N (w3.setCell ⟨c.b9,17,none⟩ u) ⟨{ d.n with st:=q },d.k⟩ { x with vt:=u }:=(NS.stNew h h2 ho hg).2
theorem DC.N.stBlk (h:c.N w d x)(h2:Below w.heap.size w w2)(ho:Zg inC 1 3 w3 c.w0.heap.size u q)(hg:Xa w2 x.vt w3 u):Blk w3 c.b9 (ndC d.n x) 36:=(NS.stNew h h2 ho hg).1
theorem DC.N.stOwn (h:c.N w d x):Zg inC 1 3 w c.w0.heap.size x.vt d.n.st:=NS.st h
theorem DC.N.logT (h:c.N w d x){p cp:Nat}(hv:x.vl=.slice (some ⟨p,0,none⟩) d.n.log.length cp)(i:Nat)(hi:i<d.n.log.length)(T:Int):c.N (w.setCell ⟨p,i*7,none⟩ (.int .i64 T)) ⟨{ d.n with log:=d.n.log.set i (setTE T d.n.log[i]) },d.k⟩ x:=NS.logT h hv i hi T
theorem DC.N.logOwn (h:c.N w d x):Zp w c.w0.heap.size x.vl d.n.log:=NS.log h
theorem DC.N.wsize (h:c.N w d x):c.w0.heap.size<=w.heap.size:=(NS.dr h).size
end
def SzD (a:Act)(n:Nat):Prop:=a.tmps.size=n/\a.defers = []
theorem SzD.opened {a:Act}{n:Nat}(h:SzD a n):∃ t:Nat->Value,a=⟨(lst t 0 n).toArray,[]⟩:=by
 obtain ⟨⟨L⟩,df⟩:=a;obtain ⟨h1,h2⟩:=h;have hd:df = []:=h2;subst hd;have hs:L.length=n:=h1;exact ⟨fun i=>L.getD i undef,by rw [<-lst_of L n hs]⟩
end Go.Proofs.YtmmpoppgabadmaaGreat
