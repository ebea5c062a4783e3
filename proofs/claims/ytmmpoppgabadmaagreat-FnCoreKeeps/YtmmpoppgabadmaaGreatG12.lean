import Derived.Test.YtmmpoppgabadmaaGreatG11
import Derived.Test.YtmmpoppgabadmaaGreatG04
import Derived.Deep.DeepCutAuto
import Derived.Deep.Light
import Derived.Deep.RegionLaw
import Derived.BigQuiet
set_option linter.unusedVariables false
set_option linter.unusedSimpArgs false
set_option maxRecDepth 100000
set_option maxHeartbeats 16000000
open Go.Value renaming slice → I,int → Aa,pointer → Ae,agg → Aw,string → Az,oneCell' → Bh
open Go.IntKind renaming i64 → O,wrap_i64 → Bl
open _root_.Option renaming none → Ab,some → Ac
open Go.Proofs.Tryz renaming prog → Ad
open Go renaming Value → Af,World → Ag,Calls → Ar,TypeId → Ax,wp_seq_k → A0,bodyPost_ret → A8,Act → Bn,Addr → B4,Exit → Ca
open Go.RowKit renaming Hid → Ah,Below → Ai
open Go.Ending renaming returned → Aj
open Go.RowKit.Below renaming heap_setCell → Ak,refl → An
open _root_.Bool renaming and_eq_true → Al
open Go.Calls renaming mono → Am
open _root_.Nat renaming le_refl → Ao,le_trans → Ap,lt_of_lt_of_le → Bk,lt_or_ge → B1
open Go.World.ownsRow renaming lt → Aq
open Go.Obj renaming cells → At
open Go.Operand renaming tmp → Ay
open Go.Act renaming eval → Bi
open _root_.List renaming map_toArray → Bm,getElem_mem → Bp,map_cons → Bq,not_mem_nil → Br,map_nil → Bu,getElem?_eq_none → Bv,mem_cons → B3
namespace Go.Proofs.YtmmpoppgabadmaaGreat
open Go.Proofs.Tryz
open Go.RowKit
section
theorem sizeCm:(Tryz.prog.info? 44).map (·.size)=Ac 6:=by kernel_rfl
theorem sizeSa:(Tryz.prog.info? 39).map (·.size)=Ac 21:=by kernel_rfl
variable {w:Ag}{b:Nat}{C:Array Af}
theorem Jh {t:Ax}(h:Blk w b C t)(a:Nat)(cs:List Af)(c:(C.toList.drop a).take cs.length=cs:=by rfl):w.rangeAt b a cs:=λj v hv=>by
 have d:=(List.getElem?_eq_some_iff.1 hv).1;rw [h.cell (a+j),<-hv,<-c,List.getElem?_take,if_pos d,List.getElem?_drop];simp
def Z8w (n:Nd)(dr ki:Int)(m:Mg)(cl sq op:Int)(k v o:ByteArray):Rn:=
 let r:Rn:=⟨n,[],0,0,dr⟩
 if ki=1 then r.tick else if ki=2 then r.message (decide (msB m≠0)) m else if ki=3 then r.propose (decide (Z13 cl sq op k.size v.size o.size≠0∨op=0)) cl sq op k v o else { r with code:=8 }
def saC (r:Rn)(x:RV):Array Af:=#[Aa O r.code,Aa O r.drew,Aa O r.n.id,Aa O r.n.sz,Aa O r.n.el,Aa O r.n.bt,Aa O r.n.tm,Aa O r.n.vo,Aa O r.n.ro,Aa O r.n.ld,Aa O r.n.cm,Aa O r.n.nw,Aa O r.n.dl,Aa O r.n.hd,x.vl,x.vg,x.vn,x.vm,x.vs,x.vt,x.vo]
variable {w':Ag}{B:Nat}{r:Rn}{x:RV}
theorem Ze.keepB (h:Ze w B b r x)(c:∀ k,B<=k->w'.heap[k]? = w.heap[k]?):Ze w' B b r x:=by
 have a:∀ {α:Type} {cs:α->List Af} {m:Nat} {T:Ax} {v:Af} {l:List α},Zc cs m T w B v l->Zc cs m T w' B v l:=λho=>ho.block λk e=>c k (ho.lts k e).1
 have d:∀ {v:Af} {l:List Ent},Zh w B v l->Zh w' B v l:=λho=>ho.block λk e=>c k (Aq ho.2 k e).1
 exact ⟨h.blk.keep (c b h.lo),h.lo,d h.log,a h.gr,a h.nx,a h.mt,a h.se,a h.st,a h.out,h.outC,λp hp=>d (h.ents p hp),h.ap⟩
theorem Ze.le {c:Nat}(h:Ze w B b r x)(a:c<=B):Ze w c b r x:=
 ⟨h.blk,Ap a h.lo,h.log.le a,h.gr.le a,h.nx.le a,h.mt.le a,h.se.le a,h.st.le a,h.out.le a,h.outC,λp hp=>(h.ents p hp).le a,h.ap⟩
theorem sizeRn:(Tryz.prog.info? 112).map (·.size)=Ac 22:=by kernel_rfl
structure CpU where
 v12:Af
 v13:Af
 v14:Af
 v15:Af
 v16:Af
 v17:Af
structure CpAt (w:Ag) (B:Nat) (n:Nd) (u:CpU):Prop where
 log:Zh w B u.v12 n.log
 gr:Zc inC 1 3 w B u.v13 n.gr
 nx:Zc inC 1 3 w B u.v14 n.nx
 mt:Zc inC 1 3 w B u.v15 n.mt
 se:Zc inC 1 3 w B u.v16 n.se
 st:Zc inC 1 3 w B u.v17 n.st
 ap:[u.v13,u.v14,u.v15,u.v16,u.v17].Pairwise Yd
variable {n:Nd}{u:CpU}
theorem CpAt.below (h:CpAt w B n u)(a:Ai w.heap.size w w'):CpAt w' B n u:=⟨h.log.below a,h.gr.below a,h.nx.below a,h.mt.below a,h.se.below a,h.st.below a,h.ap⟩
variable {p:Nat}
theorem CpAt.row (h:CpAt w B n u)(f:Blk w p C 112)(d:Array Af):CpAt (w.setRow p d) B n u:=by
 have c:=λk c=>setRow_other w p k d c
 have a:∀ {v:Af} {l:List Int},Zc inC 1 3 w B v l->Zc inC 1 3 (w.setRow p d) B v l:=λho=>ho.block λk e=>c k (Zm ho f (by decide) k e)
 exact ⟨h.log.block λk e=>c k (Y5 h.log f (by decide) k e),a h.gr,a h.nx,a h.mt,a h.se,a h.st,h.ap⟩
theorem CpAt.one (h:CpAt w B n u)(dr:Int):(#[Aa O n.id,Aa O n.sz,Aa O n.el,Aa O n.bt,Aa O n.tm,Aa O n.vo,Aa O n.ro,Aa O n.ld,Aa O n.cm,Aa O n.nw,Aa O n.dl,Aa O n.hd,u.v12,u.v13,u.v14,u.v15,u.v16,u.v17,I Ab 0 0,Aa O 0,Aa O 0,Aa O dr]).all (·.oneCell')=true:=by
 obtain ⟨c,k,e12⟩:=h.log.shape;obtain ⟨q,f,e13⟩:=h.gr.shape;obtain ⟨o,m,e14⟩:=h.nx.shape;obtain ⟨e,l,a⟩:=h.mt.shape;obtain ⟨g,j,e16⟩:=h.se.shape;obtain ⟨d,i,e17⟩:=h.st.shape;simp [Bh,e12,e13,e14,a,e16,e17]
theorem CpAt.run (h:CpAt w B n u)(dr:Int)(a:B<=p)(c:Blk w p #[Aa O n.id,Aa O n.sz,Aa O n.el,Aa O n.bt,Aa O n.tm,Aa O n.vo,Aa O n.ro,Aa O n.ld,Aa O n.cm,Aa O n.nw,Aa O n.dl,Aa O n.hd,u.v12,u.v13,u.v14,u.v15,u.v16,u.v17,I Ab 0 0,Aa O 0,Aa O 0,Aa O dr] 112):Ze w B p ⟨n,[],0,0,dr⟩ ⟨u.v12,u.v13,u.v14,u.v15,u.v16,u.v17,I Ab 0 0,[]⟩:=
 ⟨c,a,h.log,h.gr,h.nx,h.mt,h.se,h.st,Zc.nil _ _ _ _ _,rfl,λp a=>(by cases a),h.ap⟩
theorem Z87 (n:Nd)(m:Mg)(ki dr cl sq op:Int)(k v o:ByteArray)(a12 a13 a14 a15 a16 a17 ea:Option B4)(c12 c13 c14 c15 c16 c17 ec:Nat)(w:Ag)(h:NdAt w n (I a12 n.log.length c12) (I a13 n.gr.length c13) (I a14 n.nx.length c14) (I a15 n.mt.length c15) (I a16 n.se.length c16) (I a17 n.st.length c17))(hl:n.log.length<=4096)(b0:n.gr.length<=100000)(bn:n.nx.length<=100000)(b7:n.mt.length<=100000)(bc:n.se.length<=100000)(bv:n.st.length<=100000)(he:Es w (I ea m.es.length ec) m.es)(bq:∀ k,(Value.slice ea m.es.length ec).ownBlock=Ac k->k<w.heap.size)(bi:m.es.length<=1048576)(hb:NdB n)(hd : -(2^63)<=dr)(hD:dr<2^63)(av:0<=n.tm)(a5:n.tm<=1073741824)(ai:n.sz%2=1)(b8:n.gr.length<=1000)(ax:n.ro=3->LdM n n.sz.toNat)(ce:n.ro=3->LdT n n.sz.toNat)(a4:0<=n.cm)(hk:k.size<=maxLen)(hv:v.size<=maxLen)(ho:o.size<=maxLen) :
  Ar Ad 32 #[Aw (n.arrC (I a12 n.log.length c12) (I a13 n.gr.length c13) (I a14 n.nx.length c14) (I a15 n.mt.length c15) (I a16 n.se.length c16) (I a17 n.st.length c17)),Aw #[Aa O ki,Aa O dr,Aa O m.ki,Aa O m.fr,Aa O m.td,Aa O m.tm,Aa O m.li,Aa O m.lt,Aa O m.cm,Aa O m.ok,Aa O m.hi,I ea m.es.length ec,Aa O cl,Aa O sq,Aa O op,Az k,Az v,Az o]] w λe w'=>∃(b:Nat) (X:RV),e=Aj (Aw (saC (Z8w n dr ki m cl sq op k v o) X))/\Ze w' w.heap.size b (Z8w n dr ki m cl sq op k v o) X/\Ai w.heap.size w w':=by
 generalize hRP:Z8w n dr ki m cl sq op k v o=RP;have au:=Z0 hRP;clear hRP;obtain ⟨w0,t⟩:=exq (((w.alloc (At (n.arrC (I a12 n.log.length c12) (I a13 n.gr.length c13) (I a14 n.nx.length c14) (I a15 n.mt.length c15) (I a16 n.se.length c16) (I a17 n.st.length c17)) 36)).alloc (At #[Aa O ki,Aa O dr,Aa O m.ki,Aa O m.fr,Aa O m.td,Aa O m.tm,Aa O m.li,Aa O m.lt,Aa O m.cm,Aa O m.ok,Aa O m.hi,I ea m.es.length ec,Aa O cl,Aa O sq,Aa O op,Az k,Az v,Az o] 46)).alloc (At zAns 39));go_enter func32,ntmps32
 go_upto_region 1 with fail
 rw [<-t];have aj:Ah (Ai w.heap.size w w0):=by rw [t];exact (baq.alloc (by simp) _).alloc (by simp;omega) _
 have ar:Ah (Blk w0 w.heap.size (n.arrC (I a12 n.log.length c12) (I a13 n.gr.length c13) (I a14 n.nx.length c14) (I a15 n.mt.length c15) (I a16 n.se.length c16) (I a17 n.st.length c17)) 36):=by rw [t];exact ((Blk.new _ _ _).alloc _).alloc _
 have ak:Ah (Blk w0 (w.heap.size+1) #[Aa O ki,Aa O dr,Aa O m.ki,Aa O m.fr,Aa O m.td,Aa O m.tm,Aa O m.li,Aa O m.lt,Aa O m.cm,Aa O m.ok,Aa O m.hi,I ea m.es.length ec,Aa O cl,Aa O sq,Aa O op,Az k,Az v,Az o] 46):=by rw [t];exact (Blk.new' _ _ _).alloc _
 have a2:Ah (Blk w0 (w.heap.size+2) zAns 39):=by rw [t];exact Blk.new' _ _ _
 have cv:w0.heap.size=w.heap.size+3:=by rw [t];simp
 have a8:=Z0 λz (hz:Ai w0.heap.size w0 z)=>h.below (aj.trans (hz.mono (by omega)))
 clear t h
 go_cut [5] (λs wx=>∃(b:Nat) (u:CpU),s=Ae (Ac ⟨b,0,Ab⟩)/\Ze wx w0.heap.size b ⟨n,[],0,0,dr⟩ ⟨u.v12,u.v13,u.v14,u.v15,u.v16,u.v17,I Ab 0 0,[]⟩/\Ai w0.heap.size w0 wx)
 case first=>
  refine Z3q [Ac 6,Ac 7,Ac 8,Ac 9,Ac 10,Ac 5] [Vl (Aw (n.arrC (I a12 n.log.length c12) (I a13 n.gr.length c13) (I a14 n.nx.length c14) (I a15 n.mt.length c15) (I a16 n.se.length c16) (I a17 n.st.length c17))),λv9 W9=>∃ u:CpU,v9=Aw (n.arrC u.v12 u.v13 u.v14 u.v15 u.v16 u.v17)/\CpAt W9 w0.heap.size n u,Vl (Ae (Ac ⟨w.heap.size+1,1,Ab⟩)),Vl (Aa O dr),λv9 W9=>∃ u:CpU,v9=Aw #[Aa O n.id,Aa O n.sz,Aa O n.el,Aa O n.bt,Aa O n.tm,Aa O n.vo,Aa O n.ro,Aa O n.ld,Aa O n.cm,Aa O n.nw,Aa O n.dl,Aa O n.hd,u.v12,u.v13,u.v14,u.v15,u.v16,u.v17,I Ab 0 0,Aa O 0,Aa O 0,Aa O dr]/\CpAt W9 w0.heap.size n u,λv9 W9=>∃ q C,v9=Ae (Ac ⟨q,0,Ab⟩)/\w0.heap.size<=q/\Blk W9 q C 112/\C.size=22] (by kernel_rfl) rfl rfl rfl (by decide) (by decide) (Yk (X9 _) (Yk (λ_ _ _ hb h=>(let ⟨u,e1,e2⟩:=h;⟨u,e1,e2.below hb⟩)) (Yk (X9 _) (Yk (X9 _) (Yk (λ_ _ _ hb h=>(let ⟨u,e1,e2⟩:=h;⟨u,e1,e2.below hb⟩)) (Yk (λ_ _ _ hb ⟨q,C,e1,e2,e3,e4⟩=>⟨q,C,e1,e2,e3.below hb e3.lt,e4⟩) sta_n)))))) (Zq (Zq (Zq (Zq (Zq (Zq lt_z (QO.load rfl rfl rfl rfl rfl (λa9 o9=>o9 2 (Ae (Ac ⟨w.heap.size,0,Ab⟩)) rfl rfl) ar.out underlying36 rfl Z0q rfl)) ?_) ?_) ?_) ?_) (QO.alloc 112 #[Aa O 0,Aa O 0,Aa O 0,Aa O 0,Aa O 0,Aa O 0,Aa O 0,Aa O 0,Aa O 0,Aa O 0,Aa O 0,Aa O 0,I Ab 0 0,I Ab 0 0,I Ab 0 0,I Ab 0 0,I Ab 0 0,I Ab 0 0,I Ab 0 0,Aa O 0,Aa O 0,Aa O 0] rfl rfl rfl rfl rfl (λ_=>by go_simp) λu9 b9=>⟨_,_,rfl,b9.size,Blk.new _ _ _,rfl⟩)) λa9 u9 n9 o9 s9 d9 b9=>?_
  ·refine QO.call (N:=64) rfl rfl rfl rfl rfl (λ_ _=>by go_simp) λa9 u9 n9 o9 b9=>?_
   have bg:Tv a9 6=_:=n9 0 _ _ rfl rfl rfl;simp only [Bm,Bq,Bu,bg];refine Am (Z8e n _ _ _ _ _ _ u9 (a8 u9 b9) hl b0 bn b7 bc bv) ?_;rintro e z ⟨bo,ca,bx,br,b6,bm,rfl,bw,bp,bb,cg,ba,cf,bh,hb⟩;exact ⟨hb,_,rfl,⟨⟨bo,ca,bx,br,b6,bm⟩,rfl,⟨bw.le b9.size,bp.le b9.size,bb.le b9.size,cg.le b9.size,ba.le b9.size,cf.le b9.size,bh⟩⟩⟩
  ·refine QO.val λa9 u9 n9 o9 b9=>?_
   have c7:=Zu (o9 3 (Ae (Ac ⟨w.heap.size+1,0,Ab⟩)) rfl rfl);go_simp
  ·refine QO.val λa9 u9 n9 o9 b9=>?_
   have da:u9.cell? ⟨w.heap.size+1,1,Ab⟩=Ac (Aa O dr):=(ak.out.below b9).cell 1;have c3:=Zu (n9 2 _ _ rfl rfl rfl);go_simp
  ·refine ⟨_,_,rfl,rfl,rfl,rfl,λa9 u9 K9 n9 o9 b9 k9=>?_⟩
   obtain ⟨c,e7,ah⟩:=n9 1 _ _ rfl rfl rfl;have cw:=Zu e7;have cj:=Zu (n9 3 _ _ rfl rfl rfl);refine Z0z (v:=Aw #[Aa O n.id,Aa O n.sz,Aa O n.el,Aa O n.bt,Aa O n.tm,Aa O n.vo,Aa O n.ro,Aa O n.ld,Aa O n.cm,Aa O n.nw,Aa O n.dl,Aa O n.hd,c.v12,c.v13,c.v14,c.v15,c.v16,c.v17,I Ab 0 0,Aa O 0,Aa O 0,Aa O dr]) ?_ (k9 _ _ (An _ _) ⟨c,rfl,ah⟩);go_simp
  ·obtain ⟨c,e1,ah⟩:=n9 4 _ _ (by decide) rfl rfl
   obtain ⟨q,C,e2,hq,hC,hz⟩:=n9 5 _ _ (by decide) rfl rfl;refine Zs rfl rfl (Z0a _ _ _ rfl q e2 e1 hC sizeRn rfl hz (ah.one dr) ?_);have a6:=ah.row hC #[Aa O n.id,Aa O n.sz,Aa O n.el,Aa O n.bt,Aa O n.tm,Aa O n.vo,Aa O n.ro,Aa O n.ld,Aa O n.cm,Aa O n.nw,Aa O n.dl,Aa O n.hd,c.v12,c.v13,c.v14,c.v15,c.v16,c.v17,I Ab 0 0,Aa O 0,Aa O 0,Aa O dr];have bz:=hC.row #[Aa O n.id,Aa O n.sz,Aa O n.el,Aa O n.bt,Aa O n.tm,Aa O n.vo,Aa O n.ro,Aa O n.ld,Aa O n.cm,Aa O n.nw,Aa O n.dl,Aa O n.hd,c.v12,c.v13,c.v14,c.v15,c.v16,c.v17,I Ab 0 0,Aa O 0,Aa O 0,Aa O dr];have cc:=Yz b9 hq #[Aa O n.id,Aa O n.sz,Aa O n.el,Aa O n.bt,Aa O n.tm,Aa O n.vo,Aa O n.ro,Aa O n.ld,Aa O n.cm,Aa O n.nw,Aa O n.dl,Aa O n.hd,c.v12,c.v13,c.v14,c.v15,c.v16,c.v17,I Ab 0 0,Aa O 0,Aa O 0,Aa O dr];obtain ⟨a,rfl⟩:=SzD.opened (n:=37) ⟨s9.trans rfl,d9.trans rfl⟩;rw [show lst a 0 37 = [a 0,a 1,a 2,a 3,a 4,a 5,a 6,a 7,a 8,a 9,a 10,a 11,a 12,a 13,a 14,a 15,a 16,a 17,a 18,a 19,a 20,a 21,a 22,a 23,a 24,a 25,a 26,a 27,a 28,a 29,a 30,a 31,a 32,a 33,a 34,a 35,a 36] from rfl]
   try dsimp only
   rw [show a 0=_ from o9 0 _ rfl rfl,show a 1=_ from o9 1 _ rfl rfl,show a 2=_ from o9 2 _ rfl rfl,show a 3=_ from o9 3 _ rfl rfl,show a 4=_ from o9 4 _ rfl rfl,show a 5=_ from e2]
   go_wp2_with fail
   go_meet;exact ⟨q,c,rfl,a6.run dr hq bz,cc⟩
 case rest=>
  obtain ⟨b,u,rfl,hR,hB⟩:=hcut;obtain ⟨w1,az⟩:=exq (wc);rw [<-az] at hR hB;subst az;obtain ⟨X0,am⟩:∃ X0:RV,X0=⟨u.v12,u.v13,u.v14,u.v15,u.v16,u.v17,I Ab 0 0,[]⟩:=⟨_,rfl⟩;have al:X0.L = []:=by rw [am]
  rw [<-am] at hR;obtain ⟨R0,ad⟩:∃ R0:Rn,R0=⟨n,[],0,0,dr⟩:=⟨_,rfl⟩;rw [<-ad] at hR;have d:Ah (R0.n=n/\R0.draw=dr):=by rw [ad];exact ⟨rfl,rfl⟩
  have l:Ah (RP=if ki=1 then R0.tick else if ki=2 then R0.message (decide (msB m≠0)) m else if ki=3 then R0.propose (decide (Z13 cl sq op k.size v.size o.size≠0∨op=0)) cl sq op k v o else { R0 with code:=8 }):=by unfold Ah;rw [<-au.out,ad];rfl
  have ae:=Z0 hR;have bk:=Z0 hB;have ao:=Z0 (ak.out.below hB);have bd:=Z0 (a2.out.below hB);have bu:=Z0 (he.below (aj.trans (hB.mono (by omega))));have n0:w1.cell? ⟨w.heap.size+1,0,Ab⟩=Ac (Aa O ki):=ao.out.cell 0;have aq:Ah _:=l4tick_any b R0 X0 w1 _ hR (by rw [d.out.1];exact hb) (by rw [d.out.2];exact hd) (by rw [d.out.2];exact hD) (by rw [al];simp) (by rw [d.out.1];exact ai) (by rw [d.out.1];exact av) (by rw [d.out.1];exact a5) (by rw [d.out.1];exact ce);have a0:Ah _:=l4message_any b R0 X0 m ea ec w1 _ hR bu (λk e=>by have:=bq k e;omega) bi (by rw [d.out.1];exact hb) (by rw [d.out.2];exact hd) (by rw [d.out.2];exact hD) al (by rw [d.out.1];exact av) (by rw [d.out.1];exact a5) (by rw [d.out.1];exact ai) (by rw [d.out.1];exact b8) (by rw [d.out.1];exact ax) (by rw [d.out.1];exact a4);have aw:Ah _:=l4propose_any b R0 X0 cl sq op k v o w1 _ hR (by rw [d.out.1];exact hb) al (by rw [d.out.1];exact λh3=>(ax h3).ldb) hk hv ho;clear hR hB am ad a8 ar ak a2
  go_upto_if 13 with fail
  go_cut [] (λwx=>∃ i:RV,Ze wx w0.heap.size b RP i/\Ai w0.heap.size w1 wx)
  case first=>
   by_cases h1:ki=1
   ·have HF:=Z0 (l.trans (if_pos h1))
    have b1:(ki == 1)=true:=by simpa using h1
    rw [b1];clear l h1 b1
    go_wp2_with (first
     |(go_at_call 76;refine Am aq ?_;rintro e wz ⟨x9,rfl,j,g⟩;have ac:Ah _:=j;have ab:Ah _:=g;clear j g))
    go_meet;exact ⟨x9,by rw [HF.out];exact ac,ab.out⟩
   have b1:(ki == 1)=false:=by simpa using h1
   rw [b1];by_cases h2:ki=2
   ·have HF:=Z0 ((l.trans (if_neg h1)).trans (if_pos h2))
    have b2:(ki == 2)=true:=by simpa using h2
    have G2:=Z0 trivial;clear l h1 h2 b1
    go_wp2_with (first
     |(have y:=G2;refine Zd 43 _ rfl ?_;clear y;refine wpList_load_mid rfl 43 (Ay 18) rfl (w.heap.size+1) 2 rfl [Aa O m.ki,Aa O m.fr,Aa O m.td,Aa O m.tm,Aa O m.li,Aa O m.lt,Aa O m.cm,Aa O m.ok,Aa O m.hi,I ea m.es.length ec] _ (Jh ao.out 2 _) underlying43 rfl (by rw [Yc];rfl) ?_;clear G2)
     |(go_at_call 77;refine Am a0 ?_;rintro e wz ⟨x9,rfl,j,g⟩;have ac:Ah _:=j;have ab:Ah _:=g;clear j g))
    go_meet;exact ⟨x9,by rw [HF.out];exact ac,ab.out⟩
   have b2:(ki == 2)=false:=by simpa using h2
   by_cases h3:ki=3
   ·have HF:=Z0 (((l.trans (if_neg h1)).trans (if_neg h2)).trans (if_pos h3))
    have b3:(ki == 3)=true:=by simpa using h3
    have G2:=Z0 trivial;clear l h1 h2 h3 b1
    go_wp2_with (first
     |(have y:=G2;refine Zd 44 _ rfl ?_;clear y;refine wpList_load_mid rfl 44 (Ay 24) rfl (w.heap.size+1) 12 rfl [Aa O cl,Aa O sq,Aa O op,Az k,Az v,Az o] _ (Jh ao.out 12 _) underlying44 rfl (by rw [sizeCm];rfl) ?_;clear G2)
     |(go_at_call 78;refine Am aw ?_;rintro e wz ⟨x9,rfl,j,g⟩;have ac:Ah _:=j;have ab:Ah _:=g;clear j g))
    go_meet;exact ⟨x9,by rw [HF.out];exact ac,ab.out⟩
   have b3:(ki == 3)=false:=by simpa using h3
   have HF:=Z0 (((l.trans (if_neg h1)).trans (if_neg h2)).trans (if_neg h3));have cq:=ae.c19;have cz:=ae.blk.free 19;clear l h1 h2 h3 b1
   go_wp2_with fail
   go_meet;exact ⟨X0,by rw [HF.out];exact ae.set 19 _,ae.setB 19 _⟩
  case rest=>
   obtain ⟨i,f,ag⟩:=hcut;obtain ⟨w2,ay⟩:=exq (wc);rw [<-ay] at f ag;subst ay;have be:=Z0 f;have bj:=Z0 ((aj.trans (bk.mono (by omega))).trans (ag.mono (by omega)));have a7:=Z0 (bd.out.keep (ag.block _ (by omega)));obtain ⟨oa,oc,af⟩:=f.out.shape;have cx:w2.cell? ⟨b,18,Ab⟩=Ac (I oa i.L.length oc):=by rw [<-af];exact f.blk.cell 18
   have c2:=f.c19;have c1:=f.c20
   have a1:Ah ((saC RP i).all (·.oneCell')=true):=by
    obtain ⟨c5,cr,e12⟩:=f.log.shape;obtain ⟨cy,cp,e13⟩:=f.gr.shape;obtain ⟨dd,ct,e14⟩:=f.nx.shape;obtain ⟨cn,dc,cd⟩:=f.mt.shape;obtain ⟨c8,c4,e16⟩:=f.se.shape;obtain ⟨c6,db,e17⟩:=f.st.shape;unfold Ah saC;simp [Bh,e12,e13,e14,cd,e16,e17,af]
   have an:Ah (saC RP i=#[Aa O RP.code,Aa O RP.drew,Aa O RP.n.id,Aa O RP.n.sz,Aa O RP.n.el,Aa O RP.n.bt,Aa O RP.n.tm,Aa O RP.n.vo,Aa O RP.n.ro,Aa O RP.n.ld,Aa O RP.n.cm,Aa O RP.n.nw,Aa O RP.n.dl,Aa O RP.n.hd,i.vl,i.vg,i.vn,i.vm,i.vs,i.vt,I oa i.L.length oc]):=by unfold Ah saC;rw [af]
   have cu:ndC RP.n i=(RP.n.arrC i.vl i.vg i.vn i.vm i.vs i.vt):=rfl;have aa:=a1.out;rw [an.out] at aa;have a3:Ah _:=aa;have HK:Ah (∀ C':Array Af,Ze (w2.setRow (w.heap.size+2) C') w.heap.size b RP i/\Ai w.heap.size w (w2.setRow (w.heap.size+2) C')):=λC'=>⟨(f.keepB λk hk=>setRow_other w2 (w.heap.size+2) k C' (show k≠w.heap.size+2 by omega)).le (show w.heap.size<=w0.heap.size by omega),Yz bj (show w.heap.size<=w.heap.size+2 by omega) C'⟩
   have G2:=Z0 trivial;have G3:=Z0 trivial;clear f ag af aa n0 aq a0 aw
   go_wp2_with (first
    |(have y:=G2;refine Zd 36 _ rfl ?_;clear y;refine Xz rfl _ rfl rfl be ?_;clear G2)
    |(have y:=G3;refine Zn 39 _ _ rfl ?_;clear y;refine Zg rfl 39 _ _ rfl _ rfl rfl a7.out sizeSa rfl rfl a3 ?_;clear G3))
   (try simp only [Exit.inBlock,Exit.then])
   refine A8 (v:=Aw (saC RP i)) (Zl results32 rfl (by rw [an.out];exact a7.out.row _) underlying39 rfl sizeSa (by rw [an.out];rfl)) rfl ⟨b,i,rfl,(HK _).1,(HK _).2⟩
end
theorem rise_len (a:Int):∀(l:List Int) (last:Int),last<=a->Z1w a last l=true->last+(l.length:Int)<=a
 | [],last,h,_=>by simpa using h
 | x :: l,last,h,hr=>by
  simp only [Z1w,Al,Zj] at hr;have:=rise_len a l x hr.1.2 hr.2;simp only [List.length_cons]
  push_cast
  omega
def Yb (n:Nd):Int:=Z4x n.id n.sz n.el n.bt n.tm n.vo n.ro n.ld n.cm n.nw n.dl n.hd n.log n.gr n.nx n.mt n.se n.st
theorem Z03 (n:Nd)(h:Yb n=0):NdB n/\0<=n.tm/\n.tm<=1073741824/\n.sz%2=1/\n.gr.length<=1000/\0<=n.cm/\Jo n.ro n.sz n.id n.gr=true/\Jw n.ro n.sz n.id n.log.length n.nw n.nx n.mt n.se n.st=true:=by
 unfold Yb Z4x at h;split at h
 ·simp at h
 rename_i h1;split at h
 ·simp at h
 rename_i h2;split at h
 ·simp at h
 split at h
 ·simp at h
 rename_i h4;split at h
 ·simp at h
 split at h
 ·simp at h
 rename_i h5;split at h
 ·simp at h
 rename_i h6;split at h
 ·simp at h
 rename_i h7;split at h
 ·simp at h
 rename_i h8;have k:Yp n.id n.sz n.el n.bt=true:=by simpa using h1
 have c:Z1z n.sz n.tm n.vo=true:=by simpa using h2
 have d:inB n.cm 0 n.log.length=true:=by simpa using h5
 have a:Xr n.el n.nw n.dl n.hd=true:=by simpa using h6
 have e:Jo n.ro n.sz n.id n.gr=true:=by simpa using h7
 have i:Jw n.ro n.sz n.id n.log.length n.nw n.nx n.mt n.se n.st=true:=by simpa using h8
 obtain ⟨j,g,f,m⟩:=Z3k k;have l:n.sz=3∨n.sz=5∨n.sz=7:=by simpa [sizB,or_assoc] using j
 unfold Z1z at c;simp only [Al,Zj] at c;unfold Xr at a;simp only [Al,Zj] at a;rw [Zj] at d;refine ⟨⟨a.1.1,a.1.2,a.2.2.1,a.2.2.2,g.1,g.2,f.1,f.2,by omega⟩,c.1.1,c.1.2,by omega,?_,d.1,e,i⟩;have b:=e;unfold Jo at b;split at b
 ·have:(n.gr.length:Int)=0:=by simpa using b
  omega
 ·simp only [Al] at b
  have:=rise_len _ n.gr 0 (by omega) b.1;omega
theorem Z4f {l:List Int}{j:Nat}(h:j<l.length):l.getD j 0=l[j]:=by rw [List.getD_eq_getElem?_getD,List.getElem?_eq_getElem h];rfl
theorem Z5o {id ln nw:Int}{c a d b:List Int}{n:Nat}(h:Z53 id ln nw c a d b n 0=true)(j:Nat)(e:j<n):Z0y ((j:Int)+1) id ln nw (c.getD j 0) (a.getD j 0) (d.getD j 0) (b.getD j 0)=true:=by
 unfold Z53 at h;exact List.all_eq_true.1 h j (by rw [List.mem_range'_1];omega)
theorem Z2z (n:Nd)(g:n.ro=3)(m:0<=n.sz)(q:0<=n.nw)(h:Jw n.ro n.sz n.id n.log.length n.nw n.nx n.mt n.se n.st=true):LdM n n.sz.toNat/\LdT n n.sz.toNat:=by
 unfold Jw at h;rw [if_pos g,Al,Xu] at h;obtain ⟨⟨r,e2,e3,e4⟩,l⟩:=h;have e:=Z5o l
 have b:LdB n n.sz.toNat:=by
  refine ⟨by omega,by omega,?_⟩;intro J k d;have a:=e J (by omega);unfold Z0y at a;rw [if_neg d,Z4f k] at a;simp only [Al,Zj] at a;exact ⟨(n.nx[J]-1).toNat,by omega,by omega⟩
 have c:∀ j,j<n.sz.toNat->(0<=n.se.getD j 0/\n.se.getD j 0<=n.nw)/\(0<=n.st.getD j 0/\n.st.getD j 0<=n.nw):=by
  intro j f;have a:=e j f;unfold Z0y at a;split at a
  ·simp only [Al,beq_iff_eq] at a
   omega
  ·simp only [Al,Zj] at a
   omega
 refine ⟨⟨b,by omega,by omega,?_⟩,⟨b,by omega,?_,?_⟩⟩
 ·intro J p o d
  have a:=e J (by omega);unfold Z0y at a;rw [if_neg d,Z4f p,Z4f o] at a;simp only [Al,Zj] at a;omega
 ·intro y i
  obtain ⟨j,f,rfl⟩:=List.mem_iff_getElem.1 i;have:=(c j (by omega)).1
  rwa [Z4f f] at this
 ·intro y i
  obtain ⟨j,f,rfl⟩:=List.mem_iff_getElem.1 i;have:=(c j (by omega)).2
  rwa [Z4f f] at this
section
structure J0 (w:Ag) (B:Nat) (r:Rn) (x:RV):Prop where
 log:Zh w B x.vl r.n.log
 gr:Zc inC 1 3 w B x.vg r.n.gr
 nx:Zc inC 1 3 w B x.vn r.n.nx
 mt:Zc inC 1 3 w B x.vm r.n.mt
 se:Zc inC 1 3 w B x.vs r.n.se
 st:Zc inC 1 3 w B x.vt r.n.st
 out:Zc omC 10 43 w B x.vo x.L
 outC:x.L.map (·.m)=r.out
 ents:∀ p∈x.L,Zh w B p.v p.m.es
 ap:[x.vg,x.vn,x.vm,x.vs,x.vt].Pairwise Yd
variable {w:Ag}{B:Nat}{r:Rn}{x:RV}
theorem Ze.ans {b:Nat}(h:Ze w B b r x):J0 w B r x:=⟨h.log,h.gr,h.nx,h.mt,h.se,h.st,h.out,h.outC,h.ents,h.ap⟩
theorem J0.one (h:J0 w B r x):(saC r x).all (·.oneCell')=true:=by
 obtain ⟨j,d,a⟩:=h.log.shape;obtain ⟨b,k,e2⟩:=h.gr.shape;obtain ⟨e,f,e3⟩:=h.nx.shape;obtain ⟨m,c,e4⟩:=h.mt.shape;obtain ⟨i,l,e5⟩:=h.se.shape;obtain ⟨g,p,e6⟩:=h.st.shape;obtain ⟨o,n,e7⟩:=h.out.shape;unfold saC;rw [a,e2,e3,e4,e5,e6,e7];simp [Bh]
theorem J0.block {w':Ag}(h:J0 w B r x)(c:∀ k,B<=k->w'.heap[k]? = w.heap[k]?):J0 w' B r x:=by
 have a:∀ {α:Type} {cs:α->List Af} {m:Nat} {T:Ax} {v:Af} {l:List α},Zc cs m T w B v l->Zc cs m T w' B v l:=λho=>ho.block λk e=>c k (ho.lts k e).1
 have b:∀ {v:Af} {l:List Ent},Zh w B v l->Zh w' B v l:=λho=>ho.block λk e=>c k (Aq ho.2 k e).1
 exact ⟨b h.log,a h.gr,a h.nx,a h.mt,a h.se,a h.st,a h.out,h.outC,λp hp=>b (h.ents p hp),h.ap⟩
theorem J0.le {b:Nat}(h:J0 w B r x)(a:b<=B):J0 w b r x:=
 ⟨h.log.le a,h.gr.le a,h.nx.le a,h.mt.le a,h.se.le a,h.st.le a,h.out.le a,h.outC,λp hp=>(h.ents p hp).le a,h.ap⟩
def rn9:Rn:=⟨⟨0,0,0,0,0,0,0,0,0,0,0,0,[],[],[],[],[],[]⟩,[],9,0,0⟩
def Z2j (n:Nd)(dr ki:Int)(m:Mg)(cl sq op:Int)(k v o:ByteArray):Rn:=if Yb n=0 then Z8w n dr ki m cl sq op k v o else rn9
theorem Z2k:(Tryz.prog.info? 39).map (·.size)=Ac 21:=by kernel_rfl
theorem sizeInA:(Tryz.prog.info? 46).map (·.size)=Ac 18:=by kernel_rfl
end
theorem sStepNode_ok (n:Nd)(m:Mg)(ki dr cl sq op:Int)(k v o:ByteArray)(a12 a13 a14 a15 a16 a17 ea:Option B4)(c12 c13 c14 c15 c16 c17 ec:Nat)(w:Ag)(y:Es w (I a12 n.log.length c12) n.log)(r:Ix w (I a13 n.gr.length c13) n.gr)(q:Ix w (I a14 n.nx.length c14) n.nx)(p:Ix w (I a15 n.mt.length c15) n.mt)(ab:Ix w (I a16 n.se.length c16) n.se)(s:Ix w (I a17 n.st.length c17) n.st)(a2:n.log.length<=1048576)(ao:n.gr.length<=1048576)(aw:n.nx.length<=1048576)(au:n.mt.length<=1048576)(av:n.se.length<=1048576)(az:n.st.length<=1048576)(he:Es w (I ea m.es.length ec) m.es)(aj:∀ k,(Value.slice ea m.es.length ec).ownBlock=Ac k->k<w.heap.size)(ag:m.es.length<=1048576)(hd : -(2^63)<=dr)(hD:dr<2^63)(hk:k.size<=maxLen)(hv:v.size<=maxLen)(ho:o.size<=maxLen)(c:Yb n=0) :
  Ar Ad 9 #[Aw (n.arrC (I a12 n.log.length c12) (I a13 n.gr.length c13) (I a14 n.nx.length c14) (I a15 n.mt.length c15) (I a16 n.se.length c16) (I a17 n.st.length c17)),Aw #[Aa O ki,Aa O dr,Aa O m.ki,Aa O m.fr,Aa O m.td,Aa O m.tm,Aa O m.li,Aa O m.lt,Aa O m.cm,Aa O m.ok,Aa O m.hi,I ea m.es.length ec,Aa O cl,Aa O sq,Aa O op,Az k,Az v,Az o]] w λe w'=>∃ x,e=Aj (Aw (saC (Z2j n dr ki m cl sq op k v o) x))/\J0 w' w.heap.size (Z2j n dr ki m cl sq op k v o) x/\Ai w.heap.size w w':=by
 generalize hRP:Z2j n dr ki m cl sq op k v o=RP;have ay:=Z0 hRP;clear hRP;obtain ⟨W,hW⟩:=exq (((w.alloc (At (n.arrC (I a12 n.log.length c12) (I a13 n.gr.length c13) (I a14 n.nx.length c14) (I a15 n.mt.length c15) (I a16 n.se.length c16) (I a17 n.st.length c17)) 36)).alloc (At #[Aa O ki,Aa O dr,Aa O m.ki,Aa O m.fr,Aa O m.td,Aa O m.tm,Aa O m.li,Aa O m.lt,Aa O m.cm,Aa O m.ok,Aa O m.hi,I ea m.es.length ec,Aa O cl,Aa O sq,Aa O op,Az k,Az v,Az o] 46)).alloc (At zAns 39));have HW:=Z0 hW;have t:Ah (Blk W w.heap.size (n.arrC (I a12 n.log.length c12) (I a13 n.gr.length c13) (I a14 n.nx.length c14) (I a15 n.mt.length c15) (I a16 n.se.length c16) (I a17 n.st.length c17)) 36):=hW▸((Blk.new _ _ _).alloc _).alloc _
 have ak:Ah (Blk W (w.heap.size+1) #[Aa O ki,Aa O dr,Aa O m.ki,Aa O m.fr,Aa O m.td,Aa O m.tm,Aa O m.li,Aa O m.lt,Aa O m.cm,Aa O m.ok,Aa O m.hi,I ea m.es.length ec,Aa O cl,Aa O sq,Aa O op,Az k,Az v,Az o] 46):=hW▸(Blk.new' _ _ _).alloc _
 have ah:Ah (Blk W (w.heap.size+1+1) zAns 39):=hW▸Blk.new' _ _ _ (by simp)
 have g:Ah (Ai w.heap.size w W):=hW▸(baq.alloc (by simp) _).alloc (by simp;omega) _
 have a0:Ah (W.heap.size=w.heap.size+3):=by unfold Ah;rw [hW];simp
 have HF:Ah (∀ z,Ai w.heap.size w z->Ar Ad 22 #[Aw (n.arrC (I a12 n.log.length c12) (I a13 n.gr.length c13) (I a14 n.nx.length c14) (I a15 n.mt.length c15) (I a16 n.se.length c16) (I a17 n.st.length c17))] z λe w'=>e=Aj (Aa O (Yb n))/\Ai z.heap.size z w'):=λz hz=>
  (by rw [show Yb n=0 from c];exact nodeS_ok (y.below hz) (r.below hz) (q.below hz) (p.below hz) (ab.below hz) (s.below hz) c)
 have HS:Ah (Yb n=0->∀ z,Ai w.heap.size w z->Ar Ad 32 #[Aw (n.arrC (I a12 n.log.length c12) (I a13 n.gr.length c13) (I a14 n.nx.length c14) (I a15 n.mt.length c15) (I a16 n.se.length c16) (I a17 n.st.length c17)),Aw #[Aa O ki,Aa O dr,Aa O m.ki,Aa O m.fr,Aa O m.td,Aa O m.tm,Aa O m.li,Aa O m.lt,Aa O m.cm,Aa O m.ok,Aa O m.hi,I ea m.es.length ec,Aa O cl,Aa O sq,Aa O op,Az k,Az v,Az o]] z λe w'=>∃(b:Nat) (X:RV),e=Aj (Aw (saC (Z8w n dr ki m cl sq op k v o) X))/\Ze w' z.heap.size b (Z8w n dr ki m cl sq op k v o) X/\Ai z.heap.size z w'):=λh0 z hz=>by
  obtain ⟨h,t0,t1,an,ar,al,hg,hl⟩:=Z03 n h0
  have hL:n.nx.length<=100000/\n.mt.length<=100000/\n.se.length<=100000/\n.st.length<=100000:=by
   have l:=hl;have a4:=h.sz1;have a6:=h.sz0;unfold Jw at l;rw [Al,Xu] at l;split at l <;> omega
  exact Z87 n m ki dr cl sq op k v o _ _ _ _ _ _ ea _ _ _ _ _ _ ec z ⟨y.below hz,r.below hz,q.below hz,p.below hz,ab.below hz,s.below hz⟩ h.ln (by omega) hL.1 hL.2.1 hL.2.2.1 hL.2.2.2 (he.below hz) (λj e=>Bk (aj j e) hz.size) ag h hd hD t0 t1 an ar (λhro=>(Z2z n hro (by have:=h.sz0;omega) h.nw0 hl).1) (λhro=>(Z2z n hro (by have:=h.sz0;omega) h.nw0 hl).2) al hk hv ho
 clear y r q p ab s a2 ao aw au av az he aj ag hd hD hk hv ho hW;go_enter func9,ntmps9
 go_upto_region 1 with fail
 rw [<-HW.out];clear HW;generalize hai:w.heap.size+1+1=ba at *;generalize hii:w.heap.size+1=bi at *;have f:Ah (w.heap.size<bi/\bi<ba/\ba<W.heap.size):=by have:=a0.out;unfold Ah;omega
 clear hai hii;have ad:Ah _:=HF.out W g;have aq:Ah _:=HS.out c;have a3:Ah (Z8w n dr ki m cl sq op k v o=RP):=by have l:=ay.out;unfold Z2j at l;rw [if_pos c] at l;exact l
 have a5:(Yb n != 0)=false:=by simp [c]
 clear c
 go_wp2_with (first
  |(have a:=ad;refine Zd 36 _ rfl ?_;clear a;refine Z7 rfl 36 _ rfl _ rfl t underlying36 rfl Z0q rfl ?_)
  |(go_at_call 22;go_loud (refine Am ad ?_;rintro e w1 ⟨rfl,d⟩;have a1:=Z0 d;have af:Ah (Blk w1 w.heap.size _ 36):=t.below d t.lt;have ai:Ah (Blk w1 bi _ 46):=ak.below d ak.lt;have ac:Ah (Blk w1 ba _ 39):=ah.below d ah.lt;have ax:Ah _:=aq.out w1 (g.trans (d.mono g.size));clear d ad))
  |(have a:=af;refine Zd 36 _ rfl ?_;clear a;refine Z7 rfl 36 _ rfl _ rfl af underlying36 rfl Z0q rfl ?_)
  |(have a:=ai;refine Zd 46 _ rfl ?_;clear a;refine Z7 rfl 46 _ rfl bi rfl ai underlying46 rfl sizeInA rfl ?_)
  |(go_at_call 32;go_loud (refine Am ax ?_;rintro e w2 ⟨b2,X,rfl,i,u⟩;rw [a3.out] at i ⊢;have ae:=Z0 i.ans;have am:=Z0 u;have aa:Ah (Blk w2 ba _ 39):=ac.below u ac.lt;clear i u))
  |(have a:=aa;refine Zn 39 _ _ rfl ?_;clear a;go_loud (refine Zg rfl 39 _ _ rfl ba rfl rfl aa Z2k rfl rfl ae.one ?_)))
 have a7:=ac.lt;refine A8 (v:=Aw (saC RP X)) (Zl results9 rfl (aa.row _) underlying39 rfl Z2k rfl) rfl ⟨X,rfl,(ae.block λk hk=>setRow_other _ _ _ _ (by omega)).le (by have:=f.out;omega),Yz ((g.trans (a1.mono g.size)).trans (am.mono (by have:=f.out;omega))) (by have:=f.out;omega) _⟩
section
theorem Yj:(Tryz.prog.info? 44).map (·.size)=Ac 6:=by kernel_rfl
def Jc (l:List Int)(k:Nat):Int:=if Z4 l (Zi l (k+1+1+1) false).2 12=0 then 1073741824-(Z4 l ((Zi l (k+1+1+1) false).2+1) 2:Nat) else 1+(Z4 l (k+1) 6:Nat)
def Jt (l:List Int)(k:Nat):Nat:=if Z4 l (Zi l (k+1+1+1) false).2 12=0 then (Zi l (k+1+1+1) false).2+1+1 else (Zi l (k+1+1+1) false).2+1
def Xe (l:List Int)(k:Nat):ByteArray:=if Z4 l (k+1+1) 4=1∨Z4 l (k+1+1) 4=3 then (Zi l (Jt l k) true).1 else ⟨#[]⟩
def J3 (l:List Int)(k:Nat):Nat:=if Z4 l (k+1+1) 4=1∨Z4 l (k+1+1) 4=3 then (Zi l (Jt l k) true).2 else Jt l k
def Xf (l:List Int)(k:Nat):ByteArray:=if Z4 l (k+1+1) 4=3 then (Zi l (J3 l k) true).1 else ⟨#[]⟩
def Jy (l:List Int)(k:Nat):Nat:=if Z4 l (k+1+1) 4=3 then (Zi l (J3 l k) true).2 else J3 l k
def Z10 (l:List Int)(k:Nat):Int:=1+(Z4 l k 8:Nat)
def Xa (l:List Int)(k:Nat):Int:=1+(Z4 l (k+1+1) 4:Nat)
def Z02 (l:List Int)(k:Nat):ByteArray:=(Zi l (k+1+1+1) false).1
theorem cmdK_le (l:List Int)(k:Nat):k<Jy l k/\Jy l k<=k+14:=by
 have b:=Yi l (k+1+1+1) false;have a:=Yi l (Jt l k) true;have c:=Yi l (J3 l k) true;have e2:(Zi l (k+1+1+1) false).2<Jt l k/\Jt l k<=(Zi l (k+1+1+1) false).2+2:=by unfold Jt;split <;> omega
 have e3:Jt l k<=J3 l k/\J3 l k<=Jt l k+3:=by unfold J3;split <;> omega
 unfold Jy;split <;> omega
theorem Z6r (l:List Int)(k:Nat):1<=Z10 l k/\Z10 l k<=8/\1<=Jc l k/\Jc l k<=1073741824/\1<=Xa l k/\Xa l k<=4/\1<=(Z02 l k).size/\(Z02 l k).size<=64/\(Xe l k).size<=64/\(Xf l k).size<=64/\(Xa l k≠2/\Xa l k≠4->(Xe l k).size=0)/\(Xa l k≠4->(Xf l k).size=0):=by
 have j:=Z6 l k 8;have o:=Z6 l (k+1) 6;have m:=Z6 l (k+1+1) 4;have n:=Z6 l ((Zi l (k+1+1+1) false).2+1) 2;have d:=Yi l (k+1+1+1) false;have f:=Yi l (Jt l k) true;have i:=Yi l (J3 l k) true;have b:1<=Jc l k/\Jc l k<=1073741824:=by unfold Jc;split <;> omega
 have a:(Xe l k).size<=64/\(Xa l k≠2/\Xa l k≠4->(Xe l k).size=0):=by
  unfold Xe Xa;split
  ·next h=>exact ⟨f.1,λh'=>by omega⟩
  ·exact ⟨by simp [ByteArray.size],λ_=>rfl⟩
 have e:(Xf l k).size<=64/\(Xa l k≠4->(Xf l k).size=0):=by
  unfold Xf Xa;split
  ·next h=>exact ⟨i.1,λh'=>by omega⟩
  ·exact ⟨by simp [ByteArray.size],λ_=>rfl⟩
 have c:1<=(Z02 l k).size/\(Z02 l k).size<=64:=by unfold Z02;exact ⟨d.2.1 rfl,d.1⟩
 refine ⟨?_,?_,b.1,b.2,?_,?_,c.1,c.2,a.1,e.1,a.2,e.2⟩ <;> (first | unfold Z10 | unfold Xa) <;> omega
variable {w0 w:Ag}{g k:Nat}{v:Af}{l:List Int}
theorem Dr.pickC {F:List (Nat×Array Af×Ax)}(h:Dr w0 w g v l k F)(n:Nat)(hL:l.length<=1048576:=by assumption)(c:k<=900000000:=by omega)(a:0<n:=by decide)(b:n<=256:=by decide) :
  Ar Ad 53 #[Ae (Ac ⟨g,0,Ab⟩),Aa O n] w λe w'=>e=Aj (Aa O (Z4 l k n:Nat))/\Dr w0 w' g v l (k+1) F:=by
 have:=h.pick n hL c a
 rwa [show Zf n=1 by unfold Zf;rw [if_pos b]] at this
theorem Dr.word {F:List (Nat×Array Af×Ax)}(h:Dr w0 w g v l k F)(e:Bool)(hL:l.length<=1048576)(a:k<=800000000:=by omega) :
  Ar Ad 142 #[Ae (Ac ⟨g,0,Ab⟩),.bool e] w λr w'=>r=Aj (Az (Zi l k e).1)/\Dr w0 w' g v l (Zi l k e).2 F:=
 (Xj g w v l k e hL a h.src).mono λr w' ⟨h1,h2,h3⟩=>⟨h1,h.call h2 h3⟩
theorem Z4w (g:Nat)(w:Ag)(v:Af)(l:List Int)(k:Nat)(hL:l.length<=1048576)(hk:k<=700000000)(h:Src w g v l k) :
  Ar Ad 105 #[Ae (Ac ⟨g,0,Ab⟩)] w λr w'=>r=Aj (Aw (cqN (Z10 l k) (Jc l k) (Xa l k) (Z02 l k) (Xe l k) (Xf l k)))/\Src w' g v l (Jy l k)/\w.grownBy w' (Ac g):=by
 have ad:=h.lt;have b8:=Z6 l k 8;have b6:=Z6 l (k+1) 6;have b4:=Z6 l (k+1+1) 4;have b5:=Yi l (k+1+1+1) false;have b2:=Z6 l ((Zi l (k+1+1+1) false).2+1) 2;have bK:=cmdK_le l k;have t2:(Zi l (k+1+1+1) false).2<Jt l k/\Jt l k<=(Zi l (k+1+1+1) false).2+2:=by unfold Jt;split <;> omega
 have t3:J3 l k<=k+11:=by have:=Yi l (Jt l k) true;unfold J3;split <;> omega
 have q:=Z0 ((Dr.start h).new zCmd 44 (Zr));have A1:=trivial;have A2:=trivial;go_enter func105,ntmps105
 go_upto_if 18 with (first
  |(go_at_call 53;clear A1;refine (q.pickC 8).mono ?_;rintro r w1 ⟨rfl,d⟩;have o:=Z0 d;clear d)
  |(go_at_call 53;clear A2;refine (o.pickC 6).mono ?_;rintro r w2 ⟨rfl,d⟩;have n:=Z0 d;clear d)
  |(go_at_call 142;refine (p.word false hL).mono ?_;rintro r m ⟨rfl,d⟩;have f:=Z0 d;clear d)
  |(have e:=f;refine Zn 44 (Ay 3) _ rfl ?_;clear e;refine Zt rfl 44 _ _ rfl _ rfl rfl rfl Yj rfl rfl (by simp [Bh]) ?_)
  |(have e:=f;go_at_call 53;refine ((e.out.new (cqN (1+((Z4 l k 8:Nat):Int)) (1+((Z4 l (k+1) 6:Nat):Int)) (1+((Z4 l (k+1+1) 4:Nat):Int)) ((Zi l (k+1+1+1) false).1) ⟨#[]⟩ ⟨#[]⟩) 44 (Zr)).pickC 12).mono ?_;rintro r w5 ⟨rfl,d⟩;have j:=Z0 d;have c5:=(d.blk 1).cell;have f5:=(d.blk 1).free;clear d)
  |(go_at_call 53;refine (n.pickC 4).mono ?_;rintro r w3 ⟨rfl,d⟩;have p:=Z0 d;clear d))
 go_cut [19] (λ_ wx=>Dr w wx g v l (Jt l k) [(w.heap.size,zCmd,44),(m.heap.size,(cqN (1+((Z4 l k 8:Nat):Int)) (Jc l k) (1+((Z4 l (k+1+1) 4:Nat):Int)) ((Zi l (k+1+1+1) false).1) ⟨#[]⟩ ⟨#[]⟩),44)])
 case first=>
  by_cases c:Z4 l (Zi l (k+1+1+1) false).2 12=0
  ·have u:((Z4 l (Zi l (k+1+1+1) false).2 12:Nat):Int)=0:=by omega
   go_wp2_with (go_at_call 53;refine (j.pickC 2).mono ?_;rintro r w6 ⟨rfl,d⟩;have c6:=(d.blk 1).cell;have f6:=(d.blk 1).free;have z:=Z0 (d.set 1 rfl 1 (by simp) (Aa O (1073741824-((Z4 l ((Zi l (k+1+1+1) false).2+1) 2:Nat):Int))));clear d)
   go_meet;rw [show Jc l k=_ from if_pos c,show Jt l k=_ from if_pos c];exact z
  ·have u:¬((Z4 l (Zi l (k+1+1+1) false).2 12:Nat):Int)=0:=by omega
   go_wp2_with fail
   go_meet;rw [show Jc l k=_ from if_neg c,show Jt l k=_ from if_neg c];exact j
 case rest=>
  have i:=Z0 hcut;have c7:=(hcut.blk 1).cell;have f7:=(hcut.blk 1).free;have A3:=trivial;have A4:=trivial;have b7:=Yi l (Jt l k) true;rcases (show Z4 l (k+1+1) 4=1∨Z4 l (k+1+1) 4=3∨¬(Z4 l (k+1+1) 4=1∨Z4 l (k+1+1) 4=3) by omega) with c | c | c
  ·have x:(1+((Z4 l (k+1+1) 4:Nat):Int))=2:=by omega
   have y:((1+((Z4 l (k+1+1) 4:Nat):Int)) == 4)=false:=by rw [beq_eq_false_iff_ne];omega
   go_wp2_with (first
    |(go_at_call 142;clear A3;refine (i.word true hL).mono ?_;rintro r w6 ⟨rfl,d⟩;have t:=(d.blk 1).cell;have aa:=(d.blk 1).free;have a:Ah (Dr w _ g v l _ [(w.heap.size,zCmd,44),(m.heap.size,(cqN (1+((Z4 l k 8:Nat):Int)) (Jc l k) (1+((Z4 l (k+1+1) 4:Nat):Int)) ((Zi l (k+1+1+1) false).1) ((Zi l (Jt l k) true).1) ⟨#[]⟩),44)]):=d.set 1 rfl 4 (by simp) (Az (Zi l (Jt l k) true).1);clear d)
    |(have e:=a;refine Zd 44 (Ay 3) rfl ?_;clear e;refine Z7 rfl 44 (Ay 3) rfl (m.heap.size) rfl (a.blk 1 rfl) underlying44 rfl Yj rfl ?_)
    |(have e:=a;refine Zn 44 (Ay 2) _ rfl ?_;clear e;refine Zg rfl 44 (Ay 2) _ rfl (w.heap.size) rfl rfl (a.blk 0 rfl) Yj rfl rfl (by simp [Bh]) ?_))
   have b:=a.row 0 rfl (cqN (1+((Z4 l k 8:Nat):Int)) (Jc l k) (1+((Z4 l (k+1+1) 4:Nat):Int)) ((Zi l (k+1+1+1) false).1) ((Zi l (Jt l k) true).1) ⟨#[]⟩) (Zr);exact A8 (v:=.agg _) (Zl results105 rfl (b.blk 0 rfl) underlying44 rfl Yj rfl) rfl ⟨by rw [show Xf l k=_ from ifo,show Xe l k=_ from if_pos (.inl c)];rfl,by rw [show Jy l k=_ from ifo,show J3 l k=_ from if_pos (.inl c)];exact b.src,b.grown⟩
  ·have x:((1+((Z4 l (k+1+1) 4:Nat):Int)) == 2)=false:=by rw [beq_eq_false_iff_ne];omega
   have y:(1+((Z4 l (k+1+1) 4:Nat):Int))=4:=by omega
   go_wp2_with (first
    |(go_at_call 142;clear A3;refine (i.word true hL).mono ?_;rintro r w6 ⟨rfl,d⟩;have t:=(d.blk 1).cell;have aa:=(d.blk 1).free;have s:Ah (Dr w _ g v l _ [(w.heap.size,zCmd,44),(m.heap.size,(cqN (1+((Z4 l k 8:Nat):Int)) (Jc l k) (1+((Z4 l (k+1+1) 4:Nat):Int)) ((Zi l (k+1+1+1) false).1) ((Zi l (Jt l k) true).1) ⟨#[]⟩),44)]):=d.set 1 rfl 4 (by simp) (Az (Zi l (Jt l k) true).1);clear d)
    |(go_at_call 142;clear A4;refine (s.word true hL).mono ?_;rintro r w7 ⟨rfl,d⟩;have ab:=(d.blk 1).cell;have ac:=(d.blk 1).free;have a:Ah (Dr w _ g v l _ [(w.heap.size,zCmd,44),(m.heap.size,(cqN (1+((Z4 l k 8:Nat):Int)) (Jc l k) (1+((Z4 l (k+1+1) 4:Nat):Int)) ((Zi l (k+1+1+1) false).1) ((Zi l (Jt l k) true).1) ((Zi l (Zi l (Jt l k) true).2 true).1)),44)]):=d.set 1 rfl 5 (by simp) (Az (Zi l (Zi l (Jt l k) true).2 true).1);clear d)
    |(have e:=a;refine Zd 44 (Ay 3) rfl ?_;clear e;refine Z7 rfl 44 (Ay 3) rfl (m.heap.size) rfl (a.blk 1 rfl) underlying44 rfl Yj rfl ?_)
    |(have e:=a;refine Zn 44 (Ay 2) _ rfl ?_;clear e;refine Zg rfl 44 (Ay 2) _ rfl (w.heap.size) rfl rfl (a.blk 0 rfl) Yj rfl rfl (by simp [Bh]) ?_))
   have b:=a.row 0 rfl (cqN (1+((Z4 l k 8:Nat):Int)) (Jc l k) (1+((Z4 l (k+1+1) 4:Nat):Int)) ((Zi l (k+1+1+1) false).1) ((Zi l (Jt l k) true).1) ((Zi l (Zi l (Jt l k) true).2 true).1)) (Zr);exact A8 (v:=.agg _) (Zl results105 rfl (b.blk 0 rfl) underlying44 rfl Yj rfl) rfl ⟨by rw [show Xf l k=_ from if_pos c,show Xe l k=_ from if_pos (.inr c),show J3 l k=_ from if_pos (.inr c)];rfl,by rw [show Jy l k=_ from if_pos c,show J3 l k=_ from if_pos (.inr c)];exact b.src,b.grown⟩
  ·have x:((1+((Z4 l (k+1+1) 4:Nat):Int)) == 2)=false:=by rw [beq_eq_false_iff_ne];omega
   have y:((1+((Z4 l (k+1+1) 4:Nat):Int)) == 4)=false:=by rw [beq_eq_false_iff_ne];omega
   have a:=i
   go_wp2_with (first
    |(have e:=a;refine Zd 44 (Ay 3) rfl ?_;clear e;refine Z7 rfl 44 (Ay 3) rfl (m.heap.size) rfl (a.blk 1 rfl) underlying44 rfl Yj rfl ?_)
    |(have e:=a;refine Zn 44 (Ay 2) _ rfl ?_;clear e;refine Zg rfl 44 (Ay 2) _ rfl (w.heap.size) rfl rfl (a.blk 0 rfl) Yj rfl rfl (by simp [Bh]) ?_))
   have b:=a.row 0 rfl (cqN (1+((Z4 l k 8:Nat):Int)) (Jc l k) (1+((Z4 l (k+1+1) 4:Nat):Int)) ((Zi l (k+1+1+1) false).1) ⟨#[]⟩ ⟨#[]⟩) (Zr);exact A8 (v:=.agg _) (Zl results105 rfl (b.blk 0 rfl) underlying44 rfl Yj rfl) rfl ⟨by rw [show Xf l k=_ from ifo,show Xe l k=_ from if_neg c];rfl,by rw [show Jy l k=_ from ifo,show J3 l k=_ from if_neg c];exact b.src,b.grown⟩
end
section
theorem Jk:(Tryz.prog.info? 118).map (·.size)=Ac 7:=by kernel_rfl
theorem infoCmd6:(Tryz.prog.info? 44).map (·.size)=Ac 6:=by kernel_rfl
theorem Z38 (w:Ag)(e:Ent):Ja (w.alloc (At (eqN e.t e.cl e.sq e.op e.k e.v e.o) 118)) w.heap.size 0 e:=by
 unfold Ja;simp [World.cell?_alloc_new]
variable {g:Nat}
theorem Z4k : ∀(vs:List Af) (o:Nat) (w:Ag),(w.setCells g o vs).heap.size=w.heap.size
 | [],_,_=>rfl
 | v :: vs,o,w=>(Z4k vs (o+1) _).trans (by simp [World.setCell])
variable {k:Nat}
theorem Z3e (h:k≠g):∀(vs:List Af) (o:Nat) (w:Ag),(w.setCells g o vs).heap[k]? = w.heap[k]?
 | [],_,_=>rfl
 | v :: vs,o,w=>(Z3e h vs (o+1) _).trans (Ak w ⟨g,o,Ab⟩ v k h)
variable {w w':Ag}{b:Nat}
theorem Z6g {o:Nat}{vs:List Af}(h:w.grownBy w' (Ac g))(c:w.heap.size<=b):w.grownBy (w'.setCells b o vs) (Ac g):=by
 have a:=Z3v (B:=b) (w0:=w') (Ao _) vs o w' (An _ _);exact ⟨a.os.trans h.os,a.tape.trans h.tape,a.output.trans h.output,Ap h.size a.size,λk hk hne=>(a.block k (by omega)).trans (h.block k hk hne)⟩
variable {v:Af}{l:List Int}
theorem srcCells {t c d e:Int}{f i s:ByteArray}(h:Src w g v l k)(j:Blk w b (eqN t 0 0 0 ⟨#[]⟩ ⟨#[]⟩ ⟨#[]⟩) 118)(a:b≠g) :
  Src (w.setCells b 1 [Aa O c,Aa O d,Aa O e,Az f,Az i,Az s]) g v l k:=by
 have u:=h.setB j a 1 (by simp) (Zr) (Aa O c);have b1:Blk _ b (eqN t c 0 0 ⟨#[]⟩ ⟨#[]⟩ ⟨#[]⟩) 118:=j.set 1 (Aa O c);have p:=u.setB b1 a 2 (by simp) (Zr) (Aa O d);have m:Blk _ b (eqN t c d 0 ⟨#[]⟩ ⟨#[]⟩ ⟨#[]⟩) 118:=b1.set 2 (Aa O d);have r:=p.setB m a 3 (by simp) (Zr) (Aa O e);have n:Blk _ b (eqN t c d e ⟨#[]⟩ ⟨#[]⟩ ⟨#[]⟩) 118:=m.set 3 (Aa O e);have o:=r.setB n a 4 (by simp) (Zr) (Az f);have b4:Blk _ b (eqN t c d e f ⟨#[]⟩ ⟨#[]⟩) 118:=n.set 4 (Az f);have q:=o.setB b4 a 5 (by simp) (Zr) (Az i);have b5:Blk _ b (eqN t c d e f i ⟨#[]⟩) 118:=b4.set 5 (Az i);exact q.setB b5 a 6 (by simp) (Zr) _
variable {wo:Ag}
theorem Z4g {w0:Ag}{u u':Af}{E:List Ent}(h:Src w g v l k)(s:Bs w0 v l)(hw:w0.heap.size<=w.heap.size)(hg:Ye w u w' u')(ho:Zh wo w0.heap.size u E)(c:g<w0.heap.size):Src w' g v l k:=by
 have d:=(An _ _).grown hg.g hw (λk hk=>(ho.2.lt k hk).1);obtain ⟨h1,z,⟨hl,t,a,cap,rfl,hc⟩,y,h5⟩:=h;obtain ⟨_,_,a',r,e,n⟩:=s;injection e with e1 e2 e3;subst e1 e3;refine ⟨Bk h1 d.size,λi=>by rw [d.frozen (p:=⟨g,i,Ab⟩) c];exact z i,⟨hl,t,a,cap,rfl,λi hi=>?_⟩,(d.cell (p:=⟨g,0,Ab⟩) c).trans y,(d.cell (p:=⟨g,1,Ab⟩) c).trans h5⟩;obtain ⟨b,f,rfl,x⟩:=hc i hi;obtain ⟨b',q,j,o⟩:=n i hi;injection j with j;injection j with e1' e2';subst e1' e2';exact ⟨b,f,rfl,λm hm=>(d.cell (p:=⟨b,f+m,Ab⟩) (Xp (o m hm))).trans (x m hm)⟩
theorem Z4e {c:Ag}{d:Af}{l:List Ent}(h:w.grownBy c (Ac g))(a:Ye c v w' d)(f:Zh wo w.heap.size v l):w.grownBy w' (Ac g):=
 ⟨a.g.os.trans h.os,a.g.tape.trans h.tape,a.g.output.trans h.output,Ap h.size a.g.size,λk hk hne=>(a.g.block k (Bk hk h.size) (λe=>by have:=(f.2.lt k e.symm).1;omega)).trans (h.block k hk hne)⟩
def entT (l:List Int)(k:Nat)(t:Int):Int:=if Z4 l k 5=0/\t<1073741824 then t+1 else t
def entE (l:List Int)(k:Nat)(t:Int):Ent:=if Z4 l (k+1) 6=0 then ⟨entT l k t,0,0,0,⟨#[]⟩,⟨#[]⟩,⟨#[]⟩⟩ else ⟨entT l k t,Z10 l (k+1+1),Jc l (k+1+1),Xa l (k+1+1),Z02 l (k+1+1),Xe l (k+1+1),Xf l (k+1+1)⟩
def Z8v (l:List Int)(k:Nat):Nat:=if Z4 l (k+1) 6=0 then k+1+1 else Jy l (k+1+1)
def Y0 (l:List Int)(k:Nat)(t:Int):Nat->List Ent×Nat×Int
 | 0=>([],k,t)
 | n+1=>((Y0 l k t n).1 ++ [entE l (Y0 l k t n).2.1 (Y0 l k t n).2.2],Z8v l (Y0 l k t n).2.1,entT l (Y0 l k t n).2.1 (Y0 l k t n).2.2)
theorem J9 (l:List Int)(k:Nat)(t:Int)(n:Nat):(Y0 l k t n).1.length=n:=by
 induction n with
 | zero=>rfl
 | succ n ih=>rw [Y0,List.length_append,ih];rfl
theorem entKn_le (l:List Int)(k:Nat):k<Z8v l k/\Z8v l k<=k+16:=by
 have:=cmdK_le l (k+1+1);unfold Z8v;split <;> omega
theorem Z2n (l:List Int)(k:Nat)(t:Int)(n:Nat):k<=(Y0 l k t n).2.1/\(Y0 l k t n).2.1<=k+16*n:=by
 induction n with
 | zero=>exact ⟨Ao _,Ao _⟩
 | succ n ih=>
  have:=entKn_le l (Y0 l k t n).2.1;rw [Y0];exact ⟨by show k<=Z8v l _;omega,by show Z8v l _<=_;omega⟩
theorem entT_le (l:List Int)(k:Nat)(t:Int)(a:0<=t)(c:t<=1073741824):t<=entT l k t/\entT l k t<=1073741824:=by
 unfold entT;split <;> omega
theorem entsD_t (l:List Int)(k:Nat)(t:Int)(n:Nat)(c:0<=t)(a:t<=1073741824):t<=(Y0 l k t n).2.2/\(Y0 l k t n).2.2<=1073741824:=by
 induction n with
 | zero=>exact ⟨Int.le_refl _,a⟩
 | succ n ih=>
  have:=entT_le l (Y0 l k t n).2.1 (Y0 l k t n).2.2 (by omega) ih.2;rw [Y0];exact ⟨Int.le_trans ih.1 this.1,this.2⟩
theorem entE_fits (l:List Int)(k:Nat)(t:Int):(entE l k t).fits:=by
 have h:=Z6r l (k+1+1);unfold entE;split
 ·exact ⟨(by decide:(⟨#[]⟩:ByteArray).size<=maxLen),(by decide:(⟨#[]⟩:ByteArray).size<=maxLen),(by decide:(⟨#[]⟩:ByteArray).size<=maxLen)⟩
 ·obtain ⟨_,_,_,_,_,_,_,c,a⟩:=h
  unfold Ent.fits maxLen;dsimp only;omega
theorem Xw (g:Nat)(w:Ag)(v:Af)(l:List Int)(k n:Nat)(t:Int)(hL:l.length<=1048576)(hk:k<=600000000)(hn:n<=100000)(ht:0<=t/\t<=1073741824)(h:Src w g v l k) :
  Ar Ad 96 #[Ae (Ac ⟨g,0,Ab⟩),Aa O n,Aa O t] w λr w'=>∃ ev,r=.returned ev/\Zh w' w.heap.size ev (Y0 l k t n).1/\Src w' g v l (Y0 l k t n).2.1/\w.grownBy w' (Ac g):=by
 have HS:=Z0 h;have m:=h.lt;clear h;go_enter func96,ntmps96;go_wp2
 go_loopw [2,7,8] (λt2 es i wr=>∃ j:Nat,j<=n/\i=Aa O j/\t2=Aa O (Y0 l k t j).2.2/\Zh wr w.heap.size es (Y0 l k t j).1/\Src wr g v l (Y0 l k t j).2.1/\w.grownBy wr (Ac g)) (λ_ _ i _=>n-(intOf i).toNat)
 case atStart=>exact ⟨0,Nat.zero_le _,rfl,rfl,Zh.made _ _ (Ao _),HS.below baq,World.grownBy_alloc _ _ _⟩
 case round=>
  obtain ⟨j,hj,rfl,rfl,ho,hs,ai⟩:=hrel;obtain ⟨la,lc,es⟩:=ho.shape;rw [J9] at es;subst es;have bj:=Z2n l k t j;have be:=entsD_t l k t j ht.1 ht.2;have hz:=ai.size;by_cases bh:j<n
  ·have hD:Y0 l k t (j+1)=((Y0 l k t j).1 ++ [entE l (Y0 l k t j).2.1 (Y0 l k t j).2.2],Z8v l (Y0 l k t j).2.1,entT l (Y0 l k t j).2.1 (Y0 l k t j).2.2):=rfl
   have al:=J9 l k t j;generalize (Y0 l k t j).1=L at *;generalize (Y0 l k t j).2.1=K at *;generalize (Y0 l k t j).2.2=TT at *;have HO:=Z0 ho;have a3:=Z0 ai;have HD:=Z0 hD;have ak:=Z0 al;have aj:=entE_fits l K TT;have a2:Ah (Ar Ad 53 #[Ae (Ac ⟨g,0,Ab⟩),Aa O 5] wr λe w'=>e=Aj (Aa O (Z4 l K 5:Nat))/\Src w' g v l (K+1)/\wr.grownBy w' (Ac g)):=Zk g wr v l K 5 hL (by omega) (by decide) (by decide) hs;have a7:∀ u:Ag,Src u g v l (K+1)->Ah (Ar Ad 53 #[Ae (Ac ⟨g,0,Ab⟩),Aa O 6] u λe w'=>e=Aj (Aa O (Z4 l (K+1) 6:Nat))/\Src w' g v l (K+1+1)/\u.grownBy w' (Ac g)):=λu h=>Zk g u v l (K+1) 6 hL (by omega) (by decide) (by decide) h
   have bb:∀ u:Ag,Src u g v l (K+1+1)->Ah (Ar Ad 105 #[Ae (Ac ⟨g,0,Ab⟩)] u λr w'=>r=Aj (Aw (cqN (Z10 l (K+1+1)) (Jc l (K+1+1)) (Xa l (K+1+1)) (Z02 l (K+1+1)) (Xe l (K+1+1)) (Xf l (K+1+1))))/\Src w' g v l (Jy l (K+1+1))/\u.grownBy w' (Ac g)):=λu h=>Z4w g u v l (K+1+1) hL (by omega) h
   have a5:entT l K TT=if Z4 l K 5=0/\TT<1073741824 then TT+1 else TT:=rfl
   have ah:entE l K TT=if Z4 l (K+1) 6=0 then ⟨entT l K TT,0,0,0,⟨#[]⟩,⟨#[]⟩,⟨#[]⟩⟩ else ⟨entT l K TT,Z10 l (K+1+1),Jc l (K+1+1),Xa l (K+1+1),Z02 l (K+1+1),Xe l (K+1+1),Xf l (K+1+1)⟩:=rfl
   have ag:Z8v l K=if Z4 l (K+1) 6=0 then K+1+1 else Jy l (K+1+1):=rfl
   have b5:=Z6 l K 5;have b6:=Z6 l (K+1) 6;generalize entE l K TT=E at *;generalize Z8v l K=KN at *;generalize entT l K TT=TN at *;generalize Z4 l K 5=p5 at *;generalize Z4 l (K+1) 6=p6 at *;generalize Z10 l (K+1+1)=m1 at *;generalize Jc l (K+1+1)=m2 at *;generalize Xa l (K+1+1)=m3 at *;generalize Z02 l (K+1+1)=m4 at *;generalize Xe l (K+1+1)=m5 at *;generalize Xf l (K+1+1)=m6 at *;generalize Jy l (K+1+1)=KC at *;have bi:(j:Int)<(n:Int):=by omega
   have y1:True:=trivial;clear ho hs ai hD al;have hx:(TN=TT/\(p5≠0∨(p5=0/\¬ TT<1073741824)))∨(p5=0/\TT<1073741824/\TT+1=TN):=by rw [a5];split <;> omega
   rcases hx with ⟨rfl,h5 | ⟨rfl,h5⟩⟩ | ⟨rfl,h5,e9⟩
   all_goals try have n5:((p5:Int) == 0)=false:=by rw [beq_eq_false_iff_ne];omega
   all_goals
    clear a5;by_cases h6:p6=0
    ·subst h6
     have HE:=Z0 ((show E=⟨TN,0,0,0,⟨#[]⟩,⟨#[]⟩,⟨#[]⟩⟩ by rw [ah,if_pos rfl]));obtain rfl:KN=K+1+1:=by rw [ag,if_pos rfl]
     clear ah ag
     go_wp2_with (first
      |(go_at_call 53;clear y1;refine Am a2 ?_;rintro e w1 ⟨rfl,x,d⟩;have z1:=d.size;have ab:=Z0 x;have av:=Z0 (Z8 a3 d);have aa:=Z0 (HO.grown d m);clear x d)
      |(have f:=ab;refine Zn 118 _ _ rfl ?_;clear f;refine Zt rfl 118 _ _ rfl _ rfl rfl rfl Jk rfl rfl (by simp [Bh]) ?_;obtain ⟨W2,a⟩:=exq (w1.alloc (At (eqN TN 0 0 0 ⟨#[]⟩ ⟨#[]⟩ ⟨#[]⟩) 118));rw [<-a];have ar:Ah (Src W2 g v l (K+1)):=(a▸ab.alloc _);have ad:Ah (Blk W2 w1.heap.size (eqN TN 0 0 0 ⟨#[]⟩ ⟨#[]⟩ ⟨#[]⟩) 118):=(a▸Blk.new _ _ _);have az:Ah (w.grownBy W2 (Ac g)):=(a▸Z8 av (World.grownBy_alloc _ _ _));have ax:Ah (Zh W2 w.heap.size (I la j lc) L):=(a▸aa.below baq);have a4:=Z0 ((λq hq=>(aa.2.lt q hq).2));clear a)
      |(go_at_call 53;refine Am (a7 _ ar).out ?_;rintro e w3 ⟨rfl,s,c⟩;have z3:=c.size;have z2:=ad.lt;have am:=Z0 s;have ac:=Z0 (ad.grown c);have ae:=Z0 (Z8 az c);have p:=Z0 (ax.grown c m);clear s c)
      |(have f:=ac;refine Zd 118 _ rfl ?_;clear f;refine Z7 rfl 118 _ rfl _ rfl ac underlying118 rfl Jk rfl ?_;have a0:Ah (Ja (w3.alloc (At (eqN TN 0 0 0 ⟨#[]⟩ ⟨#[]⟩ ⟨#[]⟩) 118)) w3.heap.size 0 E):=(HE.out▸Z38 w3 ⟨TN,0,0,0,⟨#[]⟩,⟨#[]⟩,⟨#[]⟩⟩))
      |(at_builtin;refine Xv rfl _ _ rfl E aj (Zh.below p baq) rfl _ 1 a0 rfl (by rw [ak.out];omega) (by have aw:=ae.size;simp;omega) ?_;intro v1 w9 y o;have au:=Z0 y;have ay:=Z0 (Z4g (am.alloc _) HS.2.2.1 (by have aw:=ae.size;simp;omega) o p m);have ao:=Z0 (Z4e (Z8 ae (World.grownBy_alloc _ _ _)) o p);clear y o))
     go_roundw
     case rel=>exact ⟨j+1,by omega,by go_num,by rw [HD.out],HD.out▸au,HD.out▸ay,ao.out⟩
     case measure=>simp [intOf];omega
    ·have n6:((p6:Int) != 0)=true:=by rw [bne_iff_ne];omega
     have HE:=Z0 ((show E=⟨TN,m1,m2,m3,m4,m5,m6⟩ by rw [ah,if_neg h6]));obtain rfl:KN=KC:=by rw [ag,if_neg h6]
     clear ah ag
     go_wp2_with (first
      |(go_at_call 53;clear y1;refine Am a2 ?_;rintro e w1 ⟨rfl,x,d⟩;have z1:=d.size;have ab:=Z0 x;have av:=Z0 (Z8 a3 d);have aa:=Z0 (HO.grown d m);clear x d)
      |(have f:=ab;refine Zn 118 _ _ rfl ?_;clear f;refine Zt rfl 118 _ _ rfl _ rfl rfl rfl Jk rfl rfl (by simp [Bh]) ?_;obtain ⟨W2,a⟩:=exq (w1.alloc (At (eqN TN 0 0 0 ⟨#[]⟩ ⟨#[]⟩ ⟨#[]⟩) 118));rw [<-a];have ar:Ah (Src W2 g v l (K+1)):=(a▸ab.alloc _);have ad:Ah (Blk W2 w1.heap.size (eqN TN 0 0 0 ⟨#[]⟩ ⟨#[]⟩ ⟨#[]⟩) 118):=(a▸Blk.new _ _ _);have az:Ah (w.grownBy W2 (Ac g)):=(a▸Z8 av (World.grownBy_alloc _ _ _));have ax:Ah (Zh W2 w.heap.size (I la j lc) L):=(a▸aa.below baq);have a4:=Z0 ((λq hq=>(aa.2.lt q hq).2));clear a)
      |(go_at_call 53;refine Am (a7 _ ar).out ?_;rintro e w3 ⟨rfl,s,c⟩;have z3:=c.size;have z2:=ad.lt;have am:=Z0 s;have ac:=Z0 (ad.grown c);have ae:=Z0 (Z8 az c);have p:=Z0 (ax.grown c m);clear s c)
      |(go_at_call 105;refine Am (bb _ am).out ?_;rintro e w4 ⟨rfl,a6,z⟩;have z4:=z.size;have bg:=ac.lt;have bc:=Z0 a6;have af:=Z0 (ac.grown z);have bd:=Z0 (Z8 ae z);have ba:=Z0 (p.grown z m);have a8:=Z0 (Z0r af.there 1 6 (by simp));clear a6 z)
      |(have f:=af;refine Z55 44 _ _ rfl ?_;clear f;refine wpList_store_mid rfl 44 _ _ rfl _ 1 _ rfl rfl a8.out infoCmd6 (by simp [Bh]) ?_;obtain ⟨U,hU⟩:=exq (w4.setCells w1.heap.size 1 [Aa O m1,Aa O m2,Aa O m3,Az m4,Az m5,Az m6]);rw [show w4.setCells w1.heap.size 1 ((cqN m1 m2 m3 m4 m5 m6):Array Af).toList=U from hU.symm];have bk:Ah (U.heap.size=w4.heap.size):=(hU▸Z4k _ _ _);have a1:Ah (Blk U w1.heap.size (eqN TN m1 m2 m3 m4 m5 m6) 118):=(hU▸(((((af.set 1 _).set 2 _).set 3 _).set 4 _).set 5 _).set 6 _);have a9:Ah (Src U g v l KN):=(hU▸srcCells bc af (by omega));have an:Ah (w.grownBy U (Ac g)):=(hU▸Z6g bd (by omega));have aq:Ah (Zh U w.heap.size (I la j lc) L):=(hU▸ba.block λq hq=>Z3e (by have:=a4.out q hq;omega) _ _ _);clear hU)
      |(have f:=a1;refine Zd 118 _ rfl ?_;clear f;refine Z7 rfl 118 _ rfl _ rfl a1 underlying118 rfl Jk rfl ?_;have a0:Ah (Ja (U.alloc (At (eqN TN m1 m2 m3 m4 m5 m6) 118)) U.heap.size 0 E):=(HE.out▸Z38 U ⟨TN,m1,m2,m3,m4,m5,m6⟩))
      |(at_builtin;refine Xv rfl _ _ rfl E aj (Zh.below aq baq) rfl _ 1 a0 rfl (by rw [ak.out];omega) (by have aw:=an.size;simp;omega) ?_;intro v1 w9 y o;have au:=Z0 y;have ay:=Z0 (Z4g (a9.alloc _) HS.2.2.1 (by have aw:=an.size;simp;omega) o aq m);have ao:=Z0 (Z4e (Z8 an (World.grownBy_alloc _ _ _)) o aq);clear y o))
     go_roundw
     case rel=>exact ⟨j+1,by omega,by go_num,by rw [HD.out],HD.out▸au,HD.out▸ay,ao.out⟩
     case measure=>simp [intOf];omega
  ·obtain rfl:j=n:=by omega
   go_wp2;go_ret;exact ⟨_,rfl,ho,hs,ai⟩
end
section
def J4 (T:Int)(e:Ent):Ent:=⟨T,e.cl,e.sq,e.op,e.k,e.v,e.o⟩
def Z2d (T:Int)(e:Ent):Ent:=if T<e.t then J4 T e else e
variable {w0 w:Ag}{g k:Nat}{v:Af}
theorem Dr.pick1 {l:List Int}{F:List (Nat×Array Af×Ax)}(h:Dr w0 w g v l k F)(n:Nat)(hL:l.length<=1048576:=by assumption)(c:k<=900000000:=by omega)(b:0<n:=by omega)(d:n<=256:=by omega) :
  Ar Ad 53 #[Ae (Ac ⟨g,0,Ab⟩),Aa O n] w λe w'=>e=Aj (Aa O (Z4 l k n:Nat))/\Dr w0 w' g v l (k+1) F:=by
 have:=h.pick n hL c b
 rwa [show Zf n=1 by unfold Zf;rw [if_pos d]] at this
theorem Dr.pickG {l:List Int}{F:List (Nat×Array Af×Ax)}(h:Dr w0 w g v l k F)(n:Nat)(hL:l.length<=1048576:=by assumption)(c:k<=900000000:=by omega)(b:0<n:=by omega)(d:n<=256:=by omega) :
  Ar Ad 53 #[Ae (Ac ⟨g,0,Ab⟩),Aa O n] w λe w'=>e=Aj (Aa O (Z4 l k n:Nat))/\Dr w0 w' g v l (k+1) F/\w.grownBy w' (Ac g):=by
 have:=Zk g w v l k n hL c b (by omega) h.src;rw [show Zf n=1 by unfold Zf;rw [if_pos d]] at this;exact this.mono λe w' ⟨h1,h2,h3⟩=>⟨h1,h.call h2 h3,h3⟩
variable {a:Option B4}{cap:Nat}{l:List Ent}
theorem esAt (h:Es w (I a l.length cap) l)(f:k<l.length):∃ b c,a=Ac ⟨b,c,Ab⟩/\Ja w b (c+k*7) l[k]:=by
 obtain ⟨_,_,m,d,e,i⟩:=h;injection e with e1 _ _;subst e1;obtain ⟨b,c,rfl,j⟩:=i k f;exact ⟨b,c,rfl,j k f⟩
variable {B n:Nat}
theorem Z1t (h:Zh w B (I a n cap) l)(f:n=l.length)(i:k<l.length)(o:n<=maxLen):∃ q,a=Ac ⟨q,0,Ab⟩/\Ja w q (k*7) l[k]/\∀ j,w.frozen? ⟨q,j,Ab⟩=false:=by
 subst f;obtain ⟨q,c,e⟩:=h.shape';injection e with e1 e2 e3;subst e1 e3;obtain ⟨b,m,e,d⟩:=esAt (h.es o) i;injection e with e;injection e with f1 f2;subst f1 f2;rw [Nat.zero_add] at d;exact ⟨_,rfl,d,λj=>h.2.frozenAt j⟩
theorem entCells_setT (l:List Ent):∀(i:Nat) (hi:i<l.length) (T:Int),Zv (l.set i (J4 T l[i]))=(Zv l).set (i*7) (Aa O T):=by
 induction l with
 | nil=>intro i hi;simp at hi
 | cons e l ih=>
  intro i hi T
  cases i with
  | zero=>simp [Zv,Ent.cells,J4]
  | succ i=>
   have b:i<l.length:=by simpa using hi
   simp only [List.set_cons_succ,List.getElem_cons_succ,Zv];rw [ih i b T,List.set_append,if_neg (by simp [Ent.cells];omega)];congr 2;simp [Ent.cells];omega
theorem Zh.setT {q c:Nat}(h:Zh w B (I (Ac ⟨q,0,Ab⟩) n c) l)(b:n=l.length)(i:Nat)(hi:i<l.length)(T:Int):Zh (w.setCell ⟨q,i*7,Ab⟩ (Aa O T)) B (I (Ac ⟨q,0,Ab⟩) n c) (l.set i (J4 T l[i])):=by
 subst b;refine ⟨λe he=>?_,?_⟩
 ·rcases List.mem_or_eq_of_mem_set he with he | he
  ·exact h.1 e he
  ·subst he;have d:=h.1 _ (Bp hi);exact d
 ·rw [List.length_set,entCells_setT l i hi T]
  exact (h.2.stored _ _).1
end
def lowV (L:List Ent)(j:Nat):Int:=if j=0 then 1 else (L[j-1]?.map (·.t)).getD 1
theorem lowV_succ (L:List Ent)(j:Nat)(h:j<L.length):lowV L (j+1)=L[j].t:=by
 unfold lowV;rw [ifo];simp [List.getElem?_eq_getElem h]
theorem infoStb:(Tryz.prog.info? 104).map (·.size)=Ac 3:=by kernel_rfl
def stE (l:List Int)(k n:Nat):List Ent×Nat×Int:=Y0 l (k+1+1+1) (1+((Z4 l (k+1+1) 3:Nat):Int)) (Z4 l (k+1) (n+1))
def stT (l:List Int)(k n:Nat):Int:=if Z4 l ((stE l k n).2.1+1) 14=0 then 1073741824 else lowV (stE l k n).1 (stE l k n).1.length+((Z4 l (stE l k n).2.1 3:Nat):Int)
def stD (l:List Int)(k n:Nat):Int×Int×List Ent×Nat:=
 if Z4 l k 12=0 then (0,0,[],k+1) else (stT l k n,((Z4 l ((stE l k n).2.1+1+1) 8:Nat):Int),(stE l k n).1,(stE l k n).2.1+1+1+1)
theorem entsD_memS (l:List Int)(k:Nat)(t:Int)(n:Nat)(d:0<=t)(c:t<=1073741824):∀ e∈(Y0 l k t n).1,0<=e.t/\e.t<=1073741824:=by
 induction n with
 | zero=>intro e a;simp [Y0] at a
 | succ n ih=>
  intro e a;rw [Y0] at a;rcases List.mem_append.1 a with a | a
  ·exact ih e a
  ·simp only [List.mem_singleton] at a
   have b:=entsD_t l k t n d c;have f:=entT_le l (Y0 l k t n).2.1 (Y0 l k t n).2.2 (by omega) b.2;subst a;unfold entE;split <;> (dsimp only;omega)
theorem Z1g {w w':Ag}{B b:Nat}{v:Af}{l:List Ent}{C:Array Af}{t:Ax}(h:Zh w B v l)(c:Blk w b C t)(a:118≠t)(d:∀ q,q≠b->w'.heap[q]? = w.heap[q]?):Zh w' B v l:=
 h.block λq hq=>d q (λe=>ownsRow.neBlk h.2 c a (by rw [hq,e]))
theorem Z1h (w:Ag)(b j:Nat)(x:Af):∀ q,q≠b->(w.setCell ⟨b,j,Ab⟩ x).heap[q]? = w.heap[q]?:=λq hq=>Ak _ _ _ _ hq
theorem Z6x (g:Nat)(w:Ag)(v:Af)(l:List Int)(k n:Nat)(hL:l.length<=1048576)(hk:k<=400000000)(hn:n<=200)(h:Src w g v l k) :
  Ar Ad 92 #[Ae (Ac ⟨g,0,Ab⟩),Aa O n] w λr w'=>∃ ea ec,r=Aj (Aw #[Aa O (stD l k n).1,Aa O (stD l k n).2.1,I ea (stD l k n).2.2.1.length ec])/\Zh w' w.heap.size (I ea (stD l k n).2.2.1.length ec) (stD l k n).2.2.1/\Src w' g v l (stD l k n).2.2.2/\w.grownBy w' (Ac g):=by
 have ai:=h.lt
 have aw:Ah (Dr w ((w.alloc (At #[Aa O 0,Aa O 0,I Ab 0 0] 104)).alloc (At #[Aa O 0,Aa O 0,I Ab 0 0] 104)) g v l k [(w.heap.size,#[Aa O 0,Aa O 0,I Ab 0 0],104),(w.heap.size+1,#[Aa O 0,Aa O 0,I Ab 0 0],104)]):=by
  have hX:=((Dr.start h).new #[Aa O 0,Aa O 0,I Ab 0 0] 104 (Zr)).new #[Aa O 0,Aa O 0,I Ab 0 0] 104 (Zr);have hY:Dr w ((w.alloc (At #[Aa O 0,Aa O 0,I Ab 0 0] 104)).alloc (At #[Aa O 0,Aa O 0,I Ab 0 0] 104)) g v l k [(w.heap.size,#[Aa O 0,Aa O 0,I Ab 0 0],104),(w.heap.size+1,#[Aa O 0,Aa O 0,I Ab 0 0],104)]:=by simpa using hX
  exact hY
 clear h;unfold stD;have bp:=Z6 l k 12;obtain ⟨p,hp⟩:=exq (Z4 l k 12);have Hp:=Z0 hp;rw [<-hp] at bp ⊢;clear hp;by_cases c0:p=0
 ·subst c0
  rw [if_pos rfl];dsimp only;go_enter func92,ntmps92
  go_wp2_with (go_at_call 53;refine (aw.pickG 12).mono ?_;rintro e w1 ⟨rfl,a,b⟩;rw [<-Hp.out];have j:=Z0 a;have ch:=(a.blk 1).cell;have cc:=(a.blk 0).cell;have cn:=(a.blk 0).free;clear a b)
  have d2:=j.set 0 rfl 0 (by simp) (Aa O 0);have d3:=d2.set 0 rfl 1 (by simp) (Aa O 0);have d4:=d3.set 0 rfl 2 (by simp) (I Ab 0 0);exact A8 (Zl results92 rfl (d4.blk 0 rfl) underlying104 rfl infoStb rfl) rfl ⟨Ab,0,rfl,Zh.nil _ _,d4.src,d4.grown⟩
 ·rw [if_neg c0]
  have c1:((p:Int) == 0)=false:=by rw [beq_eq_false_iff_ne];omega
  dsimp only;have c:Ah (stT l k n=if Z4 l ((stE l k n).2.1+1) 14=0 then 1073741824 else lowV (stE l k n).1 (stE l k n).1.length+((Z4 l (stE l k n).2.1 3:Nat):Int)):=(rfl:stT l k n=_);generalize stT l k n=TT at *;have i:Ah (stE l k n=Y0 l (k+1+1+1) (1+((Z4 l (k+1+1) 3:Nat):Int)) (Z4 l (k+1) (n+1))):=(rfl:stE l k n=_);have bo:=Z6 l (k+1) (n+1);obtain ⟨d,al⟩:=exq (Z4 l (k+1) (n+1));have bk:=Z0 al;have be:=Z6 l (k+1+1) 3;obtain ⟨t3,ah⟩:=exq (Z4 l (k+1+1) 3);have bh:=Z0 ah;rw [<-al] at bo i;rw [<-ah] at be i;clear al ah;obtain ⟨D,z,TD,a0⟩:∃ D z TD,stE l k n=(D,z,TD):=⟨_,_,_,rfl⟩;rw [a0] at c i ⊢;clear a0;dsimp only at c ⊢;have ab:=J9 l (k+1+1+1) (1+(t3:Int)) d;have ax:=Z2n l (k+1+1+1) (1+(t3:Int)) d;rw [<-i.out] at ab ax;dsimp only at ab ax
  have ae:0<=lowV D D.length/\lowV D D.length<=1073741824:=by
   have a2:=entsD_memS l (k+1+1+1) (1+(t3:Int)) d (by omega) (by omega);rw [<-i.out] at a2;rcases Nat.eq_zero_or_pos D.length with h0 | h0
   ·rw [h0];exact ⟨(by show (0:Int)<=1;omega),(by show (1:Int)<=1073741824;omega)⟩
   ·have h1:=lowV_succ D (D.length-1) (by omega)
    rw [show D.length-1+1=D.length by omega] at h1;rw [h1];exact a2 _ (Bp _)
  obtain ⟨lw,ag⟩:=exq (lowV D D.length);rw [<-ag] at ae c;have a6:=Z0 ag;obtain ⟨b2,b8⟩:=ae;clear ag;have bg:=Z6 l z 3;obtain ⟨q3,ak⟩:=exq (Z4 l z 3);have bi:=Z0 ak;have ao:=Z6 l (z+1) 14;obtain ⟨aq,y⟩:=exq (Z4 l (z+1) 14);have a9:=Z0 y;have bd:=Z6 l (z+1+1) 8;obtain ⟨q8,aj⟩:=exq (Z4 l (z+1+1) 8);have bn:=Z0 aj;rw [<-ak] at bg c;rw [<-y] at ao c;rw [<-aj] at bd ⊢;clear ak y aj
  have a4:=Z0 λu hu=>by
   have:=Xw g u v l (k+1+1+1) d (1+(t3:Int)) hL (by omega) (by omega) ⟨by omega,by omega⟩ hu;rw [<-i.out] at this;exact this
  have a7:Ah (∀ u:Ag,Dr w u g v l (k+1) [(w.heap.size,#[Aa O 0,Aa O 0,I Ab 0 0],104),(w.heap.size+1,#[Aa O 0,Aa O 0,I Ab 0 0],104)]->Ar Ad 53 #[Ae (Ac ⟨g,0,Ab⟩),Aa O ((n:Int)+1)] u λe w'=>e=Aj (Aa O (d:Nat))/\Dr w w' g v l (k+1+1) [(w.heap.size,#[Aa O 0,Aa O 0,I Ab 0 0],104),(w.heap.size+1,#[Aa O 0,Aa O 0,I Ab 0 0],104)]):=λu hu=>by
   rw [bk.out];exact hu.pick1 (n+1)
  clear i;have f:=Z0 ab;clear ab;have A1:True:=trivial;have A2:True:=trivial;go_enter func92,ntmps92
  go_upto_if 24 with (first
   |(go_at_call 53;clear A1;refine (aw.pickG 12).mono ?_;rintro e w1 ⟨rfl,a,b⟩;rw [<-Hp.out];have j:=Z0 a;have bu:=(a.blk 1).cell;have b7:=(a.blk 1).free;clear a b)
   |(go_at_call 53;clear A2;refine (a7 _ j).mono ?_;rintro e w2 ⟨rfl,a⟩;have af:=Z0 a;clear a)
   |(go_at_call 53;refine (af.pickG 3).mono ?_;rintro e w3 ⟨rfl,a,b⟩;rw [<-bh.out];have o:=Z0 a;have bz:=(a.blk 1).cell;have bv:=(a.blk 1).free;clear a b)
   |(go_at_call 96;refine (a4 _ o.src).mono ?_;rintro e w4 ⟨mv,rfl,am,ay,a8⟩;have s:=Z0 (o.call ay a8);obtain ⟨ea,ec,a5⟩:=am.shape;rw [f.out] at a5;subst a5;have av:=Z0 (am.le o.size);clear am ay a8))
  clear a4 a7 j af o
  go_cut [7] (λs7 wx=>s7=Aa O lw/\wx=w4)
  case first=>
   cases d with
   | zero=>
    have aa:lw=1:=by rw [a6.out,f.out];rfl
    have bb:=Z0 aa;clear aa
    go_wp2_with fail
    go_meet;exact ⟨by rw [bb.out],rfl⟩
   | succ m=>
    have az:m<D.length:=by rw [f.out];omega
    have aa:lw=D[m].t:=by rw [a6.out,f.out];exact lowV_succ D m az
    obtain ⟨q,ha,⟨d0,_⟩,_⟩:=Z1t av f.symm (k:=m) az (by unfold maxLen;omega);rw [<-aa] at d0;subst ha;have cd:(m:Int)<(m:Int)+1:=by omega
    clear aa
    go_wp2_with fail
    go_meet;exact ⟨rfl,rfl⟩
  case rest=>
   obtain ⟨rfl,rfl⟩:=hcut;have ca:=(s.blk 1).cell;have cf:=(s.blk 1).free;obtain ⟨W4,bm⟩:=exq (wc);subst bm;have au:Ah (Dr w (W4.setCell ⟨w.heap.size+1,2,Ab⟩ (I ea d ec)) g v l z [(w.heap.size,#[Aa O 0,Aa O 0,I Ab 0 0],104),(w.heap.size+1,#[Aa O 0,Aa O 0,I ea d ec],104)]):=s.set 1 rfl 2 (by simp) (I ea d ec);have a1:Ah (Zh (W4.setCell ⟨w.heap.size+1,2,Ab⟩ (I ea d ec)) w.heap.size (I ea d ec) D):=Z1g av (s.blk 1 rfl) (by decide) (Z1h _ _ _ _);have A3:True:=trivial
   go_upto_if 41 with (first
    |(go_at_call 53;clear A3;refine (au.pickG 3).mono ?_;rintro e w5 ⟨rfl,a,b⟩;rw [<-bi.out];have br:=Z0 a;have bx:=(a.blk 1).cell;have bw:=(a.blk 1).free;have a3:=Z0 (a1.grown b ai);have ar:Ah (Dr w (w5.setCell ⟨w.heap.size+1,0,Ab⟩ (Aa O (lw+(q3:Int)))) g v l (z+1) [(w.heap.size,#[Aa O 0,Aa O 0,I Ab 0 0],104),(w.heap.size+1,#[Aa O (lw+(q3:Int)),Aa O 0,I ea d ec],104)]):=a.set 1 rfl 0 (by simp) (Aa O (lw+(q3:Int)));have ba:Ah (Zh (w5.setCell ⟨w.heap.size+1,0,Ab⟩ (Aa O (lw+(q3:Int)))) w.heap.size (I ea d ec) D):=Z1g a3 (a.blk 1 rfl) (by decide) (Z1h _ _ _ _);clear a b)
    |(go_at_call 53;refine (ar.pickG 14).mono ?_;rintro e w6 ⟨rfl,a,b⟩;rw [<-a9.out];have x:=Z0 a;have bq:=(a.blk 1).cell;have b0:=(a.blk 1).free;have ac:=Z0 (ba.grown b ai);clear a b))
   go_cut [41] (λ_ wx=>Zh wx w.heap.size (I ea d ec) D/\Dr w wx g v l (z+1+1) [(w.heap.size,#[Aa O 0,Aa O 0,I Ab 0 0],104),(w.heap.size+1,#[Aa O TT,Aa O 0,I ea d ec],104)])
   case first=>
    by_cases c14:aq=0
    ·subst c14
     rw [if_pos rfl] at c;have hT:=c.out;subst hT
     go_wp2_with fail
     go_meet;exact ⟨Z1g ac (x.blk 1 rfl) (by decide) (Z1h _ _ _ _),x.set 1 rfl 0 (by simp) (Aa O 1073741824)⟩
    ·rw [if_neg c14] at c
     have hT:=c.out;subst hT;have c15:((aq:Int) == 0)=false:=by rw [beq_eq_false_iff_ne];omega
     go_wp2_with fail
     go_meet;exact ⟨ac,x.out⟩
   case rest=>
    obtain ⟨ho,hd⟩:=hcut;have bj:=Z0 ho;have bc:=Z0 hd;clear ho hd
    go_wp2_with (go_at_call 53;refine (bc.pickG 8).mono ?_;rintro e w8 ⟨rfl,a,b⟩;rw [<-bn.out];have ad:=Z0 a;have b6:=(a.blk 1).cell;have b3:=(a.blk 1).free;have an:=Z0 (bj.grown b ai);have ce:=(a.blk 0).cell;have cj:=(a.blk 0).free;clear a b)
    have d1:=ad.set 1 rfl 1 (by simp) (Aa O (q8:Int));have o1:=Z1g an (ad.blk 1 rfl) (by decide) (Z1h _ _ 1 (Aa O (q8:Int)));have d2:=d1.set 0 rfl 0 (by simp) (Aa O TT);have d3:=d2.set 0 rfl 1 (by simp) (Aa O (q8:Int));have d4:=d3.set 0 rfl 2 (by simp) (I ea d ec);have o2:=Z1g o1 (d1.blk 0 rfl) (by decide) (Z1h _ _ 0 (Aa O TT));have o3:=Z1g o2 (d2.blk 0 rfl) (by decide) (Z1h _ _ 1 (Aa O (q8:Int)));have o4:=Z1g o3 (d3.blk 0 rfl) (by decide) (Z1h _ _ 2 (I ea d ec));exact A8 (Zl results92 rfl (d4.blk 0 rfl) underlying104 rfl infoStb rfl) rfl ⟨ea,ec,by rw [f.out];rfl,f.out▸o4,d4.src,d4.grown⟩
def ndZ:Nd:=⟨0,0,0,0,0,0,0,0,0,0,0,0,[],[],[],[],[],[]⟩
def newN (id sz el bt t v dr:Int)(lg:List Ent):Nd:=if newB id sz el bt t v lg then ⟨id,sz,el,bt,t,v,0,0,0,0,Jf el dr,0,lg,[],[],[],[],[]⟩ else ndZ
structure DnH where
 sz:Nat
 el:Nat
 id:Nat
 k:Nat
def dnH (l:List Int)(k:Nat):DnH:=
 let sz:=if Z4 l (k+1) 2=0 then 3 else 3+2*Z4 l k 3
 let el:=if Z4 l (k+1+1+1) 10=0 then 1000 else 2+Z4 l (k+1+1) 12
 ⟨sz,el,1+Z4 l (k+1+1+1+1) sz,k+1+1+1+1+1⟩
theorem dnH_le (l:List Int)(k:Nat):3<=(dnH l k).sz/\(dnH l k).sz<=7/\2<=(dnH l k).el/\(dnH l k).el<=1000/\1<=(dnH l k).id/\(dnH l k).id<=(dnH l k).sz:=by
 have d:=Z6 l k 3;have c:=Z6 l (k+1+1) 12;have a:3<=(dnH l k).sz/\(dnH l k).sz<=7:=by unfold dnH;dsimp only;split <;> omega
 have b:2<=(dnH l k).el/\(dnH l k).el<=1000:=by unfold dnH;dsimp only;split <;> omega
 have e:=Z6 l (k+1+1+1+1) (dnH l k).sz;have hi:(dnH l k).id=1+Z4 l (k+1+1+1+1) (dnH l k).sz:=rfl;omega
structure DnS where
 n:Nd
 k:Nat
def dn0 (l:List Int)(k n:Nat):DnS:=
 let s:=stD l k n
 let h:=dnH l s.2.2.2
 ⟨newN h.id h.sz h.el (1+(Z4 l h.k h.el:Nat)) s.1 (s.2.1%(h.sz+1)) (Yo l (h.k+Zf h.el)) s.2.2.1,h.k+Zf h.el+1⟩
def Z0v (l:List Int)(d:DnS):DnS:=
 if Z4 l (d.k+1) 20=0 then ⟨{ d.n with nw:=1099511627776-(Z4 l (d.k+1+1) 2:Nat) },d.k+1+1+1⟩ else ⟨{ d.n with nw:=(Z4 l d.k 40:Nat) },d.k+1+1⟩
def Z11 (l:List Int)(el:Nat)(d:DnS):DnS:=
 let q:=d.k+Zf (2*el+1)
 if Z4 l q 3=0 then ⟨{ d.n with dl:=d.n.nw+(Z4 l (q+1) 2:Nat) },q+1+1⟩ else ⟨{ d.n with dl:=d.n.nw+(Z4 l d.k (2*el+1):Nat) },q+1⟩
def Z1v (l:List Int)(el:Nat)(d:DnS):DnS:=
 let m:=min d.n.nw.toNat (2*el)+1
 ⟨{ d.n with hd:=d.n.nw-(Z4 l d.k m:Nat) },d.k+Zf m⟩
def Z2v (l:List Int)(d:DnS):DnS:=⟨{ d.n with cm:=(Z4 l d.k (d.n.log.length+1):Nat) },d.k+Zf (d.n.log.length+1)⟩
def Z1x (l:List Int)(h:DnH)(T:Int)(d:DnS):DnS:=
 let q:=Z4 l d.k 8
 if q=0 then
  let x:Int:=1+(((h.id:Int)+(Z4 l (d.k+1) (h.sz-1):Nat))%(h.sz:Int))
  ⟨{ d.n with ld:=if x=h.id then 0 else x },d.k+1+1⟩
 else if q<3 then ⟨{ d.n with ro:=1 },d.k+1⟩
 else if q<5/\0<T then ⟨{ d.n with ro:=2,vo:=h.id },d.k+1⟩
 else if 4<q/\0<T then ⟨{ d.n with ro:=3,vo:=h.id,ld:=h.id },d.k+1⟩
 else ⟨d.n,d.k+1⟩
structure DnG where
 gr:List Int
 ex:Nat
 k:Nat
def Je (l:List Int)(id:Nat)(s:DnG):Nat->DnG
 | 0=>s
 | j+1=>
  let r:=Je l id s j
  if j+1=id then ⟨r.gr ++ [(j:Int)+1],r.ex,r.k⟩
  else if 0<r.ex then (if Z4 l r.k 2=0 then ⟨r.gr ++ [(j:Int)+1],r.ex-1,r.k+1⟩ else ⟨r.gr,r.ex,r.k+1⟩)
  else r
def Z0d (l:List Int)(h:DnH)(d:DnS):DnS:=
 if d.n.ro=1∨d.n.ro=2 then
  let r:=Je l h.id ⟨d.n.gr,Z4 l d.k (h.sz / 2),d.k+1⟩ h.sz
  ⟨{ d.n with gr:=r.gr },r.k⟩
 else d
def X6 (T:Int)(L:List Ent)(o:Nat):List Ent:=L.take (L.length-o) ++ (L.drop (L.length-o)).map (J4 T)
structure DnR where
 nx:List Int
 mt:List Int
 se:List Int
 st:List Int
 k:Nat
def Xq (l:List Int)(h:DnH)(LN:Nat)(nw:Int)(s:DnR):Nat->DnR
 | 0=>s
 | j+1=>
  let r:=Xq l h LN nw s j
  if j+1=h.id then ⟨r.nx ++ [0],r.mt ++ [0],r.se ++ [0],r.st ++ [0],r.k⟩
  else
   let m6:=min LN 6+1
   let next:Nat:=LN+1-Z4 l r.k m6
   let k1:=r.k+1
   let mt0:=Z4 l k1 next
   let k2:=k1+Zf next
   let mt:Int:=if Z4 l k2 2=0 then (next:Int)-1 else mt0
   let bk:=min nw.toNat (h.el+2)+1
   let se:Int:=nw-(Z4 l (k2+1) bk:Nat)
   let st:Int:=nw-(Z4 l (k2+1+Zf bk) bk:Nat)
   ⟨r.nx ++ [(next:Int)],r.mt ++ [mt],r.se ++ [se],r.st ++ [st],k2+1+Zf bk+Zf bk⟩
def Z34 (l:List Int)(h:DnH)(d:DnS):DnS:=
 if d.n.ro=3 then
  let lg:=X6 d.n.tm d.n.log (Z4 l d.k 4)
  let cm:Int:=if Z4 l (d.k+1) 2=0 then max 0 ((lg.length:Int)-2) else d.n.cm
  let r:=Xq l h lg.length d.n.nw ⟨d.n.nx,d.n.mt,d.n.se,d.n.st,d.k+1+1⟩ h.sz
  ⟨{ d.n with log:=lg,cm:=cm,nx:=r.nx,mt:=r.mt,se:=r.se,st:=r.st },r.k⟩
 else d
def dnD (l:List Int)(k n:Nat):DnS:=
 let s:=stD l k n
 let h:=dnH l s.2.2.2
 Z34 l h (Z0d l h (Z1x l h s.1 (Z2v l (Z1v l h.el (Z11 l h.el (Z0v l (dn0 l k n)))))))
def Z32:Array Af:=#[Aa O 0,Aa O 0,Aa O 0,Aa O 0,Aa O 0,Aa O 0,Aa O 0,Aa O 0,Aa O 0,Aa O 0,Aa O 0,Aa O 0,I Ab 0 0,I Ab 0 0,I Ab 0 0,I Ab 0 0,I Ab 0 0,I Ab 0 0]
structure NS (w0 w:Ag) (g:Nat) (v:Af) (l:List Int) (k b4 b5 b9:Nat) (S:Array Af) (n:Nd) (x:RV):Prop where
 dr:Dr w0 w g v l k [(b4,Z32,36),(b5,S,104),(b9,ndC n x,36)]
 log:Zh w w0.heap.size x.vl n.log
 gr:Zc inC 1 3 w w0.heap.size x.vg n.gr
 nx:Zc inC 1 3 w w0.heap.size x.vn n.nx
 mt:Zc inC 1 3 w w0.heap.size x.vm n.mt
 se:Zc inC 1 3 w w0.heap.size x.vs n.se
 st:Zc inC 1 3 w w0.heap.size x.vt n.st
 ap:[x.vg,x.vn,x.vm,x.vs,x.vt].Pairwise Yd
section
variable {w0 w w':Ag} {g:Nat} {v:Af} {l:List Int} {k k' b4 b5 b9:Nat} {S:Array Af} {n n':Nd} {x:RV}
theorem NS.keep (h:NS w0 w g v l k b4 b5 b9 S n x)(hd:Dr w0 w' g v l k' [(b4,Z32,36),(b5,S,104),(b9,ndC n x,36)])(b:∀ q,w0.heap.size<=q->q<w.heap.size->w'.heap[q]? = w.heap[q]?):NS w0 w' g v l k' b4 b5 b9 S n x:=by
 have a:∀ {v:Af} {l:List Int},Zc inC 1 3 w w0.heap.size v l->Zc inC 1 3 w' w0.heap.size v l:=λho=>ho.block λq e=>b q (ho.lts q e).1 (ho.lts q e).2
 exact ⟨hd,h.log.block λq e=>b q (Aq h.log.2 q e).1 (Aq h.log.2 q e).2,a h.gr,a h.nx,a h.mt,a h.se,a h.st,h.ap⟩
theorem NS.call (h:NS w0 w g v l k b4 b5 b9 S n x)(b:Src w' g v l k')(a:w.grownBy w' (Ac g)):NS w0 w' g v l k' b4 b5 b9 S n x:=
 h.keep (h.dr.call b a) λq h1 h2=>a.block q h2 (λe=>by injection e with e;have:=h.dr.gl;omega)
theorem NS.below (h:NS w0 w g v l k b4 b5 b9 S n x)(a:Ai w.heap.size w w'):NS w0 w' g v l k b4 b5 b9 S n x:=
 h.keep (h.dr.below a) λq _ h2=>a.block q h2
theorem NS.drew (h:NS w0 w g v l k b4 b5 b9 S n x):NS w0 w.drew g v l k b4 b5 b9 S n x:=h.below (An _ _).drew
theorem NS.pick (h:NS w0 w g v l k b4 b5 b9 S n x)(m:Nat)(hL:l.length<=1048576:=by assumption)(b:k<=900000000:=by omega)(c:0<m:=by omega)(a:m<=4294967296:=by omega) :
  Ar Ad 53 #[Ae (Ac ⟨g,0,Ab⟩),Aa O m] w λe w'=>e=Aj (Aa O (Z4 l k m:Nat))/\NS w0 w' g v l (k+Zf m) b4 b5 b9 S n x:=
 (Zk g w v l k m hL b c a h.dr.src).mono λe w' ⟨h1,h2,h3⟩=>⟨h1,h.call h2 h3⟩
theorem NS.nodeB (h:NS w0 w g v l k b4 b5 b9 S n x):Blk w b9 (ndC n x) 36:=h.dr.blk 2 rfl
theorem NS.stB5 (h:NS w0 w g v l k b4 b5 b9 S n x):Blk w b5 S 104:=h.dr.blk 1 rfl
theorem NS.resB (h:NS w0 w g v l k b4 b5 b9 S n x):Blk w b4 Z32 36:=h.dr.blk 0 rfl
theorem NS.set (h:NS w0 w g v l k b4 b5 b9 S n x)(j:Nat)(f:j<12)(y:Int:=by rfl)(c:(ndC n x).setIfInBounds j (Aa O y)=ndC n' x:=by rfl)
  (d:n'.log=n.log:=by rfl) (e2:n'.gr=n.gr:=by rfl) (e3:n'.nx=n.nx:=by rfl) (e4:n'.mt=n.mt:=by rfl) (e5:n'.se=n.se:=by rfl) (e6:n'.st=n.st:=by rfl):NS w0 (w.setCell ⟨b9,j,Ab⟩ (Aa O y)) g v l k b4 b5 b9 S n' x:=by
 have hd:=h.dr.set 2 rfl j (by show j<18;omega) (Aa O y);rw [c] at hd;have b:∀ q,q≠b9->(w.setCell ⟨b9,j,Ab⟩ (Aa O y)).heap[q]? = w.heap[q]?:=λq b=>Ak _ _ _ _ b
 have a:∀ {v:Af} {l:List Int},Zc inC 1 3 w w0.heap.size v l->Zc inC 1 3 (w.setCell ⟨b9,j,Ab⟩ (Aa O y)) w0.heap.size v l:=λho=>ho.block λq e=>b q (Zm ho h.nodeB (by decide) q e)
 exact ⟨hd,d▸h.log.block λq e=>b q (Y5 h.log h.nodeB (by decide) q e),e2▸a h.gr,e3▸a h.nx,e4▸a h.mt,e5▸a h.se,e6▸a h.st,h.ap⟩
end
section
variable {j:Nat}
theorem bit0 {n:Nat} : (Array.replicate n false).getD j false=false:=by
 cases h:(Array.replicate n false).getD j false with
 | false=>rfl
 | true=>exact (Z0g h).elim
variable {L:Array Bool}{i:Nat}
theorem Z25 (hi:i<L.size)(b:j≠i:=by decide):(L.setIfInBounds i true).getD j false=L.getD j false:=by
 rw [Z17 L i j hi];simp [b]
theorem kb (h:(L.setIfInBounds i true).getD j false=true)(hi:i<L.size)(b:j≠i:=by decide):L.getD j false=true:=X7 h hi b
theorem ku2 {P:Prop}(d:L.getD j false=true->P)(hi:i<L.size)(h:(L.setIfInBounds i true).getD j false=true)(b:j≠i:=by decide):P:=d (X7 h hi b)
theorem ke2 {x:Nat->Af}{t k:Nat}{v V:Af}(e:L.getD j false=true->x t=V)(hi:i<L.size)(h:(L.setIfInBounds i true).getD j false=true)(b:j≠i:=by decide)(d:t≠k:=by decide):upd x k v t=V:=ke e hi b d h
def St3 (P0 P1 P2:Ag->Prop):Bool->Bool->Ag->Prop
 | false,false=>P0
 | false,true=>λ_=>False
 | true,false=>P1
 | true,true=>P2
variable {P0 P1 P2:Ag->Prop}
theorem St3.any {P:Ag->Prop}(d:∀ w,P0 w->P w)(f:∀ w,P1 w->P w)(e:∀ w,P2 w->P w):∀ {a b:Bool} {w:Ag},St3 P0 P1 P2 a b w->P w
 | false,false,w,h=>d w h
 | false,true,w,h=>h.elim
 | true,false,w,h=>f w h
 | true,true,w,h=>e w h
theorem St3.fst : ∀ {b:Bool} {w:Ag},St3 P0 P1 P2 false b w->b=false/\P0 w
 | false,w,h=>⟨rfl,h⟩
 | true,w,h=>h.elim
theorem stD_v (l:List Int)(k n:Nat):0<=(stD l k n).2.1/\(stD l k n).2.1<=7:=by
 unfold stD;split
 ·dsimp only;omega
 ·have:=Z6 l ((stE l k n).2.1+1+1) 8
  dsimp only;omega
theorem stD_k (l:List Int)(k n:Nat):(stD l k n).2.2.2<=k+16*n+6:=by
 unfold stD;split
 ·show k+1<=_
  omega
 ·have d:=Z2n l (k+1+1+1) (1+((Z4 l (k+1+1) 3:Nat):Int)) (Z4 l (k+1) (n+1))
  have b:=Z6 l (k+1) (n+1);show (stE l k n).2.1+1+1+1<=_;unfold stE;omega
theorem stD_len (l:List Int)(k n:Nat):(stD l k n).2.2.1.length<=n:=by
 unfold stD;split
 ·simp
 ·have:=Z6 l (k+1) (n+1)
  show (stE l k n).1.length<=n;unfold stE;rw [J9];omega
def stC (T V:Int)(a:Option B4)(N c:Nat):Array Af:=#[Aa O T,Aa O V,I a N c]
structure DL (w0 w:Ag) (g:Nat) (v:Af) (l:List Int) (k:Nat) (F:List (Nat×Array Af×Ax)) (u:Af) (lg:List Ent):Prop where
 dr:Dr w0 w g v l k F
 log:Zh w w0.heap.size u lg
section
variable {w0 w w':Ag} {g:Nat} {v:Af} {l:List Int} {k k':Nat} {F:List (Nat×Array Af×Ax)} {u:Af} {lg:List Ent}
theorem DL.call (h:DL w0 w g v l k F u lg)(d:Src w' g v l k')(b:w.grownBy w' (Ac g)):DL w0 w' g v l k' F u lg:=
 ⟨h.dr.call d b,h.log.block λq e=>b.block q (Aq h.log.2 q e).2 (λe'=>by injection e' with e';have f:=(Aq h.log.2 q e).1;have:=h.dr.gl;omega)⟩
theorem DL.pick (h:DL w0 w g v l k F u lg)(m:Nat)(hL:l.length<=1048576:=by assumption)(d:k<=900000000:=by omega)(f:0<m:=by omega)(b:m<=256:=by omega) :
  Ar Ad 53 #[Ae (Ac ⟨g,0,Ab⟩),Aa O m] w λe w'=>e=Aj (Aa O (Z4 l k m:Nat))/\DL w0 w' g v l (k+1) F u lg:=
 (Zk g w v l k m hL d f (by omega) h.dr.src).mono λe w' ⟨h1,h2,h3⟩=>⟨h1,by have n:=h.call h2 h3;rwa [show Zf m=1 by unfold Zf;rw [if_pos b]] at n⟩
variable {w0 w:Ag}{g k:Nat}{v u:Af}{l:List Int}{lg:List Ent}
theorem DL.pickG {F:List (Nat×Array Af×Ax)}(h:DL w0 w g v l k F u lg)(m:Nat)(hL:l.length<=1048576:=by assumption)(d:k<=900000000:=by omega)(f:0<m:=by omega)(b:m<=4294967296:=by omega) :
  Ar Ad 53 #[Ae (Ac ⟨g,0,Ab⟩),Aa O m] w λe w'=>e=Aj (Aa O (Z4 l k m:Nat))/\DL w0 w' g v l (k+Zf m) F u lg/\w.grownBy w' (Ac g):=
 (Zk g w v l k m hL d f b h.dr.src).mono λe w' ⟨h1,h2,h3⟩=>⟨h1,h.call h2 h3,h3⟩
theorem DL.nextG {F:List (Nat×Array Af×Ax)}(h:DL w0 w g v l k F u lg)(hL:l.length<=1048576)(b:k<=900000000) :
  Ar Ad 93 #[Ae (Ac ⟨g,0,Ab⟩)] w λe w'=>e=Aj (Aa O (Yo l k))/\DL w0 w' g v l (k+1) F u lg/\w.grownBy w' (Ac g):=
 (J1 g w v l k hL (by omega) h.dr.src).mono λe w' ⟨h1,h2,h3⟩=>⟨h1,h.call h2 h3,h3⟩
theorem DL.below {w':Ag}{F:List (Nat×Array Af×Ax)}(h:DL w0 w g v l k F u lg)(b:Ai w.heap.size w w'):DL w0 w' g v l k F u lg:=⟨h.dr.below b,h.log.below b⟩
variable {p:Nat}{C:Array Af}
theorem DL.rowP {B:Nat}{F:List (Nat×Array Af×Ax)}(h:DL w0 w g v l k F u lg)(f:Blk w p C 36)(m:w0.heap.size<=B)(n:∀ x∈F,x.1<B)(b:B<=p)(d:Array Af):DL w0 (w.setRow p d) g v l k F u lg:=
 ⟨h.dr.belowB (Yz (An _ _) b _) m n,h.log.block λq e=>setRow_other w p q d (Y5 h.log f (by decide) q e)⟩
theorem Z5p (w:Ag)(p:Nat)(C:Array Af):(w.setRow p C).heap.size=w.heap.size:=by simp [World.setRow]
theorem St3.tq {P0 P1 P2:Ag->Prop}{d:Ag}(m:P0 w->P0 d)(f:P1 w->P1 d)(e:P2 w->P2 d):∀ {a b:Bool},St3 P0 P1 P2 a b w->St3 P0 P1 P2 a b d
 | false,false,h=>m h
 | false,true,h=>h
 | true,false,h=>f h
 | true,true,h=>e h
def rvZ (a:Option B4)(N c:Nat):RV:=⟨I a N c,I Ab 0 0,I Ab 0 0,I Ab 0 0,I Ab 0 0,I Ab 0 0,I Ab 0 0,[]⟩
theorem newNode_d (id sz el bt t v dr:Int)(a:Option B4)(cap:Nat)(lg:List Ent)(w:Ag)(q:Es w (I a lg.length cap) lg)(f:lg.length<=1048576)(hd1 : -(2^63)<=dr)(d:dr<2^63) :
  Ar Ad 63 #[Aa O id,Aa O sz,Aa O el,Aa O bt,Aw (stC t v a lg.length cap),Aa O dr] w λe w'=>∃ b c,e=Aj (Aw (ndC (newN id sz el bt t v dr lg) (rvZ b (newN id sz el bt t v dr lg).log.length c)))/\Zh w' w.heap.size (I b (newN id sz el bt t v dr lg).log.length c) (newN id sz el bt t v dr lg).log/\Ai w.heap.size w w':=by
 refine (sNewNode_any id sz el bt t v dr a _ lg w q f hd1 d).mono λe w' h=>?_
 unfold NewAt at h;unfold newN;cases m:newB id sz el bt t v lg
 ·rw [m] at h
  simp only [Bool.false_eq_true,if_false] at h ⊢;exact ⟨Ab,0,h.1,Zh.nil _ _,h.2⟩
 ·rw [m] at h
  simp only [if_true] at h ⊢;obtain ⟨b,c,o,n,r⟩:=h;exact ⟨b,c,o,n,r⟩
theorem Dr.add {F:List (Nat×Array Af×Ax)}(h:Dr w0 w g v l k F){t:Ax}(d:Blk w p C t)(b:w0.heap.size<=p)(f:NoU8 C)(m:∀ x∈F,x.1≠p):Dr w0 w g v l k (F ++ [(p,C,t)]):=by
 refine ⟨h.grown,h.src,h.gl,h.bs0,λi x e=>?_,λi j x y ei ej e=>?_⟩
 ·rcases B1 i F.length with hi | hi
  ·rw [List.getElem?_append_left hi] at e;exact h.blks i x e
  ·rw [List.getElem?_append_right hi] at e
   rcases Nat.eq_zero_or_pos (i-F.length) with hz | hz
   ·rw [hz] at e;simp at e;subst e;exact ⟨b,d,f⟩
   ·rw [Bv (by simp;omega)] at e;cases e
 ·have key:∀(i:Nat) x,(F ++ [(p,C,t)])[i]? = Ac x->(i<F.length/\F[i]? = Ac x/\x.1≠p)∨(i=F.length/\x.1=p):=λi x e=>by
   rcases B1 i F.length with hi | hi
   ·rw [List.getElem?_append_left hi] at e;exact .inl ⟨hi,e,m x (List.mem_of_getElem? e)⟩
   ·rw [List.getElem?_append_right hi] at e
    rcases Nat.eq_zero_or_pos (i-F.length) with hz | hz
    ·rw [hz] at e;simp at e;subst e;exact .inr ⟨by omega,rfl⟩
    ·rw [Bv (by simp;omega)] at e;cases e
  rcases key i x ei with ⟨a1,a2,a3⟩ | ⟨a1,a2⟩ <;> rcases key j y ej with ⟨b1,b2,b3⟩ | ⟨b1,b2⟩
  ·exact h.dis i j x y a2 b2 e
  ·exact absurd (e.trans b2) a3
  ·exact absurd (e.symm.trans a2) b3
  ·omega
theorem newN_nil (id sz el bt t v dr:Int)(lg:List Ent):(newN id sz el bt t v dr lg).gr = []/\(newN id sz el bt t v dr lg).nx = []/\(newN id sz el bt t v dr lg).mt = []/\(newN id sz el bt t v dr lg).se = []/\(newN id sz el bt t v dr lg).st = []:=by
 unfold newN;split <;> exact ⟨rfl,rfl,rfl,rfl,rfl⟩
variable {b4 b5 c:Nat}{S:Array Af}
theorem NS.of {d:Nd}{b:Option B4}(h:Dr w0 w g v l k [(b4,Z32,36),(b5,S,104)])(o:Blk w p (ndC d (rvZ b d.log.length c)) 36)(q:w0.heap.size<=p)(h4:b4≠p)(r:b5≠p)(z:Zh w w0.heap.size (I b d.log.length c) d.log)(t:d.gr = []/\d.nx = []/\d.mt = []/\d.se = []/\d.st = []):NS w0 w g v l k b4 b5 p S d (rvZ b d.log.length c):=by
 obtain ⟨m,s,y,n,n5⟩:=t;refine ⟨h.add o q (Zr) (λx hx=>?_),z,m▸Zc.nil _ _ _ _ _,s▸Zc.nil _ _ _ _ _,y▸Zc.nil _ _ _ _ _,n▸Zc.nil _ _ _ _ _,n5▸Zc.nil _ _ _ _ _,?_⟩
 ·simp only [B3,Br,or_false] at hx
  rcases hx with rfl | rfl
  ·exact h4
  ·exact r
 ·have f:∀ u:Af,Yd (I Ab 0 0) u:=λu k e=>by cases e
  simp only [rvZ,List.pairwise_cons,B3,Br,or_false,forall_eq_or_imp,forall_eq,List.Pairwise.nil,and_true,false_imp_iff,implies_true];exact ⟨⟨f _,f _,f _,f _⟩,⟨f _,f _,f _⟩,⟨f _,f _⟩,f _⟩
theorem NS.pick1 {b9:Nat}{n:Nd}{x:RV}(h:NS w0 w g v l k b4 b5 b9 S n x)(m:Nat)(hL:l.length<=1048576:=by assumption)(d:k<=900000000:=by omega)(f:0<m:=by omega)(b:m<=256:=by omega) :
  Ar Ad 53 #[Ae (Ac ⟨g,0,Ab⟩),Aa O m] w λe w'=>e=Aj (Aa O (Z4 l k m:Nat))/\NS w0 w' g v l (k+1) b4 b5 b9 S n x:=
 (h.pick m hL d f).mono λe w' ⟨h1,h2⟩=>⟨h1,by rwa [show Zf m=1 by unfold Zf;rw [if_pos b]] at h2⟩
variable {a:Bn}{Q:Ca->Bn->Ag->Prop}
theorem wp_st1 {o:Oper}{K:Bn->Ag->Prop}(y z:Operand)(e:o.op=.store 3 y z){b i:Nat}{v u:Int}(f:a.eval y=Ae (Ac ⟨b,i,Ab⟩))(d:a.eval z=Aa O v)(m:w.cell? ⟨b,i,Ab⟩=Ac (Aa O u))(n:w.frozen? ⟨b,i,Ab⟩=false)(hd:o.dst=Ab)(h:K a (w.setCell ⟨b,i,Ab⟩ (Aa O v))):o.wp Ad a w K Q:=by
 unfold Oper.wp execOp;simp only [e,f,d];go_simp;exact h
theorem wp_apart {P:Program}{c:Code}(d:Bn->Prop)(R:Bn->Bn->Ag->Prop)(h:∀ a0,d a0->c.wp P (λe b w'=>e=Exit.normal/\R a0 b w') a0 w)(f:d a)(m:∀ b w',R a b w'->Q Exit.normal b w'):c.wp P Q a w:=wp_mono (h a f) (by rintro e b w' ⟨rfl,n⟩;exact m b w' n)
theorem DL.set5 {d:Array Af}{T V:Int}{a:Option B4}{N:Nat}(h:DL w0 w g v l k [(b4,d,36),(b5,stC T V a N c,104)] u lg)(b:Int):DL w0 (w.setCell ⟨b5,1,Ab⟩ (Aa O b)) g v l k [(b4,d,36),(b5,stC T b a N c,104)] u lg:=
 ⟨h.dr.set 1 rfl 1 (by show 1<3;omega) (Aa O b),h.log.block λq e=>Ak _ _ _ _ (Y5 h.log (h.dr.blk 1 rfl) (by decide) q e)⟩
end
end
def Z2:Nat->Code->Code
 | 0,.seq a _=>a
 | n+1,.seq _ b=>Z2 n b
 | _,c=>c
def Z1:Nat->Code->Code
 | 0,c=>c
 | n+1,.seq _ b=>Z1 n b
 | _,c=>c
def Z3 (f:Func):Code:=f.body.getD .skip
def Za:Code->Code
 | .cond _ a _=>a
 | c=>c
def Yf:Code->Code
 | .cond _ _ b=>b
 | c=>c
def Zb:Code->Code
 | .block _ c=>c
 | c=>c
def Zp:Code->Code
 | .loop c=>c
 | c=>c
theorem sqc {t:Nat}{X:Code}{Q:Ca->Bn->Ag->Prop}{a:Bn}{w:Ag}(h:∀ K:Bn->Ag->Prop,(∀ a w,(Code.cond (.tmp t) (Za (Z1 1 X)) .skip).wp Ad Q a w->K a w)->(Z2 0 X).wp Ad (Exit.then K Q) a w)(e:X=.seq (Z2 0 X) (.cond (.tmp t) (Za (Z1 1 X)) .skip):=by exact rfl):X.wp Ad Q a w:=by rw [e];exact A0 h
theorem sqf {X:Code}(f:Code->Code){Q:Ca->Bn->Ag->Prop}{a:Bn}{w:Ag}(h:∀ K:Bn->Ag->Prop,(∀ a w,(f X).wp Ad Q a w->K a w)->(Z2 0 X).wp Ad (Exit.then K Q) a w)(e:X=.seq (Z2 0 X) (f X):=by exact rfl):X.wp Ad Q a w:=by rw [e];exact A0 h
theorem sqn {k:Nat}{X:Code}{Q:Ca->Bn->Ag->Prop}{a:Bn}{w:Ag}(h:∀ K:Bn->Ag->Prop,(∀ a w,(Z1 (k+1) X).wp Ad Q a w->K a w)->(Z2 k X).wp Ad (Exit.then K Q) a w)(e:Z1 k X=.seq (Z2 k X) (Z1 (k+1) X):=by exact rfl):(Z1 k X).wp Ad Q a w:=by rw [e];exact A0 h
theorem sqg {k:Nat}{X:Code}(f:Code->Code){Q:Ca->Bn->Ag->Prop}{a:Bn}{w:Ag}(h:∀ K:Bn->Ag->Prop,(∀ a w,(f X).wp Ad Q a w->K a w)->(Z2 k X).wp Ad (Exit.then K Q) a w)(e:Z1 k X=.seq (Z2 k X) (f X):=by exact rfl):(Z1 k X).wp Ad Q a w:=by rw [e];exact A0 h
structure DC where
 w0:Ag
 g:Nat
 v:Af
 l:List Int
 b4:Nat
 b5:Nat
 b9:Nat
 T:Int
 V:Int
 ea:Option B4
 LN:Nat
 ec:Nat
 SZ:Nat
 EL:Nat
 ID:Nat
structure DC.Ok (c:DC):Prop where
 hL:c.l.length<=1048576
 sz:3<=c.SZ/\c.SZ<=7
 el:2<=c.EL/\c.EL<=1000
 id:1<=c.ID/\c.ID<=c.SZ
def DC.S (c:DC):Array Af:=stC c.T c.V c.ea c.LN c.ec
def DC.N (c:DC)(w:Ag)(d:DnS)(x:RV):Prop:=NS c.w0 w c.g c.v c.l d.k c.b4 c.b5 c.b9 c.S d.n x
def DC.h (c:DC):DnH:=⟨c.SZ,c.EL,c.ID,0⟩
structure DC.Fr (c:DC) (a:Bn):Prop where
 sz:a.tmps.size=297:=by exact rfl
 df:a.defers = []:=by exact rfl
 e0:Tv a 0=Ae (Ac ⟨c.g,0,Ab⟩):=by exact rfl
 e4:Tv a 4=Ae (Ac ⟨c.b4,0,Ab⟩):=by exact rfl
 e5:Tv a 5=Ae (Ac ⟨c.b5,0,Ab⟩):=by exact rfl
 e6:Tv a 6=Aa O (c.SZ:Int):=by exact rfl
 e7:Tv a 7=Aa O (c.EL:Int):=by exact rfl
 e8:Tv a 8=Aa O (c.ID:Int):=by exact rfl
 e9:Tv a 9=Ae (Ac ⟨c.b9,0,Ab⟩):=by exact rfl
structure DB (d:DnS) (m:Nat):Prop where
 k:d.k<=m
 nw:0<=d.n.nw/\d.n.nw<=1099511627776
 lg:d.n.log.length<=200
 tm:0<=d.n.tm/\d.n.tm<=1099511627776
section
variable {c:DC} {a:Bn} {w w':Ag} {d:DnS} {x:RV}
theorem DC.Fr.frame (h:c.Fr a)(b:List Nat)(y:Nat->Af)(hd:[0,4,5,6,7,8,9].all (λs=>!b.contains s)=true):c.Fr (frame a b y):=by
 simp only [List.all_cons,List.all_nil,Bool.and_true,Al,Bool.not_eq_true'] at hd;obtain ⟨i,j,e,f,g,k,l⟩:=hd;exact ⟨(Z52 a b y).trans h.sz,h.df,(Yv a b y 0 i).trans h.e0,(Yv a b y 4 j).trans h.e4,(Yv a b y 5 e).trans h.e5,(Yv a b y 6 f).trans h.e6,(Yv a b y 7 g).trans h.e7,(Yv a b y 8 k).trans h.e8,(Yv a b y 9 l).trans h.e9⟩
theorem DC.Fr.rf {b:List (Option Nat)}{vs:List Af}{L:Array Bool}{e:Bn}(h:c.Fr a)(R:RF a b vs L e)(hd:[0,4,5,6,7,8,9].all (λs=>!b.contains (Ac s))=true:=by decide):c.Fr e:=by
 simp only [List.all_cons,List.all_nil,Bool.and_true,Al,Bool.not_eq_true'] at hd;obtain ⟨j,k,f,g,i,l,m⟩:=hd;exact ⟨R.sz.trans h.sz,R.df.trans h.df,R.keep 0 _ j h.e0,R.keep 4 _ k h.e4,R.keep 5 _ f h.e5,R.keep 6 _ g h.e6,R.keep 7 _ i h.e7,R.keep 8 _ l h.e8,R.keep 9 _ m h.e9⟩
theorem DC.Fr.opened (h:c.Fr a):∃ t:Nat->Af,a=⟨#[Ae (Ac ⟨c.g,0,Ab⟩),t 1,t 2,t 3,Ae (Ac ⟨c.b4,0,Ab⟩),Ae (Ac ⟨c.b5,0,Ab⟩),Aa O (c.SZ:Int),Aa O (c.EL:Int),Aa O (c.ID:Int),Ae (Ac ⟨c.b9,0,Ab⟩),t 10,t 11,t 12,t 13,t 14,t 15,t 16,t 17,t 18,t 19,t 20,t 21,t 22,t 23,t 24,t 25,t 26,t 27,t 28,t 29,t 30,t 31,t 32,t 33,t 34,t 35,t 36,t 37,t 38,t 39,t 40,t 41,t 42,t 43,t 44,t 45,t 46,t 47,t 48,t 49,t 50,t 51,t 52,t 53,t 54,t 55,t 56,t 57,t 58,t 59,t 60,t 61,t 62,t 63,t 64,t 65,t 66,t 67,t 68,t 69,t 70,t 71,t 72,t 73,t 74,t 75,t 76,t 77,t 78,t 79,t 80,t 81,t 82,t 83,t 84,t 85,t 86,t 87,t 88,t 89,t 90,t 91,t 92,t 93,t 94,t 95,t 96,t 97,t 98,t 99,t 100,t 101,t 102,t 103,t 104,t 105,t 106,t 107,t 108,t 109,t 110,t 111,t 112,t 113,t 114,t 115,t 116,t 117,t 118,t 119,t 120,t 121,t 122,t 123,t 124,t 125,t 126,t 127,t 128,t 129,t 130,t 131,t 132,t 133,t 134,t 135,t 136,t 137,t 138,t 139,t 140,t 141,t 142,t 143,t 144,t 145,t 146,t 147,t 148,t 149,t 150,t 151,t 152,t 153,t 154,t 155,t 156,t 157,t 158,t 159,t 160,t 161,t 162,t 163,t 164,t 165,t 166,t 167,t 168,t 169,t 170,t 171,t 172,t 173,t 174,t 175,t 176,t 177,t 178,t 179,t 180,t 181,t 182,t 183,t 184,t 185,t 186,t 187,t 188,t 189,t 190,t 191,t 192,t 193,t 194,t 195,t 196,t 197,t 198,t 199,t 200,t 201,t 202,t 203,t 204,t 205,t 206,t 207,t 208,t 209,t 210,t 211,t 212,t 213,t 214,t 215,t 216,t 217,t 218,t 219,t 220,t 221,t 222,t 223,t 224,t 225,t 226,t 227,t 228,t 229,t 230,t 231,t 232,t 233,t 234,t 235,t 236,t 237,t 238,t 239,t 240,t 241,t 242,t 243,t 244,t 245,t 246,t 247,t 248,t 249,t 250,t 251,t 252,t 253,t 254,t 255,t 256,t 257,t 258,t 259,t 260,t 261,t 262,t 263,t 264,t 265,t 266,t 267,t 268,t 269,t 270,t 271,t 272,t 273,t 274,t 275,t 276,t 277,t 278,t 279,t 280,t 281,t 282,t 283,t 284,t 285,t 286,t 287,t 288,t 289,t 290,t 291,t 292,t 293,t 294,t 295,t 296],[]⟩:=by
 obtain ⟨⟨L⟩,df⟩:=a;have hd:=h.df;subst hd;have p:=h.sz;have e:=lst_of L _ p;have k:L.getD 0 undef=Ae (Ac ⟨c.g,0,Ab⟩):=by have:=h.e0;simpa [Bi] using this
 have m:L.getD 4 undef=Ae (Ac ⟨c.b4,0,Ab⟩):=by have:=h.e4;simpa [Bi] using this
 have o:L.getD 5 undef=Ae (Ac ⟨c.b5,0,Ab⟩):=by have:=h.e5;simpa [Bi] using this
 have l:L.getD 6 undef=Aa O (c.SZ:Int):=by have:=h.e6;simpa [Bi] using this
 have n:L.getD 7 undef=Aa O (c.EL:Int):=by have:=h.e7;simpa [Bi] using this
 have j:L.getD 8 undef=Aa O (c.ID:Int):=by have:=h.e8;simpa [Bi] using this
 have f:L.getD 9 undef=Ae (Ac ⟨c.b9,0,Ab⟩):=by have:=h.e9;simpa [Bi] using this
 obtain ⟨t,b⟩:∃ t:Nat->Af,t=λi=>L.getD i undef:=⟨_,rfl⟩
 rw [<-b] at e;replace k:t 0=Ae (Ac ⟨c.g,0,Ab⟩):=b▸k
 replace m:t 4=Ae (Ac ⟨c.b4,0,Ab⟩):=b▸m
 replace o:t 5=Ae (Ac ⟨c.b5,0,Ab⟩):=b▸o
 replace l:t 6=Aa O (c.SZ:Int):=b▸l
 replace n:t 7=Aa O (c.EL:Int):=b▸n
 replace j:t 8=Aa O (c.ID:Int):=b▸j
 replace f:t 9=Ae (Ac ⟨c.b9,0,Ab⟩):=b▸f
 refine ⟨t,?_⟩;have e2:lst t 0 297 = [t 0,t 1,t 2,t 3,t 4,t 5,t 6,t 7,t 8,t 9,t 10,t 11,t 12,t 13,t 14,t 15,t 16,t 17,t 18,t 19,t 20,t 21,t 22,t 23,t 24,t 25,t 26,t 27,t 28,t 29,t 30,t 31,t 32,t 33,t 34,t 35,t 36,t 37,t 38,t 39,t 40,t 41,t 42,t 43,t 44,t 45,t 46,t 47,t 48,t 49,t 50,t 51,t 52,t 53,t 54,t 55,t 56,t 57,t 58,t 59,t 60,t 61,t 62,t 63,t 64,t 65,t 66,t 67,t 68,t 69,t 70,t 71,t 72,t 73,t 74,t 75,t 76,t 77,t 78,t 79,t 80,t 81,t 82,t 83,t 84,t 85,t 86,t 87,t 88,t 89,t 90,t 91,t 92,t 93,t 94,t 95,t 96,t 97,t 98,t 99,t 100,t 101,t 102,t 103,t 104,t 105,t 106,t 107,t 108,t 109,t 110,t 111,t 112,t 113,t 114,t 115,t 116,t 117,t 118,t 119,t 120,t 121,t 122,t 123,t 124,t 125,t 126,t 127,t 128,t 129,t 130,t 131,t 132,t 133,t 134,t 135,t 136,t 137,t 138,t 139,t 140,t 141,t 142,t 143,t 144,t 145,t 146,t 147,t 148,t 149,t 150,t 151,t 152,t 153,t 154,t 155,t 156,t 157,t 158,t 159,t 160,t 161,t 162,t 163,t 164,t 165,t 166,t 167,t 168,t 169,t 170,t 171,t 172,t 173,t 174,t 175,t 176,t 177,t 178,t 179,t 180,t 181,t 182,t 183,t 184,t 185,t 186,t 187,t 188,t 189,t 190,t 191,t 192,t 193,t 194,t 195,t 196,t 197,t 198,t 199,t 200,t 201,t 202,t 203,t 204,t 205,t 206,t 207,t 208,t 209,t 210,t 211,t 212,t 213,t 214,t 215,t 216,t 217,t 218,t 219,t 220,t 221,t 222,t 223,t 224,t 225,t 226,t 227,t 228,t 229,t 230,t 231,t 232,t 233,t 234,t 235,t 236,t 237,t 238,t 239,t 240,t 241,t 242,t 243,t 244,t 245,t 246,t 247,t 248,t 249,t 250,t 251,t 252,t 253,t 254,t 255,t 256,t 257,t 258,t 259,t 260,t 261,t 262,t 263,t 264,t 265,t 266,t 267,t 268,t 269,t 270,t 271,t 272,t 273,t 274,t 275,t 276,t 277,t 278,t 279,t 280,t 281,t 282,t 283,t 284,t 285,t 286,t 287,t 288,t 289,t 290,t 291,t 292,t 293,t 294,t 295,t 296]:=rfl;rw [e2] at e;rw [k,m,o,l,n,j,f] at e;rw [e]
theorem beq0 (p:Nat):((p:Int) == 0)=decide (p=0):=by
 by_cases h:p=0
 ·subst h;rfl
 ·have:¬(p:Int)=0:=by omega
  simp [h,this]
theorem DB.step {m:Nat}(h:DB d m){b:DnS}(q:Nat)(i:b.k<=d.k+q)(f:b.n.nw=d.n.nw:=by rfl)(e:b.n.log.length=d.n.log.length:=by rfl)(g:b.n.tm=d.n.tm:=by rfl):DB b (m+q):=⟨by have:=h.k;omega,f▸h.nw,e▸h.lg,g▸h.tm⟩
theorem Z51 (a:Bn)(v:Af):a.eval (.const v)=v:=rfl
theorem DC.N.drew (h:c.N w d x):c.N w.drew d x:=NS.drew h
theorem DC.N.pick (h:c.N w d x)(b:c.Ok)(m:Nat)(i:d.k<=900000000:=by omega)(j:0<m:=by omega)(f:m<=4294967296:=by omega) :
  Ar Ad 53 #[Ae (Ac ⟨c.g,0,Ab⟩),Aa O m] w λe w'=>e=Aj (Aa O (Z4 c.l d.k m:Nat))/\c.N w' ⟨d.n,d.k+Zf m⟩ x:=
 (NS.pick h m b.hL i j f).mono λe w' h=>h
theorem DC.N.pick1 (h:c.N w d x)(b:c.Ok)(m:Nat)(i:d.k<=900000000:=by omega)(j:0<m:=by omega)(f:m<=256:=by omega) :
  Ar Ad 53 #[Ae (Ac ⟨c.g,0,Ab⟩),Aa O m] w λe w'=>e=Aj (Aa O (Z4 c.l d.k m:Nat))/\c.N w' ⟨d.n,d.k+1⟩ x:=
 (NS.pick1 h m b.hL i j f).mono λe w' h=>h
theorem DC.N.set (h:c.N w d x)(j:Nat)(e:j<12)(y:Int:=by rfl){n':Nd}(b:(ndC d.n x).setIfInBounds j (Aa O y)=ndC n' x:=by rfl)
  (f:n'.log=d.n.log:=by rfl) (e2:n'.gr=d.n.gr:=by rfl) (e3:n'.nx=d.n.nx:=by rfl) (e4:n'.mt=d.n.mt:=by rfl) (e5:n'.se=d.n.se:=by rfl) (e6:n'.st=d.n.st:=by rfl):c.N (w.setCell ⟨c.b9,j,Ab⟩ (Aa O y)) ⟨n',d.k⟩ x:=NS.set h j e y b f e2 e3 e4 e5 e6
theorem DC.N.vl (h:c.N w d x):∃ a k,x.vl=I a d.n.log.length k:=(NS.log h).shape
theorem DC.N.blk (h:c.N w d x):Blk w c.b9 (ndC d.n x) 36:=NS.nodeB h
theorem DC.N.stb (h:c.N w d x):Blk w c.b5 c.S 104:=NS.stB5 h
theorem DC.N.res (h:c.N w d x):Blk w c.b4 Z32 36:=NS.resB h
end
section
variable {Q:Ca->Bn->Ag->Prop} {K:Bn->Ag->Prop} {c:DC} {d:DnS} {X:RV} {a:Bn} {w:Ag}
variable {m:Nat}
theorem dnR14 (s:c.Ok)(ae:m<=899000000)(hb:DB d m)(f:c.Fr a)(hS:c.N w d X)(o:∀ a' w',c.Fr a'->c.N w' ⟨{ d.n with dl:=d.n.nw+(Z4 c.l d.k (2*c.EL+1):Nat) },d.k+Zf (2*c.EL+1)⟩ X->K a' w'):(Z2 11 (Z3 f51)).wp Ad (Exit.then K Q) a w:=by
 obtain ⟨M,HM⟩:∃ q,q=2*c.EL+1:=⟨_,rfl⟩;rw [<-HM] at o;obtain ⟨r,b⟩:=exq (Z4 c.l d.k M);rw [<-b] at o;have u:=Z0 b;have bD:r<M:=b▸Z6 _ _ _ (by omega)
 clear b;have aj:=s.el;have al:=hb.nw;have ag:=hb.k
 conv=>arg 2;whnf
 refine Z14 [Ac 68,Ac 69,Ac 70,Ac 71,Ac 72,Ac 73,Ac 74,Ac 75,Ac 76,Ab] [Ae (Ac ⟨c.b9,9,Ab⟩),Aa O d.n.nw,Ae (Ac ⟨c.g,0,Ab⟩),Aa O (c.EL:Int),Aa O (2*(c.EL:Int)),Aa O (M:Int),Aa O (r:Int),Aa O (d.n.nw+(r:Int)),Ae (Ac ⟨c.b9,10,Ab⟩),undef] (λW=>c.N W d X) (λW=>c.N W ⟨d.n,d.k+Zf M⟩ X) (λW=>c.N W ⟨{ d.n with dl:=d.n.nw+(r:Int) },d.k+Zf M⟩ X) 6 9 (by kernel_rfl) rfl f.sz rfl (by decide) (by decide) (by decide) [7] (.inr rfl) hS.drew (λa' w' L l R t=>o a' w' (f.rf R) t) ⟨_,_,_,rfl,rfl,rfl,λu1 u2 u3 u4 u5=>?_⟩ (.inr ⟨_,_,_,rfl,rfl,rfl,λu1 u2 u3 u4 u5=>?_⟩) (Zq (Zq (Zq (Zq (Zq (Zq (Zq (Zq (Zq (Zq (lt_z) (λ_ _=>?_)) (λ_ _=>?_)) (λ_ _=>?_)) (λ_ _=>?_)) (λ_ _=>?_)) (λ_ _=>?_)) (λp q=>(p rfl).elim)) (λ_ _=>?_)) (λ_ _=>?_)) (λp q=>(q rfl).elim))
 all_goals clear o
 ·have j:=u3.y 2
  have i:=u3.y 5;refine Zs rfl rfl (Yg (N:=53) rfl (λ_ _=>by go_simp) #[Ae (Ac ⟨c.g,0,Ab⟩),Aa O (M:Int)] (by simp only [Bm,Bq,Bu,j,i]) ?_);refine Am (DC.N.pick u5 s M) ?_;rw [<-u.out];rintro e w2 ⟨rfl,hd⟩;exact ⟨_,rfl,rfl,by rw [ifd];exact hd⟩
 ·have y:=u3.y 8
  have x:=u3.y 7;refine Zs rfl rfl (wp_st1 (Ay 76) (Ay 75) rfl y x ((DC.N.blk u5).cell 10) ((DC.N.blk u5).free 10) rfl ?_);exact ⟨rfl,DC.N.set (d:=⟨d.n,d.k+Zf M⟩) u5 10 (by omega) _ rfl rfl rfl rfl rfl rfl rfl⟩
 ·refine PO.val λu1 u2 u3 u4 u5=>?_
  have v:=u4.z f.e9;go_simp
 ·refine PO.val λu1 u2 u3 u4 u5=>?_
  have Xc:u2.cell? ⟨c.b9,9,Ab⟩=Ac (Aa O d.n.nw):=by rcases u5 with h | h | h <;> exact (DC.N.blk h).cell 9
  have ac:=u3.z 0;go_simp
 ·refine PO.val λu1 u2 u3 u4 u5=>?_
  have af:=u4.z f.e0;go_simp
 ·refine PO.val λu1 u2 u3 u4 u5=>?_
  have ai:=u4.z f.e7;go_simp
 ·refine PO.val λu1 u2 u3 u4 u5=>?_
  have ab:=u3.z 3;go_simp;rw [Bl];omega
 ·refine PO.val λu1 u2 u3 u4 u5=>?_
  have aa:=u3.z 4;go_simp;rw [Bl];omega
 ·refine PO.val λu1 u2 u3 u4 u5=>?_
  have ad:=u3.z 1;have z:=u3.z 6;go_simp;rw [Bl];omega
 ·refine PO.val λu1 u2 u3 u4 u5=>?_
  have v:=u4.z f.e9;go_simp
theorem dnR16 (o:c.Ok)(ac:m<=899000000)(y:DB d m)(i:c.Fr a)(hS:c.N w d X)(s:∀ a' w',c.Fr a'->c.N w' ⟨{ d.n with dl:=d.n.nw+(Z4 c.l d.k 2:Nat) },d.k+1⟩ X->K a' w'):(Za (Z1 1 (Z2 12 (Z3 f51)))).wp Ad (Exit.then K Q) a w:=by
 obtain ⟨j,b⟩:=exq (Z4 c.l d.k 2);rw [<-b] at s;have r:=Z0 b;have bD:j<2:=b▸Z6 _ _ _ (by omega)
 clear b;have ai:=y.nw;have ae:=y.k
 conv=>arg 2;whnf
 refine Z14 [Ac 80,Ac 81,Ac 82,Ac 83,Ac 84,Ac 85,Ab] [Ae (Ac ⟨c.b9,9,Ab⟩),Aa O d.n.nw,Ae (Ac ⟨c.g,0,Ab⟩),Aa O (j:Int),Aa O (d.n.nw+(j:Int)),Ae (Ac ⟨c.b9,10,Ab⟩),undef] (λW=>c.N W d X) (λW=>c.N W ⟨d.n,d.k+1⟩ X) (λW=>c.N W ⟨{ d.n with dl:=d.n.nw+(j:Int) },d.k+1⟩ X) 3 6 (by kernel_rfl) rfl i.sz rfl (by decide) (by decide) (by decide) [4] (.inr rfl) hS.drew (λa' w' L l R t=>s a' w' (i.rf R) t) ⟨_,_,_,rfl,rfl,rfl,λu1 u2 u3 u4 u5=>?_⟩ (.inr ⟨_,_,_,rfl,rfl,rfl,λu1 u2 u3 u4 u5=>?_⟩) (Zq (Zq (Zq (Zq (Zq (Zq (Zq (lt_z) (λ_ _=>?_)) (λ_ _=>?_)) (λ_ _=>?_)) (λp q=>(p rfl).elim)) (λ_ _=>?_)) (λ_ _=>?_)) (λp q=>(q rfl).elim))
 all_goals clear s
 ·have f:=u3.y 2
  refine Zs rfl rfl (Yg (N:=53) rfl (λ_ _=>by go_simp) #[Ae (Ac ⟨c.g,0,Ab⟩),Aa O 2] (by simp only [Bm,Bq,Bu,f,Z51]) ?_);refine Am (DC.N.pick1 u5 o 2) ?_;rw [<-r.out];rintro e w2 ⟨rfl,hd⟩;exact ⟨_,rfl,rfl,by rw [ifd];exact hd⟩
 ·have x:=u3.y 5
  have v:=u3.y 4;refine Zs rfl rfl (wp_st1 (Ay 85) (Ay 84) rfl x v ((DC.N.blk u5).cell 10) ((DC.N.blk u5).free 10) rfl ?_);exact ⟨rfl,DC.N.set (d:=⟨d.n,d.k+1⟩) u5 10 (by omega) _ rfl rfl rfl rfl rfl rfl rfl⟩
 ·refine PO.val λu1 u2 u3 u4 u5=>?_
  have u:=u4.z i.e9;go_simp
 ·refine PO.val λu1 u2 u3 u4 u5=>?_
  have Xc:u2.cell? ⟨c.b9,9,Ab⟩=Ac (Aa O d.n.nw):=by rcases u5 with h | h | h <;> exact (DC.N.blk h).cell 9
  have ab:=u3.z 0;go_simp
 ·refine PO.val λu1 u2 u3 u4 u5=>?_
  have ad:=u4.z i.e0;go_simp
 ·refine PO.val λu1 u2 u3 u4 u5=>?_
  have aa:=u3.z 1;have z:=u3.z 3;go_simp;rw [Bl];omega
 ·refine PO.val λu1 u2 u3 u4 u5=>?_
  have u:=u4.z i.e9;go_simp
theorem dnR17 (u:c.Ok)(ah:m<=899000000)(x:DB d m)(f:c.Fr a)(hS:c.N w d X)(r:∀ a' w',c.Fr a'->c.N w' (Z1v c.l c.EL d) X->K a' w'):(Z2 13 (Z3 f51)).wp Ad (Exit.then K Q) a w:=by
 obtain ⟨mi,hm⟩:=exq (min d.n.nw (2*(c.EL:Int)));have aa:=Z0 hm;obtain ⟨M,HM⟩:=exq (min d.n.nw.toNat (2*c.EL)+1);rw [show Z1v c.l c.EL d=⟨{ d.n with hd:=d.n.nw-(Z4 c.l d.k (min d.n.nw.toNat (2*c.EL)+1):Nat) },d.k+Zf (min d.n.nw.toNat (2*c.EL)+1)⟩ from rfl,<-HM] at r;have ar:(M:Int)=mi+1:=by have:=x.nw;omega
 have aq:M<=2*c.EL+1:=by omega
 obtain ⟨s,b⟩:=exq (Z4 c.l d.k M);rw [<-b] at r;have v:=Z0 b;have bD:s<M:=b▸Z6 _ _ _ (by omega)
 clear b hm;have am:=u.el;have ao:=x.nw;have aj:=x.k
 conv=>arg 2;whnf
 refine Z14 [Ac 86,Ac 87,Ac 88,Ac 89,Ac 90,Ac 91,Ac 92,Ac 93,Ac 94,Ac 95,Ac 96,Ac 97,Ab] [Ae (Ac ⟨c.b9,9,Ab⟩),Aa O d.n.nw,Ae (Ac ⟨c.g,0,Ab⟩),Ae (Ac ⟨c.b9,9,Ab⟩),Aa O d.n.nw,Aa O (c.EL:Int),Aa O (2*(c.EL:Int)),Aa O mi,Aa O (M:Int),Aa O (s:Int),Aa O (d.n.nw-(s:Int)),Ae (Ac ⟨c.b9,11,Ab⟩),undef] (λW=>c.N W d X) (λW=>c.N W ⟨d.n,d.k+Zf M⟩ X) (λW=>c.N W ⟨{ d.n with hd:=d.n.nw-(s:Int) },d.k+Zf M⟩ X) 9 12 (by kernel_rfl) rfl f.sz rfl (by decide) (by decide) (by decide) [10] (.inr rfl) hS.drew (λa' w' L l R t=>r a' w' (f.rf R) t) ⟨_,_,_,rfl,rfl,rfl,λu1 u2 u3 u4 u5=>?_⟩ (.inr ⟨_,_,_,rfl,rfl,rfl,λu1 u2 u3 u4 u5=>?_⟩) (Zq (Zq (Zq (Zq (Zq (Zq (Zq (Zq (Zq (Zq (Zq (Zq (Zq (lt_z) (λ_ _=>?_)) (λ_ _=>?_)) (λ_ _=>?_)) (λ_ _=>?_)) (λ_ _=>?_)) (λ_ _=>?_)) (λ_ _=>?_)) (λ_ _=>?_)) (λ_ _=>?_)) (λp q=>(p rfl).elim)) (λ_ _=>?_)) (λ_ _=>?_)) (λp q=>(q rfl).elim))
 all_goals clear r
 ·have i:=u3.y 2
  have o:=u3.y 8;refine Zs rfl rfl (Yg (N:=53) rfl (λ_ _=>by go_simp) #[Ae (Ac ⟨c.g,0,Ab⟩),Aa O (M:Int)] (by simp only [Bm,Bq,Bu,i,o]) ?_);refine Am (DC.N.pick u5 u M) ?_;rw [<-v.out];rintro e w2 ⟨rfl,hd⟩;exact ⟨_,rfl,rfl,by rw [ifd];exact hd⟩
 ·have z:=u3.y 11
  have y:=u3.y 10;refine Zs rfl rfl (wp_st1 (Ay 97) (Ay 96) rfl z y ((DC.N.blk u5).cell 11) ((DC.N.blk u5).free 11) rfl ?_);exact ⟨rfl,DC.N.set (d:=⟨d.n,d.k+Zf M⟩) u5 11 (by omega) _ rfl rfl rfl rfl rfl rfl rfl⟩
 ·refine PO.val λu1 u2 u3 u4 u5=>?_
  have j:=u4.z f.e9;go_simp
 ·refine PO.val λu1 u2 u3 u4 u5=>?_
  have Xc:u2.cell? ⟨c.b9,9,Ab⟩=Ac (Aa O d.n.nw):=by rcases u5 with h | h | h <;> exact (DC.N.blk h).cell 9
  have ac:=u3.z 0;go_simp
 ·refine PO.val λu1 u2 u3 u4 u5=>?_
  have ai:=u4.z f.e0;go_simp
 ·refine PO.val λu1 u2 u3 u4 u5=>?_
  have j:=u4.z f.e9;go_simp
 ·refine PO.val λu1 u2 u3 u4 u5=>?_
  have Xc:u2.cell? ⟨c.b9,9,Ab⟩=Ac (Aa O d.n.nw):=by rcases u5 with h | h | h <;> exact (DC.N.blk h).cell 9
  have ae:=u3.z 3;go_simp
 ·refine PO.val λu1 u2 u3 u4 u5=>?_
  have al:=u4.z f.e7;go_simp
 ·refine PO.val λu1 u2 u3 u4 u5=>?_
  have af:=u3.z 5;go_simp;rw [Bl];omega
 ·refine PO.call (N:=55) #[Aa O d.n.nw,Aa O (2*(c.EL:Int))] rfl rfl rfl rfl rfl (λ_ _=>by go_simp) (λu1 u3 u4=>?_) λu2=>?_
  ·simp only [Bm,Bq,Bu,u3.y 4,u3.y 6]
  ·rw [aa.out];exact Xh _ _ _
 ·refine PO.val λu1 u2 u3 u4 u5=>?_
  have ag:=u3.z 7;go_simp;rw [Bl];omega
 ·refine PO.val λu1 u2 u3 u4 u5=>?_
  have ab:=u3.z 1;have ad:=u3.z 9;go_simp;rw [Bl];omega
 ·refine PO.val λu1 u2 u3 u4 u5=>?_
  have j:=u4.z f.e9;go_simp
end
section
variable {Q:Ca->Bn->Ag->Prop} {K:Bn->Ag->Prop} {c:DC} {d:DnS} {X:RV} {a:Bn} {w:Ag}
variable {m:Nat}
theorem dnR15 (e:c.Ok)(q:m<=899000000)(f:DB d m)(i:c.Fr a)(j:c.N w d X)(h:∀ a' w',c.Fr a'->c.N w' ⟨d.n,d.k+1⟩ X/\Tv a' 79=.bool (decide (Z4 c.l d.k 3=0))->K a' w'):(Z2 0 (Z2 12 (Z3 f51))).wp Ad (Exit.then K Q) a w:=by
 obtain ⟨t,rfl⟩:=i.opened;have s:=f.k;clear i;have o:=Z0 j;clear j;obtain ⟨p,b⟩:=exq (Z4 c.l d.k 3);have z:=Z0 b;rw [<-b] at h
 clear b
 conv=>arg 2;whnf
 go_wp2_with (go_at_call 53;go_loud (refine (o.pick1 e 3).mono ?_;rw [<-z.out];rintro r w9 ⟨rfl,hd⟩;have g:Ah _:=hd;clear hd))
 exact h _ _ {} ⟨g,by simp [Bi,beq0]⟩
theorem dnI12 (f:c.Ok)(j:m<=898999000)(g:DB d m)(o:c.Fr a)(i:c.N w d X)(b:∀ a' w',c.Fr a'->c.N w' (if Z4 c.l d.k 3=0 then ⟨{ d.n with dl:=d.n.nw+(Z4 c.l (d.k+1) 2:Nat) },d.k+1+1⟩ else ⟨d.n,d.k+1⟩) X->K a' w'):(Z2 12 (Z3 f51)).wp Ad (Exit.then K Q) a w:=by
 refine sqc ?_;intro p e;refine dnR15 f (by omega) g o i λa' w' h1 h2=>e _ _ ?_
 refine wp_cond h2.2 ?_;by_cases h:Z4 c.l d.k 3=0
 ·simp only [h,decide_true,if_true] at b ⊢
  exact dnR16 (d:=⟨d.n,d.k+1⟩) f (m:=m+1) (by omega) (g.step 1 (Ao _)) h1 h2.1 b
 ·simp only [h,decide_false,if_false,Bool.false_eq_true] at b ⊢
  exact wp_skip (b _ _ h1 h2.1)
theorem dnR18 (f:c.Ok)(aa:m<=899000000)(o:DB d m)(v:c.Fr a)(u:c.N w d X)(g:∀ a' w',c.Fr a'->c.N w' (Z2v c.l d) X->K a' w'):(Z2 14 (Z3 f51)).wp Ad (Exit.then K Q) a w:=by
 obtain ⟨t,rfl⟩:=v.opened;have ad:=o.k;have i:=o.lg;clear v;have j:=Z0 u;clear u;rw [show Z2v c.l d=⟨{ d.n with cm:=(Z4 c.l d.k (d.n.log.length+1):Nat) },d.k+Zf (d.n.log.length+1)⟩ from rfl] at g;obtain ⟨p,e⟩:=exq (Z4 c.l d.k (d.n.log.length+1));have x:=Z0 e;rw [<-e] at g;have y:p<(d.n.log.length+1):=e▸Z6 _ _ _ (by omega)
 clear e;obtain ⟨ra,rc,b⟩:=j.vl;have c12:w.cell? ⟨c.b9,12,Ab⟩=Ac (I ra d.n.log.length rc):=b▸j.blk.cell 12
 clear b;obtain ⟨N,s⟩:=exq (d.n.log.length);rw [<-s] at c12 x y i g;clear s
 conv=>arg 2;whnf
 go_wp2_with (go_at_call 53;go_loud (refine (j.pick f (N+1)).mono ?_;rw [<-x.out];rintro r w9 ⟨rfl,hd⟩;have q:Ah _:=hd;have c8:=(DC.N.blk (d:=⟨d.n,d.k+Zf (N+1)⟩) hd).cell 8;have f8:=(DC.N.blk (d:=⟨d.n,d.k+Zf (N+1)⟩) hd).free 8;clear hd))
 exact g _ _ {} (DC.N.set (d:=⟨d.n,d.k+Zf (N+1)⟩) q 8 (by omega) _ rfl rfl rfl rfl rfl rfl rfl)
theorem dnR19 (e:c.Ok)(q:m<=899000000)(f:DB d m)(i:c.Fr a)(j:c.N w d X)(h:∀ a' w',c.Fr a'->c.N w' ⟨d.n,d.k+1⟩ X/\Tv a' 10=Aa O (Z4 c.l d.k 8:Nat)->K a' w'):(Z2 15 (Z3 f51)).wp Ad (Exit.then K Q) a w:=by
 obtain ⟨t,rfl⟩:=i.opened;have s:=f.k;clear i;have o:=Z0 j;clear j;obtain ⟨p,b⟩:=exq (Z4 c.l d.k 8);have z:=Z0 b;rw [<-b] at h
 clear b
 conv=>arg 2;whnf
 go_wp2_with (go_at_call 53;go_loud (refine (o.pick1 e 8).mono ?_;rw [<-z.out];rintro r w9 ⟨rfl,hd⟩;have g:Ah _:=hd;clear hd))
 exact h _ _ {} ⟨g,rfl⟩
theorem dnI16a (j:c.Ok)(ab:m<=899000000)(o:DB d m)(u:Z4 c.l d.k 8=0)(g:Tv a 10=Aa O (Z4 c.l d.k 8:Nat))(x:c.Fr a)(y:c.N w ⟨d.n,d.k+1⟩ X)(f:∀ a' w',c.Fr a'->c.N w' (Z1x c.l c.h c.T d) X->K a' w'):(Z2 16 (Z3 f51)).wp Ad (Exit.then K Q) a w:=by
 obtain ⟨t,rfl⟩:=x.opened;have ag:=j.sz;have ae:=j.id;have ac:=o.k;clear x;have HS:=Z0 y;clear y;have s:t 10=Aa O (Z4 c.l d.k 8:Nat):=g;rw [s];clear s g;rw [show Z1x c.l c.h c.T d=⟨{ d.n with ld:=if 1+(((c.ID:Int)+(Z4 c.l (d.k+1) (c.SZ-1):Nat))%(c.SZ:Int))=c.ID then 0 else 1+(((c.ID:Int)+(Z4 c.l (d.k+1) (c.SZ-1):Nat))%(c.SZ:Int)) },d.k+1+1⟩ by unfold Z1x;rw [if_pos u];rfl] at f;rw [u];obtain ⟨p,i⟩:=exq (Z4 c.l (d.k+1) (c.SZ-1));have v:=Z0 i;rw [<-i] at f;have bp:p<(c.SZ-1):=i▸Z6 _ _ _ (by omega)
 clear i;obtain ⟨M,hM⟩:=exq (c.SZ-1);rw [<-hM] at v bp;have z:=Int.emod_nonneg ((c.ID:Int)+(p:Int)) (b:=(c.SZ:Int)) (by omega);have aa:=Int.emod_lt_of_pos ((c.ID:Int)+(p:Int)) (b:=(c.SZ:Int)) (by omega)
 conv=>arg 2;whnf
 go_wp2_with (go_at_call 53;rw [show ((c.SZ:Int)-1)=(M:Int) by omega];go_loud (refine (HS.pick1 j M (by show d.k+1<=_;omega)).mono ?_;rw [<-v.out];rintro r w9 ⟨rfl,hd⟩;have e:=Z0 hd;have c7:w9.cell? ⟨c.b9,7,Ab⟩=Ac (Aa O d.n.ld):=e.blk.cell 7;have f7:=e.blk.free 7;clear hd))
 ·rename_i hz
  have heq:1+((c.ID:Int)+(p:Int))%(c.SZ:Int)=c.ID:=by simpa using hz
  rw [if_pos heq] at f;exact f _ _ {} (DC.N.set (e.set (n':={ d.n with ld:=1+((c.ID:Int)+(p:Int))%(c.SZ:Int) }) 7 (by omega) _ rfl rfl rfl rfl rfl rfl rfl) 7 (by omega) _)
 ·rename_i hz
  have q:¬ 1+((c.ID:Int)+(p:Int))%(c.SZ:Int)=c.ID:=by simpa using hz
  rw [if_neg q] at f;exact f _ _ {} (e.set 7 (by omega) _)
theorem dnI16b (p:c.Ok)(ab:m<=899000000)(i:DB d m)(v:¬ Z4 c.l d.k 8=0)(g:Tv a 10=Aa O (Z4 c.l d.k 8:Nat))(x:c.Fr a)(y:c.N w ⟨d.n,d.k+1⟩ X)(b:∀ a' w',c.Fr a'->c.N w' (Z1x c.l c.h c.T d) X->K a' w'):(Z2 16 (Z3 f51)).wp Ad (Exit.then K Q) a w:=by
 obtain ⟨t,rfl⟩:=x.opened;clear x;have e:=Z0 y;clear y;have u:t 10=Aa O (Z4 c.l d.k 8:Nat):=g;rw [u];clear u g;have s:Z1x c.l c.h c.T d=if Z4 c.l d.k 8<3 then ⟨{ d.n with ro:=1 },d.k+1⟩ else if Z4 c.l d.k 8<5/\0<c.T then ⟨{ d.n with ro:=2,vo:=c.ID },d.k+1⟩ else if 4<Z4 c.l d.k 8/\0<c.T then ⟨{ d.n with ro:=3,vo:=c.ID,ld:=c.ID },d.k+1⟩ else ⟨d.n,d.k+1⟩:=by unfold Z1x;rw [if_neg v];rfl
 rw [s] at b;clear s;obtain ⟨q,o⟩:=exq (Z4 c.l d.k 8);rw [<-o] at b v ⊢;have bq:q<8:=o▸Z6 _ _ _ (by omega)
 clear o;obtain ⟨T,j⟩:=exq (c.T);have aa:w.cell? ⟨c.b5,0,Ab⟩=Ac (Aa O T):=j▸e.stb.cell 0
 rw [<-j] at b;clear j;have c5:w.cell? ⟨c.b9,5,Ab⟩=Ac (Aa O d.n.vo):=e.blk.cell 5;have f5:=e.blk.free 5;have c6:w.cell? ⟨c.b9,6,Ab⟩=Ac (Aa O d.n.ro):=e.blk.cell 6;have f6:=e.blk.free 6;have c7:w.cell? ⟨c.b9,7,Ab⟩=Ac (Aa O d.n.ld):=e.blk.cell 7;have f7:=e.blk.free 7
 conv=>arg 2;whnf
 by_cases z:q<3
 ·rw [if_pos z] at b
  go_wp2_with fail
  exact b _ _ {} (e.set 6 (by omega) _)
 ·rw [if_neg z] at b
  by_cases f:0<T
  ·by_cases r:q<5
   ·rw [if_pos ⟨r,f⟩] at b
    go_wp2_with fail
    exact b _ _ {} (DC.N.set (e.set (n':={ d.n with ro:=2 }) 6 (by omega) _ rfl rfl rfl rfl rfl rfl rfl) 5 (by omega) _)
   ·rw [if_neg (λh=>r h.1),if_pos ⟨by omega,f⟩] at b
    go_wp2_with fail
    exact b _ _ {} (DC.N.set (DC.N.set (e.set (n':={ d.n with ro:=3 }) 6 (by omega) _ rfl rfl rfl rfl rfl rfl rfl) (n':={ d.n with ro:=3,vo:=c.ID }) 5 (by omega) _ rfl rfl rfl rfl rfl rfl rfl) 7 (by omega) _)
  ·rw [if_neg (λh=>f h.2),if_neg (λh=>f h.2)] at b
   by_cases r:q<5
   ·go_wp2_with fail
    exact b _ _ {} e
   ·go_wp2_with fail
    exact b _ _ {} e
theorem dnI16 (f:c.Ok)(b:m<=899000000)(i:DB d m)(e:Tv a 10=Aa O (Z4 c.l d.k 8:Nat))(p:c.Fr a)(j:c.N w ⟨d.n,d.k+1⟩ X)(g:∀ a' w',c.Fr a'->c.N w' (Z1x c.l c.h c.T d) X->K a' w'):(Z2 16 (Z3 f51)).wp Ad (Exit.then K Q) a w:=by
 by_cases o:Z4 c.l d.k 8=0
 ·exact dnI16a f b i o e p j g
 ·exact dnI16b f b i o e p j g
end
theorem SzD.frame {a:Bn}{n:Nat}(h:SzD a n)(b:List Nat)(y:Nat->Af):SzD (frame a b y) n:=⟨(Z52 a b y).trans h.1,h.2⟩
section
variable {w0 w w':Ag} {g k:Nat} {v u:Af} {l b:List Int}
theorem Dr.storeO (h:Dr w0 w g v l k []){q j:Nat}(a:w0.heap.size<=q)(y:Af):Dr w0 (w.setCell ⟨q,j,Ab⟩ y) g v l k []:=
 h.belowB ((An w0.heap.size w).setCell a y) (Ao _) (λx hx=>by cases hx)
end
end Go.Proofs.YtmmpoppgabadmaaGreat
