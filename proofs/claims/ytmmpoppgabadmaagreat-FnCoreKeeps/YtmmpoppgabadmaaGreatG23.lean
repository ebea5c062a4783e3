import Derived.Test.YtmmpoppgabadmaaGreatG20
import Derived.Test.YtmmpoppgabadmaaGreatG22
set_option linter.unusedVariables false
set_option linter.unusedSimpArgs false
set_option maxRecDepth 100000
set_option maxHeartbeats 16000000
open Go.Value renaming slice → I,int → Aa,pointer → Ae,agg → Aw,string → Az
open Go.IntKind renaming i64 → O
open _root_.Option renaming none → Ab,some → Ac
namespace Go.Proofs.YtmmpoppgabadmaaGreat
open Go.Proofs.Tryz
open Go.RowKit Go.Maps
variable {w w':World}{B b:Nat}{r:Rn}{x:CV}
theorem Z9.blockB (h:Z9 w B b r x)(a:∀ k,B<=k->w'.heap[k]? = w.heap[k]?):Z9 w' B b r x:=by
 have d:∀ {α:Type} {cs:α->List Value} {m:Nat} {T:TypeId} {v:Value} {l:List α},Zc cs m T w B v l->Zc cs m T w' B v l:=λho=>ho.block λk e=>a k (ho.lts k e).1
 have c:∀ {v:Value} {l:List Ent},Zh w B v l->Zh w' B v l:=λho=>ho.block λk e=>a k (World.ownsRow.lt ho.2 k e).1
 exact ⟨h.blk.keep (a b h.lo),h.lo,c h.log,h.gm.keep (a _ h.gml),h.gml,h.pm.keep (a _ h.pml),h.pml,h.gp,λy q e=>⟨(h.pf y q e).1.keep (a q (h.pf y q e).2),(h.pf y q e).2⟩,h.pi,h.pk,d h.out,h.outC,λp hp=>c (h.ents p hp),h.apE,h.ci⟩
variable {vg vn vm vs vt:Value}
theorem Z0j.le {c:Nat}(h:Z0j w B r vg vn vm vs vt)(a:c<=B):Z0j w c r vg vn vm vs vt:=⟨h.gr.le a,h.nx.le a,h.mt.le a,h.se.le a,h.st.le a,h.ap⟩
theorem Z0j.blockB (h:Z0j w B r vg vn vm vs vt)(c:∀ k,B<=k->w'.heap[k]? = w.heap[k]?):Z0j w' B r vg vn vm vs vt:=by
 have a:∀ {v:Value} {l:List Int},Zc inC 1 3 w B v l->Zc inC 1 3 w' B v l:=λho=>ho.block λk e=>c k (ho.lts k e).1
 exact ⟨a h.gr,a h.nx,a h.mt,a h.se,a h.st,h.ap⟩
theorem Z0j.below (h:Z0j w B r vg vn vm vs vt)(a:Below w.heap.size w w'):Z0j w' B r vg vn vm vs vt:=⟨h.gr.below a,h.nx.below a,h.mt.below a,h.se.below a,h.st.below a,h.ap⟩
theorem core_ans (h:Z9 w B b r x)(a:Z0j w B r vg vn vm vs vt):J0 w B r ⟨x.vl,vg,vn,vm,vs,vt,x.vo,x.L⟩:=⟨h.log,a.gr,a.nx,a.mt,a.se,a.st,h.out,h.outC,h.ents,a.ap⟩
end Go.Proofs.YtmmpoppgabadmaaGreat
namespace Go.Proofs.YtmmpoppgabadmaaGreat
open Go.Proofs.Tryz
open Go.RowKit Go.Maps
theorem iStepNode_ok (n:Nd)(m:Mg)(ki dr cl sq op:Int)(k v o:ByteArray)(a12 a13 a14 a15 a16 a17 ea:Option Addr)(c12 c13 c14 c15 c16 c17 ec:Nat)(w:World)(aj:Es w (I a12 n.log.length c12) n.log)(aq:Ix w (I a13 n.gr.length c13) n.gr)(ad:Ix w (I a14 n.nx.length c14) n.nx)(am:Ix w (I a15 n.mt.length c15) n.mt)(an:Ix w (I a16 n.se.length c16) n.se)(ae:Ix w (I a17 n.st.length c17) n.st)(az:n.log.length<=1048576)(b2:n.gr.length<=1048576)(cc:n.nx.length<=1048576)(b7:n.mt.length<=1048576)(bo:n.se.length<=1048576)(ca:n.st.length<=1048576)(he:Es w (I ea m.es.length ec) m.es)(ay:∀ k,(Value.slice ea m.es.length ec).ownBlock=Ac k->k<w.heap.size)(a8:m.es.length<=1048576)(hd : -(2^63)<=dr)(hD:dr<2^63)(hk:k.size<=maxLen)(hv:v.size<=maxLen)(ho:o.size<=maxLen)(bg:m.es.length<=ec)(i:Yb n=0) :
  Calls Tryz.prog 12 #[Aw (nqN n.id n.sz n.el n.bt n.tm n.vo n.ro n.ld n.cm n.nw n.dl n.hd (I a12 n.log.length c12) (I a13 n.gr.length c13) (I a14 n.nx.length c14) (I a15 n.mt.length c15) (I a16 n.se.length c16) (I a17 n.st.length c17)),Aw #[Aa O ki,Aa O dr,Aa O m.ki,Aa O m.fr,Aa O m.td,Aa O m.tm,Aa O m.li,Aa O m.lt,Aa O m.cm,Aa O m.ok,Aa O m.hi,I ea m.es.length ec,Aa O cl,Aa O sq,Aa O op,Az k,Az v,Az o]] w λe w'=>∃ x,e=.returned (Aw (saC (Z2j n dr ki m cl sq op k v o) x))/\J0 w' w.heap.size (Z2j n dr ki m cl sq op k v o) x/\(x.vl :: x.L.map Om.v).Pairwise Yd/\Below w.heap.size w w':=by
 generalize hRP:Z2j n dr ki m cl sq op k v o=R;have b0:=Z0 hRP;clear hRP;obtain ⟨W,hW⟩:=exq (((w.alloc (.cells (nqN n.id n.sz n.el n.bt n.tm n.vo n.ro n.ld n.cm n.nw n.dl n.hd (I a12 n.log.length c12) (I a13 n.gr.length c13) (I a14 n.nx.length c14) (I a15 n.mt.length c15) (I a16 n.se.length c16) (I a17 n.st.length c17)) 36)).alloc (.cells #[Aa O ki,Aa O dr,Aa O m.ki,Aa O m.fr,Aa O m.td,Aa O m.tm,Aa O m.li,Aa O m.lt,Aa O m.cm,Aa O m.ok,Aa O m.hi,I ea m.es.length ec,Aa O cl,Aa O sq,Aa O op,Az k,Az v,Az o] 46)).alloc (.cells #[Aa O 0,Aa O 0,Aa O 0,Aa O 0,Aa O 0,Aa O 0,Aa O 0,Aa O 0,Aa O 0,Aa O 0,Aa O 0,Aa O 0,Aa O 0,Aa O 0,I Ab 0 0,I Ab 0 0,I Ab 0 0,I Ab 0 0,I Ab 0 0,I Ab 0 0,I Ab 0 0] 39));have HW:=Z0 hW;have ag:Hid (Blk W w.heap.size (nqN n.id n.sz n.el n.bt n.tm n.vo n.ro n.ld n.cm n.nw n.dl n.hd (I a12 n.log.length c12) (I a13 n.gr.length c13) (I a14 n.nx.length c14) (I a15 n.mt.length c15) (I a16 n.se.length c16) (I a17 n.st.length c17)) 36):=by unfold Hid;rw [hW];exact ((Blk.new _ _ _).alloc _).alloc _
 have a2:Hid (Blk W (w.heap.size+1) #[Aa O ki,Aa O dr,Aa O m.ki,Aa O m.fr,Aa O m.td,Aa O m.tm,Aa O m.li,Aa O m.lt,Aa O m.cm,Aa O m.ok,Aa O m.hi,I ea m.es.length ec,Aa O cl,Aa O sq,Aa O op,Az k,Az v,Az o] 46):=by unfold Hid;rw [hW];exact (Blk.new' _ _ _).alloc _
 have a1:Hid (Blk W (w.heap.size+1+1) #[Aa O 0,Aa O 0,Aa O 0,Aa O 0,Aa O 0,Aa O 0,Aa O 0,Aa O 0,Aa O 0,Aa O 0,Aa O 0,Aa O 0,Aa O 0,Aa O 0,I Ab 0 0,I Ab 0 0,I Ab 0 0,I Ab 0 0,I Ab 0 0,I Ab 0 0,I Ab 0 0] 39):=by unfold Hid;rw [hW];exact Blk.new' _ _ _
 have ai:Hid (Below w.heap.size w W):=by unfold Hid;rw [hW];exact (baq.alloc (by simp) _).alloc (by simp;omega) _
 have bu:Hid (W.heap.size=w.heap.size+3):=by unfold Hid;rw [hW];simp
 have HF:Hid (∀ z,Below w.heap.size w z->Calls Tryz.prog 26 #[Aw (nqN n.id n.sz n.el n.bt n.tm n.vo n.ro n.ld n.cm n.nw n.dl n.hd (I a12 n.log.length c12) (I a13 n.gr.length c13) (I a14 n.nx.length c14) (I a15 n.mt.length c15) (I a16 n.se.length c16) (I a17 n.st.length c17))] z λe w'=>e=.returned (Aa O (Yb n))/\Below z.heap.size z w'):=λz hz=>
  (by rw [show Yb n=0 from i];exact nodeI_ok (aj.below hz) (aq.below hz) (ad.below hz) (am.below hz) (an.below hz) (ae.below hz) i)
 have b8:=Z0 λh0 z hz=>
  coreOf_any n a12 a13 a14 a15 a16 a17 c12 c13 c14 c15 c16 c17 z (aj.below hz) az (aq.below hz) (ad.below hz) (am.below hz) (an.below hz) (ae.below hz) (nodeN_ci n h0)
 have HS:=Z0 λh0 z B b x hz hB hC=>by
  obtain ⟨r,t0,t1,cy,cw,bm,hg,hl⟩:=Z03 n h0
  have e:((rn0 n).begin dr).step ki m cl sq op k v o=R:=by
   have h9:=b0.out;unfold Z2j at h9;rw [if_pos h0] at h9;exact h9
  have h9:=step_any b (rn0 n) x ki dr m cl sq op k v o ea ec z B hC rfl r hd hD t0 t1 (he.below hz) (λj e=>Nat.lt_of_lt_of_le (ay j e) hB) bg a8 (λhro=>(Z2z n hro (by have:=r.sz0;omega) r.nw0 hl).1) (λhro=>(Z2z n hro (by have:=r.sz0;omega) r.nw0 hl).2) bm (Z4o n h0).1 hk hv ho;rw [e] at h9;exact h9
 clear aj aq ad am an ae az b2 cc b7 bo ca he ay a8 hd hD hk hv ho hW bg;go_enter func12,ntmps12
 go_upto_region 1 with fail
 rw [<-HW.out];clear HW;generalize hai:w.heap.size+1+1=ba at *;generalize hii:w.heap.size+1=bi at *;have a6:Hid (w.heap.size<bi/\bi<ba/\ba<W.heap.size):=by have:=bu.out;unfold Hid;omega
 clear hai hii;have ah:Hid _:=HF.out W ai.out;have bv:Hid _:=HS.out i;have bw:Hid _:=b8.out i;have cx:(Yb n != 0)=false:=by simp [i]
 clear i
 go_upto_region 5 with (first
  |(have q:=ah;refine Zd 36 _ rfl ?_;clear q;refine Z7 rfl 36 _ rfl _ rfl ag.out underlying36 rfl Z0q rfl ?_)
  |(go_at_call 26;go_loud (refine Calls.mono ah.out ?_;rintro e l ⟨rfl,p⟩;have g:=Z0 (ai.out.trans (p.mono ai.out.size));have a3:Hid (Blk l w.heap.size _ 36):=ag.out.below p ag.out.lt;have be:Hid (Blk l bi _ 46):=a2.out.below p a2.out.lt;have ak:Hid (Blk l ba _ 39):=a1.out.below p a1.out.lt;have bx:Hid _:=bw.out l g.out;clear p ah))
  |(have q:=a3;refine Zd 36 _ rfl ?_;clear q;refine Z7 rfl 36 _ rfl _ rfl a3.out underlying36 rfl Z0q rfl ?_)
  |(go_at_call 37;go_loud (refine Calls.mono bx.out ?_;rintro e w2 ⟨b,x,rfl,af,bj,ab⟩;have ao:=Z0 af;have bh:=Z0 (g.out.trans (ab.mono g.out.size));have bd:Hid (Blk w2 bi _ 46):=be.out.below ab be.out.lt;have b3:Hid (Blk w2 ba _ 39):=ak.out.below ab ak.out.lt;have ce:Hid _:=bv.out w2 l.heap.size b x bh.out g.out.size af;clear af ab bj))
  |(have q:=bd;refine Zd 46 _ rfl ?_;clear q;refine Z7 rfl 46 _ rfl bi rfl bd.out underlying46 rfl sizeInA rfl ?_)
  |(go_at_call 38;go_loud (refine Calls.mono ce.out ?_;rintro e w3 ⟨rfl,d,a7,bc⟩;have c:=Z0 a7;have s:=Z0 bc;clear a7 bc)))
 have a0:Hid (∀ k,k<l.heap.size->w3.heap[k]? = w2.heap[k]?):=λk hk=>s.out.block k (by have:=ao.out.lo;have:=ao.out.lt;omega) (λh=>by have:=(ao.out.has_le h).1;omega)
 have a4:=ak.out.lt;have aa:=Z0 (b3.out.keep (a0.out ba a4));have au:=Z0 (bh.out.trans ⟨s.out.os,s.out.tape,s.out.output,s.out.size,λk hk=>a0.out k (Nat.lt_of_lt_of_le hk g.out.size)⟩);obtain ⟨la,lc,al⟩:=c.out.log.shape;obtain ⟨t,u,y⟩:=c.out.out.shape;generalize R.n.log.length=LL at al;generalize d.L.length=OL at y;have cu:=Z0 al;have ax:=Z0 y;have cz:w3.cell? ⟨b,21,Ab⟩=Ac (Aa O R.drew):=c.out.blk.cell 21;have c0:w3.cell? ⟨b,23,Ab⟩=Ac (I t OL u):=by rw [<-y];exact c.out.blk.cell 23
 have cv:w3.there ba 0 21:=λj hj=>⟨by rw [Nat.zero_add,aa.out.cell j,Array.getElem?_eq_getElem (by simpa using hj)];rfl,by rw [Nat.zero_add];exact aa.out.free j⟩
 have ac:=Z2k;have ac:=Z2k;clear al y ac;have br:w.heap.size<=ba:=by have:=a6.out;omega
 have bp:=g.out.size;refine Z3q [Ac 16,Ac 17,Ac 18,Ac 19,Ac 20,Ac 21,Ac 22,Ac 23,Ac 24,Ac 25,Ac 26,Ac 27] [Vl (Aa O R.code),Vl (Ae (Ac ⟨b,0,Ab⟩)),Vl (Ae (Ac ⟨b,0,Ab⟩)),Vl (Ae (Ac ⟨b,21,Ab⟩)),Vl (Aa O R.drew),Vl (Ae (Ac ⟨b,0,Ab⟩)),λv9 W9=>∃ vg vn vm vs vt,v9=Aw (nqN R.n.id R.n.sz R.n.el R.n.bt R.n.tm R.n.vo R.n.ro R.n.ld R.n.cm R.n.nw R.n.dl R.n.hd d.vl vg vn vm vs vt)/\Z0j W9 l.heap.size R vg vn vm vs vt,Vl (Ae (Ac ⟨b,0,Ab⟩)),Vl (Ae (Ac ⟨b,0,Ab⟩)),Vl (Ae (Ac ⟨b,23,Ab⟩)),Vl (I t OL u),λv9 W9=>∃ vg vn vm vs vt,v9=Aw #[Aa O R.code,Aa O R.drew,Aa O R.n.id,Aa O R.n.sz,Aa O R.n.el,Aa O R.n.bt,Aa O R.n.tm,Aa O R.n.vo,Aa O R.n.ro,Aa O R.n.ld,Aa O R.n.cm,Aa O R.n.nw,Aa O R.n.dl,Aa O R.n.hd,d.vl,vg,vn,vm,vs,vt,I t OL u]/\Z0j W9 l.heap.size R vg vn vm vs vt] (by kernel_rfl) rfl rfl rfl (by decide) (by decide) (Yk (X9 _) (Yk (X9 _) (Yk (X9 _) (Yk (X9 _) (Yk (X9 _) (Yk (X9 _) (Yk (λ_ _ _ r h=>(let ⟨vg,vn,vm,vs,vt,q1,q2⟩:=h;⟨vg,vn,vm,vs,vt,q1,q2.below r⟩)) (Yk (X9 _) (Yk (X9 _) (Yk (X9 _) (Yk (X9 _) (Yk (λ_ _ _ r h=>(let ⟨vg,vn,vm,vs,vt,q1,q2⟩:=h;⟨vg,vn,vm,vs,vt,q1,q2.below r⟩)) sta_n)))))))))))) (Zq (Zq (Zq (Zq (Zq (Zq (Zq (Zq (Zq (Zq (Zq (Zq lt_z (QO.move rfl rfl rfl rfl (.inl rfl) (λa9 o9=>o9 6 (Aa O R.code) rfl rfl))) (QO.move rfl rfl rfl rfl (.inl rfl) (λa9 o9=>o9 5 (Ae (Ac ⟨b,0,Ab⟩)) rfl rfl))) ?_) ?_) ?_) (QO.move rfl rfl rfl rfl (.inl rfl) (λa9 o9=>o9 5 (Ae (Ac ⟨b,0,Ab⟩)) rfl rfl))) ?_) (QO.move rfl rfl rfl rfl (.inl rfl) (λa9 o9=>o9 5 (Ae (Ac ⟨b,0,Ab⟩)) rfl rfl))) ?_) ?_) ?_) ?_) λa9 u9 n9 o9 s9 d9 b9=>?_
 ·refine QO.val λa9 u9 n9 o9 b9=>?_
  have cf:=Zu (n9 1 _ _ rfl rfl rfl);go_simp
 ·refine QO.val λa9 u9 n9 o9 b9=>?_
  have ct:=Zu (n9 2 _ _ rfl rfl rfl);go_simp
 ·refine QO.val λa9 u9 n9 o9 b9=>?_
  have b6:u9.cell? ⟨b,21,Ab⟩=Ac (Aa O R.drew):=(c.out.below b9).blk.cell 21;have cg:=Zu (n9 3 _ _ rfl rfl rfl);go_simp
 ·refine QO.call (N:=39) rfl rfl rfl rfl rfl (λ_ _=>by go_simp) λa9 u9 n9 o9 b9=>?_
  have bb:Tv a9 21=_:=n9 5 _ _ rfl rfl rfl;simp only [List.map_toArray,List.map_cons,List.map_nil,bb];refine Calls.mono (told_any b R d u9 _ (c.out.below b9)) ?_;rintro e z ⟨vg,vn,vm,vs,vt,rfl,f,r⟩;exact ⟨r,_,rfl,⟨vg,vn,vm,vs,vt,rfl,f.le (Nat.le_trans (c.out.below b9).lo (Nat.le_of_lt (c.out.below b9).lt))⟩⟩
 ·refine QO.val λa9 u9 n9 o9 b9=>?_
  have cq:=Zu (n9 7 _ _ rfl rfl rfl);go_simp
 ·refine QO.val λa9 u9 n9 o9 b9=>?_
  have ch:=Zu (n9 8 _ _ rfl rfl rfl);go_simp
 ·refine QO.val λa9 u9 n9 o9 b9=>?_
  have b6:u9.cell? ⟨b,23,Ab⟩=Ac (I t OL u):=by rw [<-ax.out];exact (c.out.below b9).blk.cell 23
  have cp:=Zu (n9 9 _ _ rfl rfl rfl);go_simp
 ·refine ⟨_,_,rfl,rfl,rfl,rfl,λa9 u9 K9 n9 o9 b9 k9=>?_⟩
  obtain ⟨vg,vn,vm,vs,vt,bk,f⟩:=n9 6 _ _ rfl rfl rfl;have cj:=Zu (n9 0 _ _ rfl rfl rfl);have cr:=Zu (n9 4 _ _ rfl rfl rfl);have cn:=Zu bk;have co:=Zu (n9 10 _ _ rfl rfl rfl);refine Z0z (v:=Aw #[Aa O R.code,Aa O R.drew,Aa O R.n.id,Aa O R.n.sz,Aa O R.n.el,Aa O R.n.bt,Aa O R.n.tm,Aa O R.n.vo,Aa O R.n.ro,Aa O R.n.ld,Aa O R.n.cm,Aa O R.n.nw,Aa O R.n.dl,Aa O R.n.hd,d.vl,vg,vn,vm,vs,vt,I t OL u]) ?_ (k9 _ _ (Below.refl _ _) ⟨vg,vn,vm,vs,vt,rfl,f⟩);go_simp
 ·obtain ⟨vg,vn,vm,vs,vt,bq,f⟩:=n9 11 _ _ (by decide) rfl rfl
  have ar:saC R ⟨d.vl,vg,vn,vm,vs,vt,d.vo,d.L⟩=#[Aa O R.code,Aa O R.drew,Aa O R.n.id,Aa O R.n.sz,Aa O R.n.el,Aa O R.n.bt,Aa O R.n.tm,Aa O R.n.vo,Aa O R.n.ro,Aa O R.n.ld,Aa O R.n.cm,Aa O R.n.nw,Aa O R.n.dl,Aa O R.n.hd,d.vl,vg,vn,vm,vs,vt,I t OL u]:=by unfold saC;rw [ax.out]
  have hK:=c.out.below b9;have a5:=aa.out.below b9 aa.out.lt;have av:=(core_ans hK f).one;rw [ar] at av;refine Zs rfl rfl (Z0a 39 _ _ rfl ba (o9 4 (Ae (Ac ⟨ba,0,Ab⟩)) rfl rfl) bq a5 Z2k rfl rfl av ?_);have aw:=hK.blockB (λk hk=>setRow_other _ _ _ _ (by omega):∀ k,l.heap.size<=k->(u9.setRow ba #[Aa O R.code,Aa O R.drew,Aa O R.n.id,Aa O R.n.sz,Aa O R.n.el,Aa O R.n.bt,Aa O R.n.tm,Aa O R.n.vo,Aa O R.n.ro,Aa O R.n.ld,Aa O R.n.cm,Aa O R.n.nw,Aa O R.n.dl,Aa O R.n.hd,d.vl,vg,vn,vm,vs,vt,I t OL u]).heap[k]? = u9.heap[k]?);have cd:Z0j (u9.setRow ba #[Aa O R.code,Aa O R.drew,Aa O R.n.id,Aa O R.n.sz,Aa O R.n.el,Aa O R.n.bt,Aa O R.n.tm,Aa O R.n.vo,Aa O R.n.ro,Aa O R.n.ld,Aa O R.n.cm,Aa O R.n.nw,Aa O R.n.dl,Aa O R.n.hd,d.vl,vg,vn,vm,vs,vt,I t OL u]) l.heap.size R vg vn vm vs vt:=f.blockB λk hk=>setRow_other _ _ _ _ (by omega)
  have bz:=a5.row #[Aa O R.code,Aa O R.drew,Aa O R.n.id,Aa O R.n.sz,Aa O R.n.el,Aa O R.n.bt,Aa O R.n.tm,Aa O R.n.vo,Aa O R.n.ro,Aa O R.n.ld,Aa O R.n.cm,Aa O R.n.nw,Aa O R.n.dl,Aa O R.n.hd,d.vl,vg,vn,vm,vs,vt,I t OL u];have bn:Below w.heap.size w (u9.setRow ba #[Aa O R.code,Aa O R.drew,Aa O R.n.id,Aa O R.n.sz,Aa O R.n.el,Aa O R.n.bt,Aa O R.n.tm,Aa O R.n.vo,Aa O R.n.ro,Aa O R.n.ld,Aa O R.n.cm,Aa O R.n.nw,Aa O R.n.dl,Aa O R.n.hd,d.vl,vg,vn,vm,vs,vt,I t OL u]):=Yz (au.out.trans (b9.mono au.out.size)) br _;obtain ⟨a,rfl⟩:=SzD.opened (n:=28) ⟨s9.trans rfl,d9.trans rfl⟩;rw [show lst a 0 28 = [a 0,a 1,a 2,a 3,a 4,a 5,a 6,a 7,a 8,a 9,a 10,a 11,a 12,a 13,a 14,a 15,a 16,a 17,a 18,a 19,a 20,a 21,a 22,a 23,a 24,a 25,a 26,a 27] from rfl]
  try dsimp only
  rw [show a 4=_ from o9 4 (Ae (Ac ⟨ba,0,Ab⟩)) rfl rfl]
  (try go_wp2_with fail)
  (try simp only [Exit.inBlock,Exit.then])
  refine bodyPost_ret (v:=Aw (saC R ⟨d.vl,vg,vn,vm,vs,vt,d.vo,d.L⟩)) (Zl results12 rfl (by rw [ar];exact bz) underlying39 rfl Z2k rfl) rfl ⟨⟨d.vl,vg,vn,vm,vs,vt,d.vo,d.L⟩,rfl,(core_ans aw cd).le bp,by simpa using aw.apE,bn⟩
end Go.Proofs.YtmmpoppgabadmaaGreat
namespace Go.Proofs.YtmmpoppgabadmaaGreat
open Go.Proofs.Tryz
open Go.RowKit Go.Maps
end Go.Proofs.YtmmpoppgabadmaaGreat
