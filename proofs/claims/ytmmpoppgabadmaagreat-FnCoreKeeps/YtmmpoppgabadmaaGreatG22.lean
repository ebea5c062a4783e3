import Derived.Test.YtmmpoppgabadmaaGreatG21
set_option linter.unusedVariables false
set_option linter.unusedSimpArgs false
set_option maxRecDepth 100000
set_option maxHeartbeats 16000000
open Go.Value renaming slice → I,int → Aa,string → Az
open Go.IntKind renaming i64 → O
open _root_.Option renaming none → Ab,some → Ac
open Go.RowKit renaming Hid → Ah,Below → Ai
open Go.Calls renaming mono → Am
open _root_.List renaming length_append → Bc
namespace Go.Proofs.YtmmpoppgabadmaaGreat
open Go.Proofs.Tryz
open Go.RowKit Go.Maps
theorem Z9.code {w:World}{B b:Nat}{r:Rn}{x:CV}(h:Z9 w B b r x)(c:Int):Z9 w B b { r with code:=c } x:=
 h.re (r':={ r with code:=c }) (kp':=x.kp) h.blk (λ_ _ _=>rfl) rfl rfl rfl rfl rfl rfl rfl rfl rfl Iff.rfl
theorem callF_ne (cl sq op k v o:Int):Z4v cl sq op k v o≠0↔(Z13 cl sq op k v o≠0∨op=0):=by
 unfold Z4v;by_cases h:Z13 cl sq op k v o=0/\op=0
 ·rw [if_pos h]
  exact ⟨λ_=>.inr h.2,λ_=>by decide⟩
 ·rw [if_neg h]
  constructor
  ·intro e;exact .inl e
  ·rintro (e | e)
   ·exact e
   ·intro e2;exact h ⟨e2,e⟩
theorem propose_any (b:Nat)(r:Rn)(x:CV)(cl sq op:Int)(k v o:ByteArray)(w:World)(B:Nat)(h:Z9 w B b r x)(hc:r.code=0)(hL:x.L.length<=900)(au:r.n.log.length<=4096)(hd:r.n.ro=3->LdB r.n r.n.sz.toNat)(hk:k.size<=maxLen)(hv:v.size<=maxLen)(ho:o.size<=maxLen) :
  Calls Tryz.prog 85 #[.pointer (Ac ⟨b,0,Ab⟩),.agg (cqN cl sq op k v o)] w λe w'=>e=.returned (Aa O (r.propose (decide (Z13 cl sq op k.size v.size o.size≠0∨op=0)) cl sq op k v o).code)/\∃ x',Z9 w' B b (r.propose (decide (Z13 cl sq op k.size v.size o.size≠0∨op=0)) cl sq op k v o) x'/\Tch b w x w' x':=by
 obtain ⟨W,t⟩:=exq (w.alloc (.cells (cqN cl sq op k v o) 44));have ai:Ah (Ai w.heap.size w W):=t▸Below.alloc0 _
 have i:Ah (Blk W w.heap.size (cqN cl sq op k v o) 44):=t▸Blk.new _ _ _
 have ay:=Z0 (h.below ai);have HF:=Z0 λz=>callFault_any cl sq op k v o hk hv ho z
 have m0:=i.cell 0;have m1:=i.cell 1;have m2:=i.cell 2;have m3:=i.cell 3;have m4:=i.cell 4;have m5:=i.cell 5;obtain ⟨F,hF⟩:=exq (Z4v cl sq op k.size v.size o.size);have ae:=callF_ne cl sq op k.size v.size o.size;rw [<-hF] at HF ae;rw [show decide (Z13 cl sq op k.size v.size o.size≠0∨op=0)=decide (F≠0) from decide_eq_decide.2 ae.symm];clear hF ae;have aa:Ah (∀ z,Ai W.heap.size W z->Z9 z B b r x/\Ai w.heap.size w z/\Blk z w.heap.size (cqN cl sq op k v o) 44):=λz hz=>⟨ay.below hz,ai.trans (hz.mono ai.size),i.below hz i.lt⟩
 by_cases af:F≠0
 ·have s:Ah (r.propose (decide (F≠0)) cl sq op k v o={ r with code:=6 }):=by unfold Ah Rn.propose;rw [decide_eq_true af,if_pos rfl]
  rw [s.out];have bc:(F != 0)=true:=by simpa using af
  clear h s af;go_enter func85,ntmps85
  go_upto_region 1 with fail
  rw [<-t];clear t
  go_wp2_with (first
   |(go_at_call 136;refine Am (HF _) ?_;rintro e c ⟨rfl,a⟩;have d:Ah _:=aa.out c a;clear a))
  go_ret;exact ⟨rfl,x,d.1.code 6,Tch.below0 _ _ d.2.1⟩
 have aq:F=0:=by omega
 subst aq;rw [show decide ((0:Int)≠0)=false from rfl];by_cases m:r.n.ro≠3
 ·have s:Ah (r.propose false cl sq op k v o={ r with code:=4 }):=by unfold Ah Rn.propose;rw [ifd,if_pos m]
  rw [s.out];have ax:(r.n.ro != 3)=true:=by simpa using m
  have y:Ah (∀ z,Z9 z B b r x->z.cell? ⟨b,6,Ab⟩=Ac (Aa O r.n.ro)):=λz hz=>hz.blk.cell 6
  clear h s m;go_enter func85,ntmps85
  go_upto_region 1 with fail
  rw [<-t];clear t
  go_wp2_with (first
   |(go_at_call 136;refine Am (HF _) ?_;rintro e c ⟨rfl,a⟩;have d:Ah _:=aa.out c a;have d6:=y.out c d.1;clear a))
  go_ret;exact ⟨rfl,x,d.1.code 4,Tch.below0 _ _ d.2.1⟩
 have f:r.n.ro=3:=by omega
 have ax:(r.n.ro != 3)=false:=by simp [f]
 obtain ⟨la,lc,p⟩:=h.log.shape;obtain ⟨LN,ac⟩:=exq (r.n.log.length);rw [<-ac] at p au;have y:Ah (∀ z,Z9 z B b r x->z.cell? ⟨b,6,Ab⟩=Ac (Aa O r.n.ro)/\z.cell? ⟨b,12,Ab⟩=Ac (I la LN lc)/\z.cell? ⟨b,4,Ab⟩=Ac (Aa O r.n.tm)):=λz hz=>⟨hz.blk.cell 6,p▸hz.blk.cell 12,hz.blk.cell 4⟩
 by_cases ab:4096<=r.n.log.length
 ·have s:Ah (r.propose false cl sq op k v o={ r with code:=5 }):=by unfold Ah Rn.propose;rw [ifd,if_neg m,if_pos ab]
  rw [s.out];have a1:((LN:Int) == 4096)=true:=by rw [beq_iff_eq];omega
  clear h s m f ac ab p;go_enter func85,ntmps85
  go_upto_region 1 with fail
  rw [<-t];clear t
  go_wp2_with (first
   |(go_at_call 136;refine Am (HF _) ?_;rintro e c ⟨rfl,a⟩;have d:Ah _:=aa.out c a;obtain ⟨d6,a4,d4⟩:=y.out c d.1;clear a))
  go_ret;exact ⟨rfl,x,d.1.code 5,Tch.below0 _ _ d.2.1⟩
 ·obtain ⟨R2,l⟩:∃ R2:Rn,R2={ r with n:={ r.n with log:=r.n.log ++ [⟨r.n.tm,cl,sq,op,k,v,o⟩] } }:=⟨_,rfl⟩
  have s:Ah (r.propose false cl sq op k v o=R2.sendAll):=by unfold Ah Rn.propose;rw [ifd,if_neg m,if_neg ab,l]
  have HK:Ah (R2.sendAll.code=0):=by unfold Ah Rn.sendAll;rw [Z3f,l];exact hc
  rw [s.out,HK.out];have a1:((LN:Int) == 4096)=false:=by rw [beq_eq_false_iff_ne];omega
  have ad:=hd f
  have a0:=Z0 λz x9 hz hx=>Z77 b R2 x9 z B hz (l▸f) (by
   rw [l];refine ⟨ad.nxl,ad.stl,λJ hJ hne=>?_⟩;obtain ⟨P,be,a2⟩:=ad.nx J hJ hne;exact ⟨P,by show P<=(r.n.log ++ [_]).length;rw [Bc];omega,a2⟩) (by rw [l];show (r.n.log ++ [_]).length<=4096;rw [Bc,List.length_singleton];omega) hx
  have ak:Ah (∀ wq,Z9 wq B b r x->∀ w5 w6 u,Ai wq.heap.size wq w5->Zc Ent.cells 7 118 w6 B u (r.n.log ++ [⟨r.n.tm,cl,sq,op,k,v,o⟩])->Ye w5 (I la LN lc) w6 u->Z9 (w6.setCell ⟨b,12,Ab⟩ u) B b R2 { x with vl:=u }/\Tch b wq x (w6.setCell ⟨b,12,Ab⟩ u) { x with vl:=u }):=λwq hq w5 w6 u h5 ho' hg=>by
   rw [l];refine hq.logAt h5 (Zc.e ho' ?_) (p▸hg);intro e he;rcases List.mem_append.1 he with he | he
   ·exact hq.log.1 e he
   ·rw [List.mem_singleton] at he
    subst he;exact ⟨hk,hv,ho⟩
  have av:Ah (∀ wq,Z9 wq B b r x->Zc Ent.cells 7 118 wq B (I la LN lc) r.n.log):=λwq hq=>p▸hq.log.g
  have az:Ah (r.n.log.length<=1000000):=by unfold Ah;omega
  have ar:Ah ((r.n.log ++ [(⟨r.n.tm,cl,sq,op,k,v,o⟩:Ent)]).length=LN+1):=by unfold Ah;rw [Bc,List.length_singleton,ac]
  have ba:=Nat.le_trans h.lo (Nat.le_of_lt h.lt);clear h s m f ac ab p l HK ad hd;generalize R2.sendAll=RS at *;go_enter func85,ntmps85
  go_upto_region 1 with fail
  rw [<-t];clear t
  go_upto_region 7 with (first
   |(go_at_call 136;refine Am (HF _) ?_;rintro e c ⟨rfl,a⟩;have d:Ah _:=aa.out c a;obtain ⟨d6,a4,d4⟩:=y.out c d.1;clear a))
  have q:=Z0 d.2.2;have n0:=q.out.cell 0;have n1:=q.out.cell 1;have n2:=q.out.cell 2;have n3:=q.out.cell 3;have n4:=q.out.cell 4;have n5:=q.out.cell 5;have aj:=Z0 d.1.blk;have an:=Z0 (av c d.1);have aw:=Z0 λe=>Zm an aj.out (by decide) b e rfl
  have a8:=d.1.lt;have a7:=d.2.1.size;have pa:∀(o:Obj) (j:Nat),(c.alloc o).cell? ⟨b,j,Ab⟩=c.cell? ⟨b,j,Ab⟩:=λo j=>World.cell?_alloc_lt _ _ _ (by show b<c.heap.size;omega)
  clear m0 m1 m2 m3 m4 m5
  go_region_law
   (refine Z00 entLaw rfl _ _ rfl ⟨r.n.tm,cl,sq,op,k,v,o⟩ (Zc.below (Zc.below an ((Below.refl _ _).drew)) baq) rfl _ 1 (Z04 c.drew _ 118) rfl az (by simp;omega) ?_;intro v3 w3 ah ag;obtain ⟨a3,c3,am⟩:=ah.shape;rw [ar.out] at am;have ao:=Z0 ((aj.out.drew.alloc _).keep (ag.g.block _ (by simp;omega) (λe=>aw e.symm)));obtain ⟨vq,bd⟩:∃ vq,w3.cell? ⟨b,12,Ab⟩=Ac vq:=⟨_,ao.out.cell 12⟩;have pf:=ao.out.free;subst am;have al:Ah _:=ak.out c d.1 _ _ _ ((Below.refl _ _).drew.alloc (Nat.le_refl _) _) ah ag;clear ah ag)
  all_goals go_wp2_with (first
   |(go_at_call 137;refine Am (a0 _ _ al.1 hL) ?_;rintro e w8 ⟨rfl,x8,h8,t8⟩;have H8:Ah _:=h8;have T8:=Z0 (((Tch.below0 b x d.2.1).trans al.2).trans t8);clear h8 t8))
  all_goals (
   go_ret;exact ⟨rfl,_,H8.out,T8.out⟩)
end Go.Proofs.YtmmpoppgabadmaaGreat
namespace Go.Proofs.YtmmpoppgabadmaaGreat
open Go.Proofs.Tryz
open Go.RowKit Go.Maps
def Rn.begin (r:Rn)(dr:Int):Rn:=⟨r.n,[],r.code,0,dr⟩
def CV.begin (x:CV)(k:Int):CV:={ x with vo:=I Ab 0 0,L:=[],kp:=k }
theorem Z9.beginAt {w w':World}{B b:Nat}{r:Rn}{x:CV}{dr k:Int}(h:Z9 w B b r x)(f:Blk w' b (crC (r.begin dr) (x.begin k)) 80)(a:∀ j,j≠b->j<w.heap.size->w'.heap[j]? = w.heap[j]?):Z9 w' B b (r.begin dr) (x.begin k):=by
 obtain ⟨g,l,i,d,m⟩:=h.bf;refine ⟨f,h.lo,h.log.block λj e=>a j (d j e).1 (World.ownsRow.lt h.log.2 j e).2,h.gm.keep (a _ g h.gm.lt),h.gml,h.pm.keep (a _ l h.pm.lt),h.pml,h.gp,λy q e=>⟨(h.pf y q e).1.keep (a q (i y q e).1 (h.pf y q e).1.lt),(h.pf y q e).2⟩,h.pi,h.pk,Zc.nil _ _ _ _ _,rfl,?_,?_,h.ci⟩
 ·intro p c;cases c
 ·exact List.pairwise_singleton _ _
def Rn.step (r:Rn)(ki:Int)(m:Mg)(cl sq op:Int)(k v o:ByteArray):Rn:=
 if ki=1 then r.tick else if ki=2 then r.message (decide (msB m≠0)) m else if ki=3 then r.propose (decide (Z13 cl sq op k.size v.size o.size≠0∨op=0)) cl sq op k v o else { r with code:=8 }
theorem step_any (b:Nat)(r:Rn)(x:CV)(ki dr:Int)(m:Mg)(cl sq op:Int)(k v o:ByteArray)(ea:Option Addr)(ec:Nat)(w:World)(B:Nat)(h:Z9 w B b r x)(hc:r.code=0)(hb:NdB r.n)(hd : -(2^63)<=dr)(hD:dr<2^63)(ao:0<=r.n.tm)(ax:r.n.tm<=1073741824)(he:Es w (I ea m.es.length ec) m.es)(ah:∀ k,(Value.slice ea m.es.length ec).ownBlock=Ac k->k<B)(an:m.es.length<=ec)(az:m.es.length<=1048576)(ad:r.n.ro=3->LdM r.n r.n.sz.toNat)(a0:r.n.ro=3->LdT r.n r.n.sz.toNat)(aw:0<=r.n.cm)(a2:LogR r.n)(hk:k.size<=maxLen)(hv:v.size<=maxLen)(ho:o.size<=maxLen) :
  Calls Tryz.prog 38 #[.pointer (Ac ⟨b,0,Ab⟩),.agg #[Aa O ki,Aa O dr,Aa O m.ki,Aa O m.fr,Aa O m.td,Aa O m.tm,Aa O m.li,Aa O m.lt,Aa O m.cm,Aa O m.ok,Aa O m.hi,I ea m.es.length ec,Aa O cl,Aa O sq,Aa O op,Az k,Az v,Az o]] w λe w'=>e=.returned (Aa O ((r.begin dr).step ki m cl sq op k v o).code)/\∃ x',Z9 w' B b ((r.begin dr).step ki m cl sq op k v o) x'/\Tch b w x w' x':=by
 have be:=Nat.le_trans h.lo (Nat.le_of_lt h.lt);have a9:=Z0 λz (hz:Ai B w z)=>he.elder ah hz
 have ba:=Z0 ah;obtain ⟨EN,ag⟩:=exq (m.es.length);have al:=Z0 ag;rw [<-ag] at an az ⊢;obtain ⟨la,lc,aj⟩:=h.log.shape;obtain ⟨LN,ar⟩:=exq (r.n.log.length);rw [<-ar] at aj;obtain ⟨W,hW⟩:=exq (w.alloc (.cells #[Aa O ki,Aa O dr,Aa O m.ki,Aa O m.fr,Aa O m.td,Aa O m.tm,Aa O m.li,Aa O m.lt,Aa O m.cm,Aa O m.ok,Aa O m.hi,I ea EN ec,Aa O cl,Aa O sq,Aa O op,Az k,Az v,Az o] 46));have l:Ah (Ai w.heap.size w W):=hW▸Below.alloc0 _
 have ae:Ah (Blk W w.heap.size #[Aa O ki,Aa O dr,Aa O m.ki,Aa O m.fr,Aa O m.td,Aa O m.tm,Aa O m.li,Aa O m.lt,Aa O m.cm,Aa O m.ok,Aa O m.hi,I ea EN ec,Aa O cl,Aa O sq,Aa O op,Az k,Az v,Az o] 46):=hW▸Blk.new _ _ _
 have c:=Z0 (h.below l);have m1:W.cell? ⟨w.heap.size,1,Ab⟩=Ac (Aa O dr):=ae.cell 1;have a5:W.cell? ⟨b,12,Ab⟩=Ac (I la LN lc):=aj▸c.blk.cell 12
 have bc:=c.c20;have a6:=c.c21;have bd:W.cell? ⟨b,22,Ab⟩=Ac (Aa O x.kp):=c.blk.cell 22;obtain ⟨oa,oc,ac⟩:=h.out.shape;obtain ⟨ON,a1⟩:=exq (x.L.length);rw [<-a1] at ac;have a4:W.cell? ⟨b,23,Ab⟩=Ac (I oa ON oc):=ac▸c.blk.cell 23
 have df:=λj=>c.blk.free j
 have bg:=h.lt;have t:¬ w.heap.size=b:=by omega
 obtain ⟨i,aa⟩:=exq (r.begin dr);obtain ⟨q,am⟩:=exq (x.begin (LN:Int))
 have HF:Ah (∀ z,Ai W.heap.size W z->Z9 ((((z.setCell ⟨b,20,Ab⟩ (Aa O dr)).setCell ⟨b,21,Ab⟩ (Aa O 0)).setCell ⟨b,22,Ab⟩ (Aa O (LN:Int))).setCell ⟨b,23,Ab⟩ (I Ab 0 0)) B b i q/\Tch b W x ((((z.setCell ⟨b,20,Ab⟩ (Aa O dr)).setCell ⟨b,21,Ab⟩ (Aa O 0)).setCell ⟨b,22,Ab⟩ (Aa O (LN:Int))).setCell ⟨b,23,Ab⟩ (I Ab 0 0)) q/\Blk ((((z.setCell ⟨b,20,Ab⟩ (Aa O dr)).setCell ⟨b,21,Ab⟩ (Aa O 0)).setCell ⟨b,22,Ab⟩ (Aa O (LN:Int))).setCell ⟨b,23,Ab⟩ (I Ab 0 0)) w.heap.size #[Aa O ki,Aa O dr,Aa O m.ki,Aa O m.fr,Aa O m.td,Aa O m.tm,Aa O m.li,Aa O m.lt,Aa O m.cm,Aa O m.ok,Aa O m.hi,I ea EN ec,Aa O cl,Aa O sq,Aa O op,Az k,Az v,Az o] 46):=λz hz=>by
  rw [aa,am];have hC:=c.below hz;refine ⟨hC.beginAt ((((hC.blk.set 20 _).set 21 _).set 22 _).set 23 _) (Xo (b:=b) (Xo (b:=b) (Xo (b:=b) (Xo (b:=b) (Z4d z b) 20 _) 21 _) 22 _) 23 _),?_,((((ae.below hz ae.lt).set_other _ t).set_other _ t).set_other _ t).set_other _ t⟩;have s:=((((Tch.below0 b x hz).trans (Tch.set b z x 20 (Aa O dr))).trans (Tch.set b _ x 21 (Aa O 0))).trans (Tch.set b _ x 22 (Aa O (LN:Int)))).trans (Tch.set b _ x 23 (I Ab 0 0));refine ⟨s.os,s.tape,s.output,s.size,s.block,λj hj=>.inl ?_⟩;rcases hj with e | e | e | e | e | e
  ·exact .inl e
  ·exact .inr (.inl e)
  ·exact .inr (.inr (.inl e))
  ·exact .inr (.inr (.inr (.inl e)))
  ·exact .inr (.inr (.inr (.inr (.inl e))))
  ·cases e
 have a:Ah (i.n=r.n/\i.code=0/\i.draw=dr/\q.L = []):=by unfold Ah;rw [aa,am];exact ⟨rfl,hc,rfl,rfl⟩
 rw [<-aa];obtain ⟨RP,ai⟩:=exq (i.step ki m cl sq op k v o);have ab:Ah (RP=if ki=1 then i.tick else if ki=2 then i.message (decide (msB m≠0)) m else if ki=3 then i.propose (decide (Z13 cl sq op k.size v.size o.size≠0∨op=0)) cl sq op k v o else { i with code:=8 }):=ai;rw [<-ai];have ak:q.L.length<=900:=by rw [a.out.2.2.2];simp
 have a7:=Z0 λz hz=>tick_any b i q z B hz a.2.1 (a.out.1▸ao) (a.out.1▸ax) (a.out.2.2.1▸hd) (a.out.2.2.1▸hD) (a.out.1▸hb.nw0) (a.out.1▸hb.nw1) (a.out.1▸a0) (a.out.1▸hb.ln) ak
 have a3:=Z0 λz hz hw=>by
  have h9:=take_any b i q m ea ec z B hz a.2.1 ak (a.out.1▸hb) (a.out.2.2.1▸hd) (a.out.2.2.1▸hD) (a.out.1▸ao) (a.out.1▸ax) (a9 z hw) ba (al.out▸an) (al.out▸az) (a.out.1▸ad) (a.out.1▸aw) (a.out.1▸a2);rw [<-al.out] at h9;exact h9
 have bb:=Z0 λz hz=>propose_any b i q cl sq op k v o z B hz a.2.1 ak (a.out.1▸hb.ln) (by rw [a.out.1];exact λe=>(ad e).ldb) hk hv ho
 have a8:=Z0 λz x' (ht:Tch b W x z x')=>(l.mono be).trans (c.below_of ht)
 clear h aj ac he ah ag ar a1 aa am ai ad a0;go_enter func38,ntmps38
 go_upto_region 1 with fail
 rw [<-hW];clear hW
 go_cut [] (λz=>Z9 z B b i q/\Tch b W x z q/\Blk z w.heap.size #[Aa O ki,Aa O dr,Aa O m.ki,Aa O m.fr,Aa O m.td,Aa O m.tm,Aa O m.li,Aa O m.lt,Aa O m.cm,Aa O m.ok,Aa O m.hi,I ea EN ec,Aa O cl,Aa O sq,Aa O op,Az k,Az v,Az o] 46)
 case first=>
  go_region
  all_goals go_wp2_with fail
  all_goals (
   go_meet
   first
    | exact HF _ (Below.refl _ _)
    | exact HF _ ((Below.refl _ _).drew))
 case rest=>
  obtain ⟨hC,s,hI⟩:=hcut;obtain ⟨w2,au⟩:=exq (wc);rw [<-au] at hC s hI;subst au;have u:=Z0 hC;have y:=Z0 s;have aq:=Z0 hI;have n0:w2.cell? ⟨w.heap.size,0,Ab⟩=Ac (Aa O ki):=hI.cell 0;have ay:=Z0 (a8 w2 q s);clear hC s hI m1 a5 bc a6 bd a4 df;have G1:=Z0 trivial;by_cases h1:ki=1
  ·have p:=Z0 (ab.trans (if_pos h1))
   have d:Ah _:=a7.out w2 u;rw [<-p.out] at d;have av:(ki == 1)=true:=by simpa using h1
   clear ab h1 p
   go_wp2_with (first
    |(go_at_call 83;refine Am d ?_;rintro e w7 ⟨rfl,x7,h7,t7⟩;have H7:Ah _:=h7;have T7:Ah _:=Tch.head l (y.trans t7);clear h7 t7))
   go_ret;exact ⟨rfl,_,H7.out,T7.out⟩
  have bm:(ki == 1)=false:=by simpa using h1
  have g:Ah _:=ab.trans (if_neg h1);clear ab;by_cases h2:ki=2
  ·have p:=Z0 (g.trans (if_pos h2))
   have d:Ah _:=a3.out w2 u ay;rw [<-p.out] at d;have av:(ki == 2)=true:=by simpa using h2
   clear g h1 h2 p
   go_wp2_with (first
    |(have af:=G1;refine Zd 43 _ rfl ?_;clear af;refine wpList_load_mid rfl 43 (.tmp 34) rfl w.heap.size 2 rfl [Aa O m.ki,Aa O m.fr,Aa O m.td,Aa O m.tm,Aa O m.li,Aa O m.lt,Aa O m.cm,Aa O m.ok,Aa O m.hi,I ea EN ec] _ (Jh aq 2 _) underlying43 rfl (by rw [Yc];rfl) ?_;clear G1)
    |(go_at_call 84;refine Am d ?_;rintro e w7 ⟨rfl,x7,h7,t7⟩;have H7:Ah _:=h7;have T7:Ah _:=Tch.head l (y.trans t7);clear h7 t7))
   go_ret;exact ⟨rfl,_,H7.out,T7.out⟩
  have bi:(ki == 2)=false:=by simpa using h2
  have f:Ah _:=g.trans (if_neg h2);clear g;by_cases h3:ki=3
  ·have p:=Z0 (f.trans (if_pos h3))
   have d:Ah _:=bb.out w2 u;rw [<-p.out] at d;have av:(ki == 3)=true:=by simpa using h3
   clear f h1 h2 h3 p
   go_wp2_with (first
    |(have af:=G1;refine Zd 44 _ rfl ?_;clear af;refine wpList_load_mid rfl 44 (.tmp 40) rfl w.heap.size 12 rfl [Aa O cl,Aa O sq,Aa O op,Az k,Az v,Az o] _ (Jh aq 12 _) underlying44 rfl (by rw [sizeCm];rfl) ?_;clear G1)
    |(go_at_call 85;refine Am d ?_;rintro e w7 ⟨rfl,x7,h7,t7⟩;have H7:Ah _:=h7;have T7:Ah _:=Tch.head l (y.trans t7);clear h7 t7))
   go_ret;exact ⟨rfl,_,H7.out,T7.out⟩
  have bk:(ki == 3)=false:=by simpa using h3
  have p:=Z0 (f.trans (if_neg h3));clear f h1 h2 h3
  go_wp2_with fail
  go_ret;exact ⟨by rw [p.out];rfl,q,p.out▸u.codeQ 8,Tch.head l y⟩
end Go.Proofs.YtmmpoppgabadmaaGreat
namespace Go.Proofs.YtmmpoppgabadmaaGreat
open Go.Proofs.Tryz
open Go.RowKit Go.Maps
end Go.Proofs.YtmmpoppgabadmaaGreat
