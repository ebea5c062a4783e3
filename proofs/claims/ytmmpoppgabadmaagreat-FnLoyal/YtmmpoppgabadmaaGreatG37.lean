import Derived.Test.YtmmpoppgabadmaaGreatG36
set_option linter.unusedVariables false
set_option linter.unusedSimpArgs false
set_option maxRecDepth 100000
set_option maxHeartbeats 16000000
namespace Go.Proofs.YtmmpoppgabadmaaGreat
open Go.RowKit Go.Maps
end Go.Proofs.YtmmpoppgabadmaaGreat
namespace Go.Proofs.YtmmpoppgabadmaaGreat
open Go.RowKit Go.Maps
def Rn.begin (r:Rn)(dr:Int):Rn:=⟨r.n,[],r.code,0,dr⟩
def CV.begin (x:CV)(k:Int):CV:={ x with vo:=.slice none 0 0,L:=[],kp:=k }
theorem Zo.beginAt {w w':World}{B b:Nat}{r:Rn}{x:CV}{dr k:Int}(h:Zo w B b r x)(hb:Blk w' b (crC (r.begin dr) (x.begin k)) 80)(hk:∀ j,j≠b->j<w.heap.size->w'.heap[j]? = w.heap[j]?):Zo w' B b (r.begin dr) (x.begin k):=by
 obtain ⟨f1,f2,f3,f4,f5⟩:=h.bf;refine ⟨hb,h.lo,h.log.block fun j e=>hk j (f4 j e).1 (World.ownsRow.lt h.log.2 j e).2,h.gm.keep (hk _ f1 h.gm.lt),h.gml,h.pm.keep (hk _ f2 h.pm.lt),h.pml,h.gp,fun y q e=>⟨(h.pf y q e).1.keep (hk q (f3 y q e).1 (h.pf y q e).1.lt),(h.pf y q e).2⟩,h.pi,h.pk,Zs.nil _ _ _ _ _,rfl,?_,?_,h.ci⟩
 ·intro p hp;cases hp
 ·exact List.pairwise_singleton _ _
def Rn.step (r:Rn)(ki:Int)(m:Mg)(cl sq op:Int)(k v o:ByteArray):Rn:=
 if ki=1 then r.tick else if ki=2 then r.message (decide (msB m≠0)) m else if ki=3 then r.propose (decide (cmdF cl sq op k.size v.size o.size≠0∨op=0)) cl sq op k v o else { r with code:=8 }
end Go.Proofs.YtmmpoppgabadmaaGreat
namespace Go.Proofs.YtmmpoppgabadmaaGreat
open Go.RowKit Go.Maps
theorem step_ask (b:Nat)(r:Rn)(x:CV)(ki dr:Int)(m:Mg)(cl sq op:Int)(k v o:ByteArray)(ea:Option Addr)(ec:Nat)(w:World)(B:Nat)(h:Zo w B b r x)(hc:r.code=0)(hb:NdB r.n)(hd : -(2^63)<=dr)(hD:dr<2^63)(ht0:0<=r.n.tm)(ht1:r.n.tm<=1073741824)(he:Es w (.slice ea m.es.length ec) m.es)(hlo:∀ k,(Value.slice ea m.es.length ec).ownBlock=some k->k<B)(hec:m.es.length<=ec)(hel:m.es.length<=1048576)(hLm:r.n.ro=3->LdM r.n r.n.sz.toNat)(hLt:r.n.ro=3->LdT r.n r.n.sz.toNat)(hcm0:0<=r.n.cm)(hLR:LogR r.n)(hk:k.size<=maxLen)(hv:v.size<=maxLen)(ho:o.size<=maxLen)(hki:Hid (ki=2))(hma:Hid (m.ki=1∨m.ki=3)) :
  Calls Tryz.prog 38 #[.pointer (some ⟨b,0,none⟩),.agg #[.int .i64 ki,.int .i64 dr,.int .i64 m.ki,.int .i64 m.fr,.int .i64 m.td,.int .i64 m.tm,.int .i64 m.li,.int .i64 m.lt,.int .i64 m.cm,.int .i64 m.ok,.int .i64 m.hi,.slice ea m.es.length ec,.int .i64 cl,.int .i64 sq,.int .i64 op,.string k,.string v,.string o]] w fun e w'=>e=.returned (.int .i64 ((r.begin dr).step ki m cl sq op k v o).code)/\∃ x',Zo w' B b ((r.begin dr).step ki m cl sq op k v o) x'/\Tch b w x w' x':=by
 have hBw:B<=w.heap.size:=Nat.le_trans h.lo (Nat.le_of_lt h.lt);have HEe:Hid (∀ z,Below B w z->Es z (.slice ea m.es.length ec) m.es):=fun z hz=>he.elder hlo hz
 have HLo:Hid (∀ k,(Value.slice ea m.es.length ec).ownBlock=some k->k<B):=hlo;obtain ⟨EN,hEN⟩:∃ EN,EN=m.es.length:=⟨_,rfl⟩;have HEN:Hid (EN=m.es.length):=hEN;rw [<-hEN] at hec hel ⊢;obtain ⟨la,lc,hvl⟩:=h.log.shape;obtain ⟨LN,hLN⟩:∃ LN,LN=r.n.log.length:=⟨_,rfl⟩;rw [<-hLN] at hvl;obtain ⟨W,hW⟩:∃ W,W=w.alloc (.cells #[.int .i64 ki,.int .i64 dr,.int .i64 m.ki,.int .i64 m.fr,.int .i64 m.td,.int .i64 m.tm,.int .i64 m.li,.int .i64 m.lt,.int .i64 m.cm,.int .i64 m.ok,.int .i64 m.hi,.slice ea EN ec,.int .i64 cl,.int .i64 sq,.int .i64 op,.string k,.string v,.string o] 46):=⟨_,rfl⟩;have HBW:Hid (Below w.heap.size w W):=by unfold Hid;rw [hW];exact Below.alloc0 _
 have HIW:Hid (Blk W w.heap.size #[.int .i64 ki,.int .i64 dr,.int .i64 m.ki,.int .i64 m.fr,.int .i64 m.td,.int .i64 m.tm,.int .i64 m.li,.int .i64 m.lt,.int .i64 m.cm,.int .i64 m.ok,.int .i64 m.hi,.slice ea EN ec,.int .i64 cl,.int .i64 sq,.int .i64 op,.string k,.string v,.string o] 46):=by unfold Hid;rw [hW];exact Blk.new _ _ _
 have HCW:Hid (Zo W B b r x):=h.below HBW.out;have HnW:Hid (¬ x.has b w.heap.size):=h.hasnt_new (Nat.le_refl _);have m1:W.cell? ⟨w.heap.size,1,none⟩=some (.int .i64 dr):=HIW.out.cell 1;have d12:W.cell? ⟨b,12,none⟩=some (.slice la LN lc):=by rw [<-hvl];exact HCW.out.blk.cell 12
 have d20:W.cell? ⟨b,20,none⟩=some (.int .i64 r.draw):=HCW.out.blk.cell 20;have d21:W.cell? ⟨b,21,none⟩=some (.int .i64 r.drew):=HCW.out.blk.cell 21;have d22:W.cell? ⟨b,22,none⟩=some (.int .i64 x.kp):=HCW.out.blk.cell 22;obtain ⟨oa,oc,hvo⟩:=h.out.shape;obtain ⟨ON,hON⟩:∃ ON,ON=x.L.length:=⟨_,rfl⟩;rw [<-hON] at hvo;have d23:W.cell? ⟨b,23,none⟩=some (.slice oa ON oc):=by rw [<-hvo];exact HCW.out.blk.cell 23
 have df:∀ j,W.frozen? ⟨b,j,none⟩=false:=fun j=>HCW.out.blk.free j
 have hblt:=h.lt;have hne:¬ w.heap.size=b:=by omega
 have hne2:¬ b=w.heap.size:=by omega
 obtain ⟨R1,hR1⟩:∃ R1,R1=r.begin dr:=⟨_,rfl⟩;obtain ⟨X1,hX1⟩:∃ X1,X1=x.begin (LN:Int):=⟨_,rfl⟩
 have HF:Hid (∀ z,Below W.heap.size W z->Zo ((((z.setCell ⟨b,20,none⟩ (.int .i64 dr)).setCell ⟨b,21,none⟩ (.int .i64 0)).setCell ⟨b,22,none⟩ (.int .i64 (LN:Int))).setCell ⟨b,23,none⟩ (.slice none 0 0)) B b R1 X1/\Tch b W x ((((z.setCell ⟨b,20,none⟩ (.int .i64 dr)).setCell ⟨b,21,none⟩ (.int .i64 0)).setCell ⟨b,22,none⟩ (.int .i64 (LN:Int))).setCell ⟨b,23,none⟩ (.slice none 0 0)) X1/\Blk ((((z.setCell ⟨b,20,none⟩ (.int .i64 dr)).setCell ⟨b,21,none⟩ (.int .i64 0)).setCell ⟨b,22,none⟩ (.int .i64 (LN:Int))).setCell ⟨b,23,none⟩ (.slice none 0 0)) w.heap.size #[.int .i64 ki,.int .i64 dr,.int .i64 m.ki,.int .i64 m.fr,.int .i64 m.td,.int .i64 m.tm,.int .i64 m.li,.int .i64 m.lt,.int .i64 m.cm,.int .i64 m.ok,.int .i64 m.hi,.slice ea EN ec,.int .i64 cl,.int .i64 sq,.int .i64 op,.string k,.string v,.string o] 46):=fun z hz=>by
  rw [hR1,hX1];have hC:=HCW.out.below hz;refine ⟨hC.beginAt ((((hC.blk.set 20 _).set 21 _).set 22 _).set 23 _) (Z0v (b:=b) (Z0v (b:=b) (Z0v (b:=b) (Z0v (b:=b) (keep_refl z b) 20 _) 21 _) 22 _) 23 _),?_,((((HIW.out.below hz HIW.out.lt).set_other _ hne).set_other _ hne).set_other _ hne).set_other _ hne⟩;have hT:=((((Tch.below0 b x hz).trans (Tch.set b z x 20 (.int .i64 dr))).trans (Tch.set b _ x 21 (.int .i64 0))).trans (Tch.set b _ x 22 (.int .i64 (LN:Int)))).trans (Tch.set b _ x 23 (.slice none 0 0));refine ⟨hT.os,hT.tape,hT.output,hT.size,hT.block,fun j hj=>.inl ?_⟩;rcases hj with e | e | e | e | e | e
  ·exact .inl e
  ·exact .inr (.inl e)
  ·exact .inr (.inr (.inl e))
  ·exact .inr (.inr (.inr (.inl e)))
  ·exact .inr (.inr (.inr (.inr (.inl e))))
  ·cases e
 have HR1e:Hid (R1.n=r.n/\R1.code=0/\R1.draw=dr/\X1.L = []):=by unfold Hid;rw [hR1,hX1];exact ⟨rfl,hc,rfl,rfl⟩
 rw [<-hR1];obtain ⟨RP,hRP⟩:∃ RP,RP=R1.step ki m cl sq op k v o:=⟨_,rfl⟩;have HRP:Hid (RP=if ki=1 then R1.tick else if ki=2 then R1.message (decide (msB m≠0)) m else if ki=3 then R1.propose (decide (cmdF cl sq op k.size v.size o.size≠0∨op=0)) cl sq op k v o else { R1 with code:=8 }):=hRP;rw [<-hRP];have hX0:X1.L.length<=900:=by rw [HR1e.out.2.2.2];simp
 have HMg:Hid (∀ z,Zo z B b R1 X1->Below B w z->Calls Tryz.prog 84 #[.pointer (some ⟨b,0,none⟩),.agg #[.int .i64 m.ki,.int .i64 m.fr,.int .i64 m.td,.int .i64 m.tm,.int .i64 m.li,.int .i64 m.lt,.int .i64 m.cm,.int .i64 m.ok,.int .i64 m.hi,.slice ea EN ec]] z fun e w'=>e=.returned (.int .i64 (R1.message (decide (msB m≠0)) m).code)/\∃ x',Zo w' B b (R1.message (decide (msB m≠0)) m) x'/\Tch b z X1 w' x'):=fun z hz hw=>by
  have h9:=take_ask b R1 X1 m ea ec z B hz HR1e.out.2.1 hX0 (by rw [HR1e.out.1];exact hb) (by rw [HR1e.out.2.2.1];exact hd) (by rw [HR1e.out.2.2.1];exact hD) (by rw [HR1e.out.1];exact ht0) (by rw [HR1e.out.1];exact ht1) (HEe.out z hw) HLo.out (by rw [<-HEN.out];exact hec) (by rw [<-HEN.out];exact hel) (by rw [HR1e.out.1];exact hLm) (by rw [HR1e.out.1];exact hcm0) (by rw [HR1e.out.1];exact hLR) hma;rw [<-HEN.out] at h9;exact h9
 have HBl:Hid (∀ z x',Tch b W x z x'->Below B w z):=fun z x' ht=>(HBW.out.mono hBw).trans (HCW.out.below_of ht)
 clear h hvl hvo he hlo hEN hLN hON hR1 hX1 hRP hLm hLt;go_enter Tryz.func38,Tryz.ntmps38
 go_upto_region 1 with fail
 rw [<-hW];clear hW
 go_cut [] (fun z=>Zo z B b R1 X1/\Tch b W x z X1/\Blk z w.heap.size #[.int .i64 ki,.int .i64 dr,.int .i64 m.ki,.int .i64 m.fr,.int .i64 m.td,.int .i64 m.tm,.int .i64 m.li,.int .i64 m.lt,.int .i64 m.cm,.int .i64 m.ok,.int .i64 m.hi,.slice ea EN ec,.int .i64 cl,.int .i64 sq,.int .i64 op,.string k,.string v,.string o] 46)
 case first=>
  go_region
  all_goals go_wp2_with fail
  all_goals (
   go_meet
   first
    | exact HF.out _ (Below.refl _ _)
    | exact HF.out _ ((Below.refl _ _).drew))
 case rest=>
  obtain ⟨hC,hT,hI⟩:=hcut;obtain ⟨w2,hw2⟩:∃ z,z=wc:=⟨_,rfl⟩;rw [<-hw2] at hC hT hI;subst hw2;have HC2:Hid _:=hC;have HT2:Hid _:=hT;have HI2:Hid (Blk w2 w.heap.size _ 46):=hI;have n0:w2.cell? ⟨w.heap.size,0,none⟩=some (.int .i64 ki):=hI.cell 0;have HBw2:Hid (Below B w w2):=HBl.out w2 X1 hT;clear hC hT hI m1 d12 d20 d21 d22 d23 df;have G1:Hid True:=trivial;have h1:¬ ki=1:=by have h9:=hki.out;omega
  have hk1:(ki == 1)=false:=by simpa using h1
  have HRP2:Hid _:=HRP.out.trans (if_neg h1);clear HRP;by_cases h2:ki=2
  ·have HR:Hid (RP=R1.message (decide (msB m≠0)) m):=HRP2.out.trans (if_pos h2)
   have HT9:Hid _:=HMg.out w2 HC2.out HBw2.out;rw [<-HR.out] at HT9;have hkb:(ki == 2)=true:=by simpa using h2
   clear HRP2 h1 h2 HR
   go_wp2_with (first
    |(have hBA:=G1;refine Zw 43 (.tmp 34) rfl ?_;clear hBA;refine wpList_load_mid rfl 43 (.tmp 34) rfl w.heap.size 2 rfl [.int .i64 m.ki,.int .i64 m.fr,.int .i64 m.td,.int .i64 m.tm,.int .i64 m.li,.int .i64 m.lt,.int .i64 m.cm,.int .i64 m.ok,.int .i64 m.hi,.slice ea EN ec] _ (Z28 HI2.out 2 [.int .i64 m.ki,.int .i64 m.fr,.int .i64 m.td,.int .i64 m.tm,.int .i64 m.li,.int .i64 m.lt,.int .i64 m.cm,.int .i64 m.ok,.int .i64 m.hi,.slice ea EN ec] rfl) Tryz.underlying43 rfl (by rw [Z0m];rfl) ?_;clear G1)
    |(go_at_call 84;refine Calls.mono HT9.out ?_;rintro e w7 ⟨rfl,x7,h7,t7⟩;have H7:Hid _:=h7;have T7:Hid _:=Tch.head HBW.out (HT2.out.trans t7);clear h7 t7))
   go_ret;exact ⟨rfl,_,H7.out,T7.out⟩
  exact absurd hki.out h2
end Go.Proofs.YtmmpoppgabadmaaGreat
