import Derived.Test.YtmmpoppgabadmaaGreatG39
set_option linter.unusedVariables false
set_option linter.unusedSimpArgs false
set_option maxRecDepth 100000
set_option maxHeartbeats 16000000
namespace Go.Proofs.YtmmpoppgabadmaaGreat
open Go.RowKit Go.Maps
theorem Z0.code {w:World}{B b:Nat}{r:Rn}{x:CV}(h:Z0 w B b r x)(c:Int):Z0 w B b { r with code:=c } x:=
 h.re (r':={ r with code:=c }) (kp':=x.kp) h.blk (fun _ _ _=>rfl) rfl rfl rfl rfl rfl rfl rfl rfl rfl Iff.rfl
theorem callF_ne (cl sq op k v o:Int):Z2b cl sq op k v o≠0↔(Jk cl sq op k v o≠0∨op=0):=by
 unfold Z2b;by_cases h:Jk cl sq op k v o=0/\op=0
 ·rw [if_pos h]
  exact ⟨fun _=>.inr h.2,fun _=>by decide⟩
 ·rw [if_neg h]
  constructor
  ·intro e;exact .inl e
  ·rintro (e | e)
   ·exact e
   ·intro e2;exact h ⟨e2,e⟩
theorem propose_any (b:Nat)(r:Rn)(x:CV)(cl sq op:Int)(k v o:ByteArray)(w:World)(B:Nat)(h:Z0 w B b r x)(hc:r.code=0)(hL:x.L.length<=900)(hll:r.n.log.length<=4096)(hd:r.n.ro=3->LdB r.n r.n.sz.toNat)(hk:k.size<=maxLen)(hv:v.size<=maxLen)(ho:o.size<=maxLen) :
  Calls Tryz.prog 85 #[.pointer (some ⟨b,0,none⟩),.agg #[.int .i64 cl,.int .i64 sq,.int .i64 op,.string k,.string v,.string o]] w fun e w'=>e=.returned (.int .i64 (r.propose (decide (Jk cl sq op k.size v.size o.size≠0∨op=0)) cl sq op k v o).code)/\∃ x',Z0 w' B b (r.propose (decide (Jk cl sq op k.size v.size o.size≠0∨op=0)) cl sq op k v o) x'/\Tch b w x w' x':=by
 obtain ⟨W,hW⟩:∃ W,W=w.alloc (.cells #[.int .i64 cl,.int .i64 sq,.int .i64 op,.string k,.string v,.string o] 44):=⟨_,rfl⟩;have HBW:Hid (Below w.heap.size w W):=by unfold Hid;rw [hW];exact Below.alloc0 _
 have HMW:Hid (Blk W w.heap.size #[.int .i64 cl,.int .i64 sq,.int .i64 op,.string k,.string v,.string o] 44):=by unfold Hid;rw [hW];exact Blk.new _ _ _
 have HCW:Hid (Z0 W B b r x):=h.below HBW.out;have HF:Hid (∀ z,Calls Tryz.prog 136 #[.agg #[.int .i64 cl,.int .i64 sq,.int .i64 op,.string k,.string v,.string o]] z fun e w'=>e=.returned (.int .i64 (Z2b cl sq op k.size v.size o.size))/\Below z.heap.size z w'):=fun z=>callFault_any cl sq op k v o hk hv ho z
 have m0:W.cell? ⟨w.heap.size,0,none⟩=some (.int .i64 cl):=HMW.out.cell 0;have m1:W.cell? ⟨w.heap.size,1,none⟩=some (.int .i64 sq):=HMW.out.cell 1;have m2:W.cell? ⟨w.heap.size,2,none⟩=some (.int .i64 op):=HMW.out.cell 2;have m3:W.cell? ⟨w.heap.size,3,none⟩=some (.string k):=HMW.out.cell 3;have m4:W.cell? ⟨w.heap.size,4,none⟩=some (.string v):=HMW.out.cell 4;have m5:W.cell? ⟨w.heap.size,5,none⟩=some (.string o):=HMW.out.cell 5;obtain ⟨F,hF⟩:∃ F,F=Z2b cl sq op k.size v.size o.size:=⟨_,rfl⟩;have hFi:=callF_ne cl sq op k.size v.size o.size;rw [<-hF] at HF hFi;rw [show decide (Jk cl sq op k.size v.size o.size≠0∨op=0)=decide (F≠0) from decide_eq_decide.2 hFi.symm];clear hF hFi;have HC1:Hid (∀ z,Below W.heap.size W z->Z0 z B b r x/\Below w.heap.size w z/\Blk z w.heap.size #[.int .i64 cl,.int .i64 sq,.int .i64 op,.string k,.string v,.string o] 44):=fun z hz=>⟨HCW.out.below hz,HBW.out.trans (hz.mono HBW.out.size),HMW.out.below hz HMW.out.lt⟩
 by_cases hF0:F≠0
 ·have HQ:Hid (r.propose (decide (F≠0)) cl sq op k v o={ r with code:=6 }):=by unfold Hid Rn.propose;rw [decide_eq_true hF0,if_pos rfl]
  rw [HQ.out];have hFb:(F != 0)=true:=by simpa using hF0
  clear h HQ hF0;go_enter Tryz.func85,Tryz.ntmps85
  go_upto_region 1 with fail
  rw [<-hW];clear hW
  go_wp2_with (first
   |(go_at_call 136;refine Calls.mono (HF.out _) ?_;rintro e w1 ⟨rfl,hb1⟩;have H1:Hid _:=HC1.out w1 hb1;clear hb1))
  go_ret;exact ⟨rfl,x,H1.out.1.code 6,Tch.below0 _ _ H1.out.2.1⟩
 have hFe:F=0:=by omega
 subst hFe;rw [show decide ((0:Int)≠0)=false from rfl];have hF0b:((0:Int) != 0)=false:=rfl;by_cases hro:r.n.ro≠3
 ·have HQ:Hid (r.propose false cl sq op k v o={ r with code:=4 }):=by unfold Hid Rn.propose;rw [if_neg (by decide),if_pos hro]
  rw [HQ.out];have hrb:(r.n.ro != 3)=true:=by simpa using hro
  have HC2:Hid (∀ z,Z0 z B b r x->z.cell? ⟨b,6,none⟩=some (.int .i64 r.n.ro)):=fun z hz=>hz.blk.cell 6
  clear h HQ hro;go_enter Tryz.func85,Tryz.ntmps85
  go_upto_region 1 with fail
  rw [<-hW];clear hW
  go_wp2_with (first
   |(go_at_call 136;refine Calls.mono (HF.out _) ?_;rintro e w1 ⟨rfl,hb1⟩;have H1:Hid _:=HC1.out w1 hb1;have d6:=HC2.out w1 H1.out.1;clear hb1))
  go_ret;exact ⟨rfl,x,H1.out.1.code 4,Tch.below0 _ _ H1.out.2.1⟩
 have hro3:r.n.ro=3:=by omega
 have hrb:(r.n.ro != 3)=false:=by simp [hro3]
 obtain ⟨la,lc,hvl⟩:=h.log.shape;obtain ⟨LN,hLN⟩:∃ LN,LN=r.n.log.length:=⟨_,rfl⟩;rw [<-hLN] at hvl hll;have HC2:Hid (∀ z,Z0 z B b r x->z.cell? ⟨b,6,none⟩=some (.int .i64 r.n.ro)/\z.cell? ⟨b,12,none⟩=some (.slice la LN lc)/\z.cell? ⟨b,4,none⟩=some (.int .i64 r.n.tm)):=fun z hz=>⟨hz.blk.cell 6,by rw [<-hvl];exact hz.blk.cell 12,hz.blk.cell 4⟩
 by_cases hln:4096<=r.n.log.length
 ·have HQ:Hid (r.propose false cl sq op k v o={ r with code:=5 }):=by unfold Hid Rn.propose;rw [if_neg (by decide),if_neg hro,if_pos hln]
  rw [HQ.out];have hlb:((LN:Int) == 4096)=true:=by rw [beq_iff_eq];omega
  clear h HQ hro hro3 hLN hln hvl;go_enter Tryz.func85,Tryz.ntmps85
  go_upto_region 1 with fail
  rw [<-hW];clear hW
  go_wp2_with (first
   |(go_at_call 136;refine Calls.mono (HF.out _) ?_;rintro e w1 ⟨rfl,hb1⟩;have H1:Hid _:=HC1.out w1 hb1;obtain ⟨d6,d12,d4⟩:=HC2.out w1 H1.out.1;clear hb1))
  go_ret;exact ⟨rfl,x,H1.out.1.code 5,Tch.below0 _ _ H1.out.2.1⟩
 ·obtain ⟨R2,hR2⟩:∃ R2:Rn,R2={ r with n:={ r.n with log:=r.n.log ++ [⟨r.n.tm,cl,sq,op,k,v,o⟩] } }:=⟨_,rfl⟩
  have HQ:Hid (r.propose false cl sq op k v o=R2.sendAll):=by unfold Hid Rn.propose;rw [if_neg (by decide),if_neg hro,if_neg hln,hR2]
  have HK:Hid (R2.sendAll.code=0):=by unfold Hid Rn.sendAll;rw [Z1o,hR2];exact hc
  rw [HQ.out,HK.out];have hlb:((LN:Int) == 4096)=false:=by rw [beq_eq_false_iff_ne];omega
  have hLd:=hd hro3
  have HSa:Hid (∀ z x9,Z0 z B b R2 x9->x9.L.length<=900->Calls Tryz.prog 137 #[.pointer (some ⟨b,0,none⟩)] z fun e w'=>e=.returned (.tuple #[])/\∃ x',Z0 w' B b R2.sendAll x'/\Tch b z x9 w' x'):=fun z x9 hz hx=>Z4n b R2 x9 z B hz (by rw [hR2];exact hro3) (by
   rw [hR2];refine ⟨hLd.nxl,hLd.stl,fun J hJ hne=>?_⟩;obtain ⟨P,hP1,hP2⟩:=hLd.nx J hJ hne;exact ⟨P,by show P<=(r.n.log ++ [_]).length;rw [List.length_append];omega,hP2⟩) (by rw [hR2];show (r.n.log ++ [_]).length<=4096;rw [List.length_append,List.length_singleton];omega) hx
  have HFin:Hid (∀ wq,Z0 wq B b r x->∀ w5 w6 u,Below wq.heap.size wq w5->Z6 Ent.cells 7 118 w6 B u (r.n.log ++ [⟨r.n.tm,cl,sq,op,k,v,o⟩])->Jy w5 (.slice la LN lc) w6 u->Z0 (w6.setCell ⟨b,12,none⟩ u) B b R2 { x with vl:=u }/\Tch b wq x (w6.setCell ⟨b,12,none⟩ u) { x with vl:=u }):=fun wq hq w5 w6 u h5 ho' hg=>by
   rw [hR2];refine hq.logAt h5 (Z6.e ho' ?_) (by rw [hvl];exact hg);intro e he;rcases List.mem_append.1 he with he | he
   ·exact hq.log.1 e he
   ·rw [List.mem_singleton] at he
    subst he;exact ⟨hk,hv,ho⟩
  have HOl:Hid (∀ wq,Z0 wq B b r x->Z6 Ent.cells 7 118 wq B (.slice la LN lc) r.n.log):=fun wq hq=>by rw [<-hvl];exact hq.log.g
  have HLe:Hid (r.n.log.length<=1000000):=by unfold Hid;omega
  have HLs:Hid ((r.n.log ++ [(⟨r.n.tm,cl,sq,op,k,v,o⟩:Ent)]).length=LN+1):=by unfold Hid;rw [List.length_append,List.length_singleton,hLN]
  have hBw:B<=w.heap.size:=Nat.le_trans h.lo (Nat.le_of_lt h.lt);clear h HQ hro hro3 hLN hln hvl hR2 HK hLd hd;generalize R2.sendAll=RS at *;go_enter Tryz.func85,Tryz.ntmps85
  go_upto_region 1 with fail
  rw [<-hW];clear hW
  go_upto_region 7 with (first
   |(go_at_call 136;refine Calls.mono (HF.out _) ?_;rintro e w1 ⟨rfl,hb1⟩;have H1:Hid _:=HC1.out w1 hb1;obtain ⟨d6,d12,d4⟩:=HC2.out w1 H1.out.1;clear hb1))
  have BMq:Hid (Blk w1 w.heap.size _ 44):=H1.out.2.2;have n0:w1.cell? ⟨w.heap.size,0,none⟩=some (.int .i64 cl):=BMq.out.cell 0;have n1:w1.cell? ⟨w.heap.size,1,none⟩=some (.int .i64 sq):=BMq.out.cell 1;have n2:w1.cell? ⟨w.heap.size,2,none⟩=some (.int .i64 op):=BMq.out.cell 2;have n3:w1.cell? ⟨w.heap.size,3,none⟩=some (.string k):=BMq.out.cell 3;have n4:w1.cell? ⟨w.heap.size,4,none⟩=some (.string v):=BMq.out.cell 4;have n5:w1.cell? ⟨w.heap.size,5,none⟩=some (.string o):=BMq.out.cell 5;have BRq:Hid (Blk w1 b (crC r x) 80):=H1.out.1.blk;have HO1:Hid (Z6 Ent.cells 7 118 w1 B (.slice la LN lc) r.n.log):=HOl.out w1 H1.out.1;have HNO:Hid ((Value.slice la LN lc).ownBlock≠some b):=fun e=>Zm HO1.out BRq.out (by decide) b e rfl
  have hltq:=H1.out.1.lt;have hsz1:=H1.out.2.1.size;have pa:∀(o:Obj) (j:Nat),(w1.alloc o).cell? ⟨b,j,none⟩=w1.cell? ⟨b,j,none⟩:=fun o j=>World.cell?_alloc_lt _ _ _ (by show b<w1.heap.size;omega)
  have pa':∀(o:Obj) (j:Nat),(w1.drew.alloc o).cell? ⟨b,j,none⟩=w1.cell? ⟨b,j,none⟩:=fun o j=>World.cell?_alloc_lt _ _ _ (by show b<w1.heap.size;omega)
  have hne1:¬ w1.heap.size=b:=by omega
  have hne2:¬ b=w1.heap.size:=by omega
  clear m0 m1 m2 m3 m4 m5
  go_region_law
   (refine J3 entLaw rfl (.tmp 29) (.tmp 37) rfl ⟨r.n.tm,cl,sq,op,k,v,o⟩ (Z6.below (Z6.below HO1.out ((Below.refl _ _).drew)) ((Below.refl _ _).alloc (Nat.le_refl _) _)) rfl w1.heap.size 1 (J2 w1.drew (Ent.cells ⟨r.n.tm,cl,sq,op,k,v,o⟩) 118) rfl HLe.out (by simp;omega) ?_;intro v3 w3 ho3 hg3;obtain ⟨a3,c3,e3'⟩:=ho3.shape;rw [HLs.out] at e3';have BQ3:Hid (Blk w3 b (crC r x) 80):=(BRq.out.drew.alloc _).keep (hg3.g.block _ (by simp;omega) (fun e=>HNO.out e.symm));obtain ⟨vq,p12⟩:∃ vq,w3.cell? ⟨b,12,none⟩=some vq:=⟨_,BQ3.out.cell 12⟩;have pf:=BQ3.out.free;subst e3';have HF3:Hid _:=HFin.out w1 H1.out.1 _ _ _ ((Below.refl _ _).drew.alloc (Nat.le_refl _) _) ho3 hg3;clear ho3 hg3)
  all_goals go_wp2_with (first
   |(go_at_call 137;refine Calls.mono (HSa.out _ _ HF3.out.1 hL) ?_;rintro e w8 ⟨rfl,x8,h8,t8⟩;have H8:Hid _:=h8;have T8:Hid (Tch b w x w8 x8):=((Tch.below0 b x H1.out.2.1).trans HF3.out.2).trans t8;clear h8 t8))
  all_goals (
   go_ret;exact ⟨rfl,_,H8.out,T8.out⟩)
end Go.Proofs.YtmmpoppgabadmaaGreat
