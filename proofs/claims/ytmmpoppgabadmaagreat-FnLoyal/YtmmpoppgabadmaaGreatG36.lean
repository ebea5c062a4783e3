import Derived.Test.YtmmpoppgabadmaaGreatG35
set_option linter.unusedVariables false
set_option linter.unusedSimpArgs false
set_option maxRecDepth 100000
set_option maxHeartbeats 16000000
namespace Go.Proofs.YtmmpoppgabadmaaGreat
open Go.RowKit Go.Maps
end Go.Proofs.YtmmpoppgabadmaaGreat
namespace Go.Proofs.YtmmpoppgabadmaaGreat
open Go.RowKit Go.Maps
end Go.Proofs.YtmmpoppgabadmaaGreat
namespace Go.Proofs.YtmmpoppgabadmaaGreat
open Go.RowKit Go.Maps
theorem msB_more (m:Mg)(h:msB m=0):(m.ok=0∨m.ok=1)/\(m.li=0->m.lt=0):=by
 unfold msB Jc at h;split at h
 ·simp at h
 split at h
 ·simp at h
 split at h
 ·simp at h
 rename_i h3;split at h
 ·simp at h
 rename_i h4;split at h
 ·simp at h
 rename_i h5;have k4:Z0a m.ki m.tm m.li m.lt=true:=by simpa using h4
 have k5:Xr m.ki m.cm m.ok m.hi=true:=by simpa using h5
 unfold Xr at k5;simp only [Bool.and_eq_true,Zr] at k5;unfold Z0a at k4;constructor
 ·have h9:(if m.ki=2∨m.ki=4∨m.ki=6 then (1:Int) else 0)<=1:=by split <;> omega
  omega
 ·intro e
  split at k4
  ·simp only [Bool.and_eq_true,beq_iff_eq] at k4
   have h9:=k4.2;rw [e] at h9;simpa using h9
  ·split at k4
   ·simp only [Bool.and_eq_true,beq_iff_eq] at k4
    exact k4.2
   ·simp only [Bool.and_eq_true,beq_iff_eq] at k4
    exact k4.2
end Go.Proofs.YtmmpoppgabadmaaGreat
namespace Go.Proofs.YtmmpoppgabadmaaGreat
open Go.RowKit Go.Maps
theorem take_ask (b:Nat)(r:Rn)(x:CV)(m:Mg)(ea:Option Addr)(ec:Nat)(w:World)(B:Nat)(h:Zo w B b r x)(hc:r.code=0)(hl:x.L.length<=900)(hb:NdB r.n)(hd : -(2^63)<=r.draw)(hD:r.draw<2^63)(ht0:0<=r.n.tm)(ht1:r.n.tm<=1073741824)(he:Es w (.slice ea m.es.length ec) m.es)(hlo:∀ k,(Value.slice ea m.es.length ec).ownBlock=some k->k<B)(hec:m.es.length<=ec)(hel:m.es.length<=1048576)(hLd:r.n.ro=3->LdM r.n r.n.sz.toNat)(hcm0:0<=r.n.cm)(hLR:LogR r.n)(hma:Hid (m.ki=1∨m.ki=3)) :
  Calls Tryz.prog 84 #[.pointer (some ⟨b,0,none⟩),.agg #[.int .i64 m.ki,.int .i64 m.fr,.int .i64 m.td,.int .i64 m.tm,.int .i64 m.li,.int .i64 m.lt,.int .i64 m.cm,.int .i64 m.ok,.int .i64 m.hi,.slice ea m.es.length ec]] w fun e w'=>e=.returned (.int .i64 (r.message (decide (msB m≠0)) m).code)/\∃ x',Zo w' B b (r.message (decide (msB m≠0)) m) x'/\Tch b w x w' x':=by
 have hBw:B<=w.heap.size:=Nat.le_trans h.lo (Nat.le_of_lt h.lt);have HQ:Hid (r.message (decide (msB m≠0)) m=_):=message_eq r m;have HEe:Hid (∀ z,Below B w z->Es z (.slice ea m.es.length ec) m.es):=fun z hz=>he.elder hlo hz
 have HLo:Hid (∀ k,(Value.slice ea m.es.length ec).ownBlock=some k->k<B):=hlo;obtain ⟨EN,hEN⟩:∃ EN,EN=m.es.length:=⟨_,rfl⟩;have HEN:Hid (EN=m.es.length):=hEN;rw [<-hEN] at hec hel ⊢;obtain ⟨W,hW⟩:∃ W,W=w.alloc (.cells #[.int .i64 m.ki,.int .i64 m.fr,.int .i64 m.td,.int .i64 m.tm,.int .i64 m.li,.int .i64 m.lt,.int .i64 m.cm,.int .i64 m.ok,.int .i64 m.hi,.slice ea EN ec] 43):=⟨_,rfl⟩;have HBW:Hid (Below w.heap.size w W):=by unfold Hid;rw [hW];exact Below.alloc0 _
 have HMW:Hid (Blk W w.heap.size #[.int .i64 m.ki,.int .i64 m.fr,.int .i64 m.td,.int .i64 m.tm,.int .i64 m.li,.int .i64 m.lt,.int .i64 m.cm,.int .i64 m.ok,.int .i64 m.hi,.slice ea EN ec] 43):=by unfold Hid;rw [hW];exact Blk.new _ _ _
 have HCW:Hid (Zo W B b r x):=h.below HBW.out;have HMf:Hid (∀ z,Below W.heap.size W z->Calls Tryz.prog 129 #[.agg #[.int .i64 m.ki,.int .i64 m.fr,.int .i64 m.td,.int .i64 m.tm,.int .i64 m.li,.int .i64 m.lt,.int .i64 m.cm,.int .i64 m.ok,.int .i64 m.hi,.slice ea EN ec]] z fun e w'=>e=.returned (.int .i64 (msB m))/\Below z.heap.size z w'):=fun z hz=>Z2t m.ki m.fr m.td m.tm m.li m.lt m.cm m.ok m.hi _ m.es z (by have h9:=HEe.out z ((HBW.out.mono hBw).trans (hz.mono (by have:=HBW.out.size;omega)));rw [<-HEN.out] at h9;exact h9) (by rw [<-HEN.out];exact hel)
 have q2:∀ u:BW W,u.w.cell? ⟨w.heap.size,2,none⟩=some (.int .i64 m.td):=fun u=>(HMW.out.below u.h HMW.out.lt).cell 2
 have q1:∀ u:BW W,u.w.cell? ⟨w.heap.size,1,none⟩=some (.int .i64 m.fr):=fun u=>(HMW.out.below u.h HMW.out.lt).cell 1
 have p0:∀ u:BW W,u.w.cell? ⟨b,0,none⟩=some (.int .i64 r.n.id):=fun u=>(HCW.out.below u.h).blk.cell 0
 have p1:∀ u:BW W,u.w.cell? ⟨b,1,none⟩=some (.int .i64 r.n.sz):=fun u=>(HCW.out.below u.h).blk.cell 1
 have qm:∀ u:BW W,Sem.run Tryz.prog (loadVar 43 ⟨w.heap.size,0,none⟩) u.w=.ok (.agg #[.int .i64 m.ki,.int .i64 m.fr,.int .i64 m.td,.int .i64 m.tm,.int .i64 m.li,.int .i64 m.lt,.int .i64 m.cm,.int .i64 m.ok,.int .i64 m.hi,.slice ea EN ec]) u.w:=fun u=>Z12 (HMW.out.below u.h HMW.out.lt) 43 Tryz.underlying43 rfl Z0m
 have NEW:Nonempty (BW W):=⟨⟨W,Below.refl _ _⟩⟩;obtain ⟨RP,hRP⟩:∃ RP,RP=r.message (decide (msB m≠0)) m:=⟨_,rfl⟩;rw [<-hRP] at HQ ⊢;obtain ⟨VB,hVB⟩:∃ VB,VB=mgB r.n m:=⟨_,rfl⟩;rw [<-hVB] at HQ;have HVB:Hid (VB=((msB m != 0) || (m.td != r.n.id) || decide (r.n.sz<m.fr))):=hVB;obtain ⟨MS,hMS⟩:∃ MS,MS=msB m:=⟨_,rfl⟩;have HMS:Hid (MS=msB m):=hMS;rw [<-hMS] at HMf HVB;clear h he hlo hEN hRP hVB hMS;go_enter Tryz.func84,Tryz.ntmps84
 go_upto_region 1 with fail
 rw [<-hW];clear hW
 go_cut [27] (fun s z=>s=.bool VB/\Below W.heap.size W z)
 case first=>
  cases h1:(MS != 0)
  ·cases h2:(m.td != r.n.id)
   ·rw [h1,h2] at HVB
    refine wp_region_quiet (C:=fun w'=>∃ u:BW W,w'=u.w) (by kernel_rfl) (by kernel_rfl) ⟨⟨_,(Below.refl _ _).drew⟩,rfl⟩ ?_;rw [List.toList_toArray]
    repeat (first | (go_big_quiet_want;refine Z35 (W:=W) 43 (.tmp 3) rfl rfl qm ?_;go_big_quiet_on;simp only [Act.put,List.setIfInBounds_toArray,List.set_cons_zero,List.set_cons_succ]) | go_big_quiet_step ((go_at_call 129;refine Calls.mono (HMf.out _ (BW.h _)) ?_;rintro e w9 ⟨rfl,hb9⟩;exact ⟨rfl,⟨⟨w9,(BW.h _).trans (hb9.mono (BW.h _).size)⟩,rfl⟩⟩)))
    refine wpQuiet_nil ?_;intro w5 hww5;have hb_w5:Below W.heap.size W w5:=(by obtain ⟨u,rfl⟩:=hww5;exact u.h);clear hww5
    go_wp2_with fail
    go_meet;exact ⟨by rw [HVB.out];simp,hb_w5⟩
   ·rw [h1,h2] at HVB
    refine wp_region_quiet (C:=fun w'=>∃ u:BW W,w'=u.w) (by kernel_rfl) (by kernel_rfl) ⟨⟨_,(Below.refl _ _).drew⟩,rfl⟩ ?_;rw [List.toList_toArray]
    repeat (first | (go_big_quiet_want;refine Z35 (W:=W) 43 (.tmp 3) rfl rfl qm ?_;go_big_quiet_on;simp only [Act.put,List.setIfInBounds_toArray,List.set_cons_zero,List.set_cons_succ]) | go_big_quiet_step ((go_at_call 129;refine Calls.mono (HMf.out _ (BW.h _)) ?_;rintro e w9 ⟨rfl,hb9⟩;exact ⟨rfl,⟨⟨w9,(BW.h _).trans (hb9.mono (BW.h _).size)⟩,rfl⟩⟩)))
    refine wpQuiet_nil ?_;intro w5 hww5;have hb_w5:Below W.heap.size W w5:=(by obtain ⟨u,rfl⟩:=hww5;exact u.h);clear hww5
    go_wp2_with fail
    go_meet;exact ⟨by rw [HVB.out];rfl,hb_w5⟩
  ·rw [h1] at HVB
   refine wp_region_quiet (C:=fun w'=>∃ u:BW W,w'=u.w) (by kernel_rfl) (by kernel_rfl) ⟨⟨_,(Below.refl _ _).drew⟩,rfl⟩ ?_;rw [List.toList_toArray]
   repeat (first | (go_big_quiet_want;refine Z35 (W:=W) 43 (.tmp 3) rfl rfl qm ?_;go_big_quiet_on;simp only [Act.put,List.setIfInBounds_toArray,List.set_cons_zero,List.set_cons_succ]) | go_big_quiet_step ((go_at_call 129;refine Calls.mono (HMf.out _ (BW.h _)) ?_;rintro e w9 ⟨rfl,hb9⟩;exact ⟨rfl,⟨⟨w9,(BW.h _).trans (hb9.mono (BW.h _).size)⟩,rfl⟩⟩)))
   refine wpQuiet_nil ?_;intro w5 hww5;have hb_w5:Below W.heap.size W w5:=(by obtain ⟨u,rfl⟩:=hww5;exact u.h);clear hww5
   go_wp2_with fail
   go_meet;exact ⟨by rw [HVB.out];rfl,hb_w5⟩
 case rest=>
  obtain ⟨rfl,hB6⟩:=hcut;obtain ⟨w6,hw6⟩:∃ z,z=wc:=⟨_,rfl⟩;rw [<-hw6] at hB6;subst hw6;have HB6:Hid _:=hB6;have HC6:Hid (Zo w6 B b r x):=HCW.out.below hB6;have HM6:Hid (Blk w6 w.heap.size _ 43):=HMW.out.below hB6 HMW.out.lt;have HT6:Hid (Tch b w x w6 x):=Tch.head HBW.out (Tch.below0 _ _ hB6);have n0:w6.cell? ⟨w.heap.size,0,none⟩=some (.int .i64 m.ki):=HM6.out.cell 0;clear q2 q1 p0 p1 qm NEW hB6;by_cases hv:VB=true
  ·have HR:Hid (RP={ r with code:=1 }):=HQ.out.trans (if_pos hv)
   rw [hv];clear HQ hv HVB
   go_wp2_with fail
   go_ret;exact ⟨by rw [HR.out];rfl,x,by rw [HR.out];exact HC6.out.codeQ 1,HT6.out⟩
  have hvf:VB=false:=by simpa using hv
  have HQ2:Hid _:=HQ.out.trans (if_neg hv);have h9:=HVB.out;rw [hvf] at h9;have h8:=Bool.or_eq_false_iff.1 h9.symm;have h7:=Bool.or_eq_false_iff.1 h8.1;have hms:msB m=0:=by rw [<-HMS.out];simpa using h7.1
  have htd:m.td=r.n.id:=by simpa using h7.2
  have hfs:m.fr<=r.n.sz:=by have:=of_decide_eq_false h8.2;omega
  obtain ⟨hki,hfr,hft,hli0,hli1,hes,hhi0,hhi1⟩:=msB_zero m hms;obtain ⟨hok,hlt0⟩:=msB_more m hms;have HPa:Hid (Calls Tryz.prog 130 #[.pointer (some ⟨b,0,none⟩),.agg #[.int .i64 m.ki,.int .i64 m.fr,.int .i64 m.td,.int .i64 m.tm,.int .i64 m.li,.int .i64 m.lt,.int .i64 m.cm,.int .i64 m.ok,.int .i64 m.hi,.slice ea EN ec]] w6 fun e w'=>e=.returned (.int .i64 (r.preAsk m).code)/\∃ x',Zo w' B b (r.preAsk m) x'/\Tch b w6 x w' x'):=Z3q b r x m ea EN ec w6 B HC6.out hc hl hb;have HVa:Hid (Calls Tryz.prog 132 #[.pointer (some ⟨b,0,none⟩),.agg #[.int .i64 m.ki,.int .i64 m.fr,.int .i64 m.td,.int .i64 m.tm,.int .i64 m.li,.int .i64 m.lt,.int .i64 m.cm,.int .i64 m.ok,.int .i64 m.hi,.slice ea EN ec]] w6 fun e w'=>e=.returned (.int .i64 (r.voteAsk m).code)/\∃ x',Zo w' B b (r.voteAsk m) x'/\Tch b w6 x w' x'):=Z3c b r x m ea EN ec w6 B HC6.out hc hl hb hd hD;rw [hvf];clear HQ hv hvf HVB h9 h8 h7 hms htd hLd;have G1:Hid True:=trivial;by_cases hk1:m.ki=1
  ·have HR:Hid (RP=r.preAsk m):=HQ2.out.trans (if_pos hk1)
   have hkb:(m.ki == 1)=true:=by simpa using hk1
   rw [<-HR.out] at HPa;clear HQ2 hk1
   go_wp2_with (first
    |(have hBA:=G1;refine Zw 43 (.tmp 3) rfl ?_;clear hBA;refine Zk rfl 43 (.tmp 3) rfl w.heap.size rfl HM6.out Tryz.underlying43 rfl Z0m rfl ?_;clear G1)
    |(go_at_call 130;refine Calls.mono HPa.out ?_;rintro e w7 ⟨rfl,x7,h7,t7⟩;have H7:Hid _:=h7;have T7:Hid _:=HT6.out.trans t7;clear h7 t7))
   go_ret;exact ⟨rfl,_,H7.out,T7.out⟩
  have hkb1:(m.ki == 1)=false:=by simpa using hk1
  have HQ3:Hid _:=HQ2.out.trans (if_neg hk1);clear HQ2;have hk2:¬ m.ki=2:=by have h9:=hma.out;omega
  have hkb2:(m.ki == 2)=false:=by simpa using hk2
  have HQ4:Hid _:=HQ3.out.trans (if_neg hk2);clear HQ3;by_cases hk3:m.ki=3
  ·have HR:Hid (RP=r.voteAsk m):=HQ4.out.trans (if_pos hk3)
   have hkb:(m.ki == 3)=true:=by simpa using hk3
   rw [<-HR.out] at HVa;clear HQ4 hk3
   go_wp2_with (first
    |(have hBA:=G1;refine Zw 43 (.tmp 3) rfl ?_;clear hBA;refine Zk rfl 43 (.tmp 3) rfl w.heap.size rfl HM6.out Tryz.underlying43 rfl Z0m rfl ?_;clear G1)
    |(go_at_call 132;refine Calls.mono HVa.out ?_;rintro e w7 ⟨rfl,x7,h7,t7⟩;have H7:Hid _:=h7;have T7:Hid _:=HT6.out.trans t7;clear h7 t7))
   go_ret;exact ⟨rfl,_,H7.out,T7.out⟩
  exact absurd hma.out (by omega)
end Go.Proofs.YtmmpoppgabadmaaGreat
