import Derived.Test.YtmmpoppgabadmaaGreatG32
import Derived.Test.YtmmpoppgabadmaaGreatG30
set_option linter.unusedVariables false
set_option linter.unusedSimpArgs false
set_option maxRecDepth 100000
set_option maxHeartbeats 16000000
namespace Go.Proofs.YtmmpoppgabadmaaGreat
open Go.RowKit Go.Maps
theorem Tch.hasnt {b:Nat}{w w':World}{x x':CV}(h:Tch b w x w' x'){k:Nat}(hk:k<w.heap.size)(hn:¬ x.has b k):¬ x'.has b k:=fun e=>(h.at' k e).elim hn (fun e2=>by omega)
theorem Zo.setOut {w:World}{B b:Nat}{r:Rn}{x:CV}(h:Zo w B b r x)(q i:Nat)(v:Value)(hn:¬ x.has b q)(he:∀ p∈x.L,p.v.ownBlock≠some q):Zo (w.setCell ⟨q,i,none⟩ v) B b r x:=
 h.keepAll (fun k hk=>Below.heap_setCell _ _ _ _ (fun e=>hn (by simp only at e;rw [<-e];exact hk))) (fun p hp k e=>Below.heap_setCell _ _ _ _ (fun e2=>he p hp (by simp only at e2;rw [<-e2];exact e)))
theorem Zo.entNe {w:World}{B b:Nat}{r:Rn}{x:CV}(h:Zo w B b r x){q:Nat}{C:Array Value}{t:TypeId}(hq:Blk w q C t)(ht:t≠118):∀ p∈x.L,p.v.ownBlock≠some q:=fun p hp e=>by
 obtain ⟨cur,s,hk⟩:=Z0i (h.ents p hp) e;exact ht (Xa hq hk)
theorem higher_code (r:Rn)(t:Int):(r.higher t).code=r.code:=by
 unfold Rn.higher;split
 ·exact (adopt_n r t).2.2.2.2.2.2.2.2.2.2.2.2.2.2
 ·rfl
theorem Z3c (b:Nat)(r:Rn)(x:CV)(m:Mg)(ea:Option Addr)(en ec:Nat)(w:World)(B:Nat)(h:Zo w B b r x)(hc:r.code=0)(hl:x.L.length<=900)(hb:NdB r.n)(hd : -(2^63)<=r.draw)(hD:r.draw<2^63) :
  Calls Tryz.prog 132 #[.pointer (some ⟨b,0,none⟩),.agg #[.int .i64 m.ki,.int .i64 m.fr,.int .i64 m.td,.int .i64 m.tm,.int .i64 m.li,.int .i64 m.lt,.int .i64 m.cm,.int .i64 m.ok,.int .i64 m.hi,.slice ea en ec]] w fun e w'=>e=.returned (.int .i64 (r.voteAsk m).code)/\∃ x',Zo w' B b (r.voteAsk m) x'/\Tch b w x w' x':=by
 obtain ⟨W,hW⟩:∃ W,W=w.alloc (.cells #[.int .i64 m.ki,.int .i64 m.fr,.int .i64 m.td,.int .i64 m.tm,.int .i64 m.li,.int .i64 m.lt,.int .i64 m.cm,.int .i64 m.ok,.int .i64 m.hi,.slice ea en ec] 43):=⟨_,rfl⟩;have HBW:Hid (Below w.heap.size w W):=by unfold Hid;rw [hW];exact Below.alloc0 _
 have HMW:Hid (Blk W w.heap.size #[.int .i64 m.ki,.int .i64 m.fr,.int .i64 m.td,.int .i64 m.tm,.int .i64 m.li,.int .i64 m.lt,.int .i64 m.cm,.int .i64 m.ok,.int .i64 m.hi,.slice ea en ec] 43):=by unfold Hid;rw [hW];exact Blk.new _ _ _
 have HCW:Hid (Zo W B b r x):=h.below HBW.out;have HLo:Hid (Calls Tryz.prog 163 #[.pointer (some ⟨b,0,none⟩)] W fun e w'=>e=.returned (.bool (loyB r.n))/\Below W.heap.size W w'):=loyal_any b r x W B HCW.out hb.nw0 hb.nw1 hb.hd0 hb.hd1;have HnW:Hid (¬ x.has b w.heap.size):=h.hasnt_new (Nat.le_refl _);have HC1:Hid (∀ z,Below W.heap.size W z->Zo z B b r x/\Tch b W x z x/\Blk z w.heap.size #[.int .i64 m.ki,.int .i64 m.fr,.int .i64 m.td,.int .i64 m.tm,.int .i64 m.li,.int .i64 m.lt,.int .i64 m.cm,.int .i64 m.ok,.int .i64 m.hi,.slice ea en ec] 43):=fun z hz=>⟨HCW.out.below hz,Tch.below0 _ _ hz,HMW.out.below hz HMW.out.lt⟩
 have HMt:Hid (∀ z x',Tch b W x z x'->Blk z w.heap.size #[.int .i64 m.ki,.int .i64 m.fr,.int .i64 m.td,.int .i64 m.tm,.int .i64 m.li,.int .i64 m.lt,.int .i64 m.cm,.int .i64 m.ok,.int .i64 m.hi,.slice ea en ec] 43):=fun z x' ht=>ht.blk HMW.out HnW.out
 have hblt:=h.lt;clear h;cases hly:loyB r.n
 ·rw [hly] at HLo
  obtain ⟨R1,hR1⟩:∃ R1,R1=r.higher m.tm:=⟨_,rfl⟩;have HQ:Hid (r.voteAsk m=if m.tm=R1.n.tm/\(R1.n.vo=0∨R1.n.vo=m.fr)/\utd R1.n.log m=true then Rn.send (Rn.timer { R1.lone with n:={ R1.lone.n with vo:=m.fr } }) ⟨4,0,m.fr,R1.n.tm,0,0,0,1,0,[]⟩ else R1.send ⟨4,0,m.fr,R1.n.tm,0,0,0,0,0,[]⟩):=by unfold Hid;rw [hR1];unfold Rn.voteAsk;rw [hly,if_neg (by decide)]
  have HK1:Hid (R1.code=0):=by unfold Hid;rw [hR1,higher_code];exact hc
  have HK:Hid ((r.voteAsk m).code=0):=by unfold Hid;rw [HQ.out];split <;> exact HK1.out
  have HNb:Hid (NdB R1.n):=by unfold Hid;rw [hR1];exact hb.higher _
  have HDr:Hid (R1.draw=r.draw):=by unfold Hid;rw [hR1];exact higher_draw _ _
  have HHi:Hid (R1=if r.n.tm<m.tm then r.adopt m.tm else r):=hR1;have HAd:Hid (∀ z,Below W.heap.size W z->Calls Tryz.prog 170 #[.pointer (some ⟨b,0,none⟩),.int .i64 m.tm] z fun e w'=>e=.returned (.tuple #[])/\Zo w' B b (r.adopt m.tm) x.lone/\Tch b z x w' x.lone):=fun z hz=>adopt_any b r x m.tm z B (HCW.out.below hz) hd hD hb.nw0 hb.nw1
  have HSe:Hid (∀ z R X t k,Zo z B b R X->X.L.length<=900->Calls Tryz.prog 165 #[.pointer (some ⟨b,0,none⟩),.int .i64 m.fr,.agg #[.int .i64 4,.int .i64 0,.int .i64 0,.int .i64 t,.int .i64 0,.int .i64 0,.int .i64 0,.int .i64 k,.int .i64 0,.slice none 0 0]] z fun e w'=>e=.returned (.tuple #[])/\∃ v y,Zo w' B b (R.send ⟨4,0,m.fr,t,0,0,0,k,0,[]⟩) (X.sent v y)/\Tch b z X w' (X.sent v y)):=fun z R X t k hz hX=>send_any b R X ⟨4,0,0,t,0,0,0,k,0,[]⟩ m.fr none 0 z B hz (Zv.nil _ _) (fun k e=>by cases e) (by omega)
  rw [HK.out];clear HK hR1;generalize r.voteAsk m=RP at *;go_enter Tryz.func132,Tryz.ntmps132
  go_upto_region 1 with fail
  rw [<-hW];clear hW
  go_upto_region 3 with (first
   |(go_at_call 163;refine Calls.mono HLo.out ?_;rintro e w1 ⟨rfl,hb1⟩;have H1:Hid _:=HC1.out w1 hb1;have HB1:Hid _:=hb1;have d4:w1.cell? ⟨b,4,none⟩=some (.int .i64 r.n.tm):=H1.out.1.blk.cell 4;have n3:w1.cell? ⟨w.heap.size,3,none⟩=some (.int .i64 m.tm):=H1.out.2.2.cell 3;clear hb1))
  go_quiet (fail)
  obtain ⟨w2,hw2⟩:∃ z,z=w1.drewN nq:=⟨_,rfl⟩;have HB2:Hid (Below W.heap.size W w2):=by unfold Hid;rw [hw2];exact HB1.out.trans (Z0c _ _ _)
  rw [<-hw2];clear hw2 d4 n3;have n3:w2.cell? ⟨w.heap.size,3,none⟩=some (.int .i64 m.tm):=(HC1.out w2 HB2.out).2.2.cell 3
  go_upto_if 15 with fail
  go_cut [] (fun z=>∃ X1,Zo z B b R1 X1/\Tch b W x z X1/\X1.L=x.L)
  case first=>
   by_cases ht:r.n.tm<m.tm
   ·have htd:decide (r.n.tm<m.tm)=true:=decide_eq_true ht
    have HH2:Hid (R1=r.adopt m.tm):=HHi.out.trans (if_pos ht);rw [htd];clear ht htd HHi
    go_wp2_with (first
     |(go_at_call 170;refine Calls.mono (HAd.out _ HB2.out) ?_;rintro e w3 ⟨rfl,h2,t2⟩;have H2:Hid _:=h2;have T2:Hid (Tch b W x w3 x.lone):=Tch.head HB2.out t2;clear h2 t2))
    go_meet;exact ⟨x.lone,by rw [HH2.out];exact H2.out,T2.out,rfl⟩
   ·have htd:decide (r.n.tm<m.tm)=false:=decide_eq_false ht
    have HH2:Hid (R1=r):=HHi.out.trans (if_neg ht);rw [htd];clear ht htd HHi
    go_wp2_with fail
    go_meet;exact ⟨x,by rw [HH2.out];exact (HC1.out w2 HB2.out).1,Tch.below0 _ _ HB2.out,rfl⟩
  case rest=>
   obtain ⟨X1,hC,hT,hX⟩:=hcut;obtain ⟨w4,hw4⟩:∃ z,z=wc:=⟨_,rfl⟩;rw [<-hw4] at hC hT;subst hw4;have HC4:Hid _:=hC;have HT4:Hid _:=hT;have HX:Hid (X1.L=x.L):=hX;have HM4:Hid (Blk w4 w.heap.size _ 43):=HMt.out w4 X1 hT;have d4:w4.cell? ⟨b,4,none⟩=some (.int .i64 R1.n.tm):=hC.blk.cell 4;have hzw:w.heap.size<w4.heap.size:=HM4.out.lt;clear hC hT hX n3
   go_upto_region 6 with fail
   obtain ⟨V,hV⟩:∃ V,V=w4.alloc (.cells #[.int .i64 4,.int .i64 0,.int .i64 0,.int .i64 R1.n.tm,.int .i64 0,.int .i64 0,.int .i64 0,.int .i64 0,.int .i64 0,.slice none 0 0] 43):=⟨_,rfl⟩;rw [<-hV];have HBV:Hid (Below w4.heap.size w4 V):=by unfold Hid;rw [hV];exact Below.alloc0 _
   have HRV:Hid (Blk V w4.heap.size #[.int .i64 4,.int .i64 0,.int .i64 0,.int .i64 R1.n.tm,.int .i64 0,.int .i64 0,.int .i64 0,.int .i64 0,.int .i64 0,.slice none 0 0] 43):=by unfold Hid;rw [hV];exact Blk.new _ _ _
   clear hV d4;have HCV:Hid (Zo V B b R1 X1):=HC4.out.below HBV.out;have HMV:Hid (Blk V w.heap.size _ 43):=HM4.out.below HBV.out HM4.out.lt;have q3:∀ u:BW V,u.w.cell? ⟨w.heap.size,3,none⟩=some (.int .i64 m.tm):=fun u=>(HMV.out.below u.h HMV.out.lt).cell 3
   have q1:∀ u:BW V,u.w.cell? ⟨w.heap.size,1,none⟩=some (.int .i64 m.fr):=fun u=>(HMV.out.below u.h HMV.out.lt).cell 1
   have q4:∀ u:BW V,u.w.cell? ⟨b,4,none⟩=some (.int .i64 R1.n.tm):=fun u=>(HCV.out.below u.h).blk.cell 4
   have q5:∀ u:BW V,u.w.cell? ⟨b,5,none⟩=some (.int .i64 R1.n.vo):=fun u=>(HCV.out.below u.h).blk.cell 5
   have qm:∀ u:BW V,Sem.run Tryz.prog (loadVar 43 ⟨w.heap.size,0,none⟩) u.w=.ok (.agg #[.int .i64 m.ki,.int .i64 m.fr,.int .i64 m.td,.int .i64 m.tm,.int .i64 m.li,.int .i64 m.lt,.int .i64 m.cm,.int .i64 m.ok,.int .i64 m.hi,.slice ea en ec]) u.w:=fun u=>Z12 (HMV.out.below u.h HMV.out.lt) 43 Tryz.underlying43 rfl Z0m
   have NEV:Nonempty (BW V):=⟨⟨V,Below.refl _ _⟩⟩;have HUt:Hid (∀ z,Below V.heap.size V z->Calls Tryz.prog 164 #[.pointer (some ⟨b,0,none⟩),.agg #[.int .i64 m.ki,.int .i64 m.fr,.int .i64 m.td,.int .i64 m.tm,.int .i64 m.li,.int .i64 m.lt,.int .i64 m.cm,.int .i64 m.ok,.int .i64 m.hi,.slice ea en ec]] z fun e w'=>e=.returned (.bool (utd R1.n.log m))/\Below z.heap.size z w'):=fun z hz=>Z2b b R1 X1 m ea en ec z B (HCV.out.below hz) HNb.out.ln
   obtain ⟨VB,hVB⟩:∃ VB,VB=vaB R1.n m:=⟨_,rfl⟩;have HVB:Hid (VB=vaB R1.n m):=hVB;clear hVB
   (try go_frame)
   go_cut [56] (fun s z=>s=.bool VB/\Below V.heap.size V z)
   case first=>
    have HV:Hid (VB=((m.tm == R1.n.tm) && ((R1.n.vo == 0) || (R1.n.vo == m.fr)) && utd R1.n.log m)):=HVB.out;clear HVB;cases h1:(m.tm == R1.n.tm)
    ·rw [h1] at HV
     refine wp_region_quiet (C:=fun w'=>∃ u:BW V,w'=u.w) (by kernel_rfl) (by kernel_rfl) ⟨⟨_,(Below.refl _ _).drew⟩,rfl⟩ ?_;rw [List.toList_toArray]
     repeat (first | go_big_quiet_step ((fail)))
     refine wpQuiet_nil ?_;intro w5 hww5;have hb_w5:Below V.heap.size V w5:=(by obtain ⟨u,rfl⟩:=hww5;exact u.h);clear hww5
     go_wp2_with fail
     go_meet;exact ⟨by rw [HV.out];rfl,hb_w5⟩
    ·cases h2:(R1.n.vo == 0)
     ·cases h3:(R1.n.vo == m.fr)
      ·rw [h1,h2,h3] at HV
       refine wp_region_quiet (C:=fun w'=>∃ u:BW V,w'=u.w) (by kernel_rfl) (by kernel_rfl) ⟨⟨_,(Below.refl _ _).drew⟩,rfl⟩ ?_;rw [List.toList_toArray]
       repeat (first | go_big_quiet_step ((fail)))
       refine wpQuiet_nil ?_;intro w5 hww5;have hb_w5:Below V.heap.size V w5:=(by obtain ⟨u,rfl⟩:=hww5;exact u.h);clear hww5
       go_wp2_with fail
       go_meet;exact ⟨by rw [HV.out];rfl,hb_w5⟩
      ·rw [h1,h2,h3] at HV
       refine wp_region_quiet (C:=fun w'=>∃ u:BW V,w'=u.w) (by kernel_rfl) (by kernel_rfl) ⟨⟨_,(Below.refl _ _).drew⟩,rfl⟩ ?_;rw [List.toList_toArray]
       repeat (first | (go_big_quiet_want;refine Z35 (W:=V) 43 (.tmp 3) rfl rfl qm ?_;go_big_quiet_on;simp only [Act.put,List.setIfInBounds_toArray,List.set_cons_zero,List.set_cons_succ]) | go_big_quiet_step ((go_at_call 164;refine Calls.mono (HUt.out _ (BW.h _)) ?_;rintro e w9 ⟨rfl,hb9⟩;exact ⟨rfl,⟨⟨w9,(BW.h _).trans (hb9.mono (BW.h _).size)⟩,rfl⟩⟩)))
       refine wpQuiet_nil ?_;intro w5 hww5;have hb_w5:Below V.heap.size V w5:=(by obtain ⟨u,rfl⟩:=hww5;exact u.h);clear hww5
       go_wp2_with fail
       go_meet;exact ⟨by rw [HV.out];simp,hb_w5⟩
     ·rw [h1,h2] at HV
      refine wp_region_quiet (C:=fun w'=>∃ u:BW V,w'=u.w) (by kernel_rfl) (by kernel_rfl) ⟨⟨_,(Below.refl _ _).drew⟩,rfl⟩ ?_;rw [List.toList_toArray]
      repeat (first | (go_big_quiet_want;refine Z35 (W:=V) 43 (.tmp 3) rfl rfl qm ?_;go_big_quiet_on;simp only [Act.put,List.setIfInBounds_toArray,List.set_cons_zero,List.set_cons_succ]) | go_big_quiet_step ((go_at_call 164;refine Calls.mono (HUt.out _ (BW.h _)) ?_;rintro e w9 ⟨rfl,hb9⟩;exact ⟨rfl,⟨⟨w9,(BW.h _).trans (hb9.mono (BW.h _).size)⟩,rfl⟩⟩)))
      refine wpQuiet_nil ?_;intro w5 hww5;have hb_w5:Below V.heap.size V w5:=(by obtain ⟨u,rfl⟩:=hww5;exact u.h);clear hww5
      go_wp2_with fail
      go_meet;exact ⟨by rw [HV.out];simp,hb_w5⟩
   case rest=>
    obtain ⟨rfl,hB6⟩:=hcut;obtain ⟨w6,hw6⟩:∃ z,z=wc:=⟨_,rfl⟩;rw [<-hw6] at hB6;subst hw6;have HC6:Hid (Zo w6 B b R1 X1):=HCV.out.below hB6;have HM6:Hid (Blk w6 w.heap.size _ 43):=HMV.out.below hB6 HMV.out.lt;have HR6:Hid (Blk w6 w4.heap.size _ 43):=HRV.out.below hB6 HRV.out.lt;have HT46:Hid (Tch b w4 X1 w6 X1):=Tch.below0 _ _ (HBV.out.trans (hB6.mono HBV.out.size));have HnR:Hid (¬ X1.has b w4.heap.size):=HC4.out.hasnt_new (Nat.le_refl _);have hzR:w4.heap.size<w6.heap.size:=HR6.out.lt;have hnn:¬ w.heap.size=w4.heap.size:=by omega
    have p1:w6.cell? ⟨w.heap.size,1,none⟩=some (.int .i64 m.fr):=HM6.out.cell 1;have HnM:Hid (¬ X1.has b w.heap.size):=HT4.out.hasnt HMW.out.lt HnW.out;have HX9:Hid (X1.L.length<=900):=by unfold Hid;rw [HX.out];exact hl
    clear q3 q1 q4 q5 qm NEV HUt hB6;have G1:Hid True:=trivial;by_cases hv:VB=true
    ·have HQ2:Hid (RP=Rn.send (Rn.timer { R1.lone with n:={ R1.lone.n with vo:=m.fr } }) ⟨4,0,m.fr,R1.n.tm,0,0,0,1,0,[]⟩):=HQ.out.trans (if_pos ((vaB_iff _ _).1 (HVB.out.symm.trans hv)))
     rw [hv];have c5:w6.cell? ⟨b,5,none⟩=some (.int .i64 R1.n.vo):=HC6.out.blk.cell 5;have f5:w6.frozen? ⟨b,5,none⟩=false:=HC6.out.blk.free 5;have HCs:Hid (Zo (w6.setCell ⟨b,5,none⟩ (.int .i64 m.fr)) B b { R1 with n:={ R1.n with vo:=m.fr } } X1):=HC6.out.set 5 _ rfl rfl rfl rfl rfl rfl rfl rfl rfl rfl Iff.rfl;have HTs:Hid (Tch b w6 X1 (w6.setCell ⟨b,5,none⟩ (.int .i64 m.fr)) X1):=Tch.set _ _ _ _ _;have HFo:Hid (Calls Tryz.prog 155 #[.pointer (some ⟨b,0,none⟩),.int .i64 0] (w6.setCell ⟨b,5,none⟩ (.int .i64 m.fr)) fun e w'=>e=.returned (.tuple #[])/\Zo w' B b { R1.lone with n:={ R1.lone.n with vo:=m.fr } } X1.lone/\Tch b (w6.setCell ⟨b,5,none⟩ (.int .i64 m.fr)) X1 w' X1.lone):=Z3i b _ X1 0 _ B HCs.out;have HTm:Hid (∀ z,Zo z B b { R1.lone with n:={ R1.lone.n with vo:=m.fr } } X1.lone->Calls Tryz.prog 156 #[.pointer (some ⟨b,0,none⟩)] z fun e w'=>e=.returned (.tuple #[])/\Zo w' B b (Rn.timer { R1.lone with n:={ R1.lone.n with vo:=m.fr } }) X1.lone/\Tch b z X1.lone w' X1.lone):=fun z hz=>Z2a b _ X1.lone z B hz (by rw [show ({ R1.lone with n:={ R1.lone.n with vo:=m.fr } } : Rn).draw=R1.draw from rfl,HDr.out];exact hd) (by rw [show ({ R1.lone with n:={ R1.lone.n with vo:=m.fr } } : Rn).draw=R1.draw from rfl,HDr.out];exact hD) HNb.out.nw0 HNb.out.nw1
     have HR7:Hid (∀ z X,Tch b w6 X1 z X->Blk z w4.heap.size #[.int .i64 4,.int .i64 0,.int .i64 0,.int .i64 R1.n.tm,.int .i64 0,.int .i64 0,.int .i64 0,.int .i64 0,.int .i64 0,.slice none 0 0] 43/\Blk z w.heap.size #[.int .i64 m.ki,.int .i64 m.fr,.int .i64 m.td,.int .i64 m.tm,.int .i64 m.li,.int .i64 m.lt,.int .i64 m.cm,.int .i64 m.ok,.int .i64 m.hi,.slice ea en ec] 43/\¬ X.has b w4.heap.size/\¬ X.has b w.heap.size):=fun z X ht=>⟨ht.blk HR6.out HnR.out,ht.blk HM6.out HnM.out,ht.hasnt HR6.out.lt HnR.out,ht.hasnt HM6.out.lt HnM.out⟩
     generalize Rn.timer { R1.lone with n:={ R1.lone.n with vo:=m.fr } }=RT at *;generalize ({ R1.lone with n:={ R1.lone.n with vo:=m.fr } } : Rn)=RL at *;clear HQ hv HVB
     go_upto_region 10 with (first
      |(go_at_call 155;refine Calls.mono HFo.out ?_;rintro e w7 ⟨rfl,h7,t7⟩;have H7:Hid _:=h7;have T7:Hid (Tch b w6 X1 w7 X1.lone):=HTs.out.trans t7;clear h7 t7)
      |(go_at_call 156;refine Calls.mono (HTm.out _ H7.out) ?_;rintro e w8 ⟨rfl,h8,t8⟩;have H8:Hid _:=h8;have T8:Hid (Tch b w6 X1 w8 X1.lone):=T7.out.trans t8;obtain ⟨hRb,hMb,hn1,hn2⟩:=HR7.out w8 _ T8.out;have HRb:Hid (Blk w8 w4.heap.size _ 43):=hRb;have HMb:Hid (Blk w8 w.heap.size _ 43):=hMb;have Hn1:Hid (¬ X1.lone.has b w4.heap.size):=hn1;have r7:w8.cell? ⟨w4.heap.size,7,none⟩=some (.int .i64 0):=hRb.cell 7;have rf7:w8.frozen? ⟨w4.heap.size,7,none⟩=false:=hRb.free 7;clear h8 t8 hRb hMb hn1 hn2))
     have HRn:Hid (Blk (w8.setCell ⟨w4.heap.size,7,none⟩ (.int .i64 1)) w4.heap.size #[.int .i64 4,.int .i64 0,.int .i64 0,.int .i64 R1.n.tm,.int .i64 0,.int .i64 0,.int .i64 0,.int .i64 1,.int .i64 0,.slice none 0 0] 43):=HRb.out.set 7 _;have HMn:Hid (Blk (w8.setCell ⟨w4.heap.size,7,none⟩ (.int .i64 1)) w.heap.size #[.int .i64 m.ki,.int .i64 m.fr,.int .i64 m.td,.int .i64 m.tm,.int .i64 m.li,.int .i64 m.lt,.int .i64 m.cm,.int .i64 m.ok,.int .i64 m.hi,.slice ea en ec] 43):=HMb.out.set_other _ hnn
     have HCn:Hid (Zo (w8.setCell ⟨w4.heap.size,7,none⟩ (.int .i64 1)) B b RT X1.lone/\Tch b w4 X1 (w8.setCell ⟨w4.heap.size,7,none⟩ (.int .i64 1)) X1.lone):=by
      have hT9:=HT46.out.trans T8.out;refine ⟨H8.out.setOut _ 7 _ Hn1.out (H8.out.entNe HRb.out (by decide)),⟨hT9.os,hT9.tape,hT9.output,by have:=hT9.size;simp [World.setCell];omega,fun k hk hn=>(Below.heap_setCell _ _ _ _ (by simp only;omega)).trans (hT9.block k hk hn),hT9.at'⟩⟩
     go_upto_region 11 with fail
     generalize w8.setCell ⟨w4.heap.size,7,none⟩ (.int .i64 1)=w9 at *;have s1:w9.cell? ⟨w.heap.size,1,none⟩=some (.int .i64 m.fr):=HMn.out.cell 1
     go_wp2_with (first
      |(have hBA:=G1;refine Zw 43 (.tmp 5) rfl ?_;clear hBA;refine Zk rfl 43 (.tmp 5) rfl w4.heap.size rfl HRn.out Tryz.underlying43 rfl Z0m rfl ?_;clear G1)
      |(go_at_call 165;refine Calls.mono (HSe.out _ _ _ _ _ HCn.out.1 HX9.out) ?_;rintro e wz ⟨rfl,vz,yz,hz,tz⟩;have HZ:Hid (Zo wz B b RP (X1.lone.sent vz yz)):=(by unfold Hid;rw [HQ2.out];exact hz);have TZ:Hid (Tch b W x wz (X1.lone.sent vz yz)):=(HT4.out.trans HCn.out.2).trans tz;clear hz tz))
     go_ret;exact ⟨rfl,_,HZ.out,Tch.head HBW.out TZ.out⟩
    ·have hvf:VB=false:=by simpa using hv
     have HQ2:Hid (RP=R1.send ⟨4,0,m.fr,R1.n.tm,0,0,0,0,0,[]⟩):=HQ.out.trans (if_neg (fun h9=>hv (HVB.out.trans ((vaB_iff _ _).2 h9))));rw [hvf];clear HQ hv hvf HVB
     go_wp2_with (first
      |(have hBA:=G1;refine Zw 43 (.tmp 5) rfl ?_;clear hBA;refine Zk rfl 43 (.tmp 5) rfl w4.heap.size rfl HR6.out Tryz.underlying43 rfl Z0m rfl ?_;clear G1)
      |(go_at_call 165;refine Calls.mono (HSe.out _ _ _ _ _ HC6.out HX9.out) ?_;rintro e wz ⟨rfl,vz,yz,hz,tz⟩;have HZ:Hid (Zo wz B b RP (X1.sent vz yz)):=(by unfold Hid;rw [HQ2.out];exact hz);have TZ:Hid (Tch b W x wz (X1.sent vz yz)):=(HT4.out.trans HT46.out).trans tz;clear hz tz))
     go_ret;exact ⟨rfl,_,HZ.out,Tch.head HBW.out TZ.out⟩
 ·rw [hly] at HLo
  have HQ:Hid (r.voteAsk m={ r with code:=2 }):=by unfold Hid Rn.voteAsk;rw [hly,if_pos rfl]
  rw [HQ.out];go_enter Tryz.func132,Tryz.ntmps132
  go_upto_region 1 with fail
  rw [<-hW];clear hW
  go_wp2_with (first
   |(go_at_call 163;refine Calls.mono HLo.out ?_;rintro e w1 ⟨rfl,hb1⟩;have H1:Hid _:=HC1.out w1 hb1;clear hb1))
  go_ret;exact ⟨rfl,x,H1.out.1.codeQ 2,Tch.head HBW.out H1.out.2.1⟩
end Go.Proofs.YtmmpoppgabadmaaGreat
namespace Go.Proofs.YtmmpoppgabadmaaGreat
open Go.RowKit Go.Maps
end Go.Proofs.YtmmpoppgabadmaaGreat
namespace Go.Proofs.YtmmpoppgabadmaaGreat
open Go.RowKit Go.Maps
structure LogR (n:Nd):Prop where
 rise:n.log.Pairwise (fun a c=>a.t<=c.t)
 top:∀ e∈n.log,e.t<=n.tm
end Go.Proofs.YtmmpoppgabadmaaGreat
namespace Go.Proofs.YtmmpoppgabadmaaGreat
open Go.RowKit Go.Maps
theorem rise_pw (most:Int):∀(l:List Int) (last:Int),Yx most last l=true->l.Pairwise (· < ·)/\∀ y∈l,last<y/\y<=most
 | [],last,_=>⟨List.Pairwise.nil,fun y h=>by cases h⟩
 | x :: l,last,hr=>by
  simp only [Yx,Bool.and_eq_true,Zr] at hr;obtain ⟨h1,h2⟩:=rise_pw most l x hr.2;refine ⟨List.Pairwise.cons (fun y hy=>(h2 y hy).1) h1,fun y hy=>?_⟩;rcases List.mem_cons.1 hy with rfl | hy
  ·omega
  ·have:=h2 y hy;omega
theorem fit_pw (high:Int):∀(l:List Ent) (low:Int),Xc high low l=true->l.Pairwise (fun a c=>a.t<=c.t)/\∀ e∈l,low<=e.t/\e.t<=high
 | [],low,_=>⟨List.Pairwise.nil,fun y h=>by cases h⟩
 | x :: l,low,hr=>by
  simp only [Xc,Bool.and_eq_true,Zr] at hr;obtain ⟨h1,h2⟩:=fit_pw high l x.t hr.2;refine ⟨List.Pairwise.cons (fun y hy=>(h2 y hy).1) h1,fun y hy=>?_⟩;rcases List.mem_cons.1 hy with rfl | hy
  ·omega
  ·have:=h2 y hy;omega
theorem Z1i (n:Nd)(h:Xt n=0):LogR n/\n.log.length<=4096:=by
 unfold Xt Yu at h;split at h
 ·simp at h
 split at h
 ·simp at h
 split at h
 ·simp at h
 split at h
 ·simp at h
 rename_i h4;split at h
 ·simp at h
 rename_i h5;have k5:Xc n.tm 1 n.log=true:=by simpa using h5
 obtain ⟨h1,h2⟩:=fit_pw n.tm n.log 1 k5;exact ⟨⟨h1,fun e he=>(h2 e he).2⟩,by omega⟩
theorem nodeN_ci (n:Nd)(h:Xt n=0):CI n:=by
 obtain ⟨hb,t0,t1,ho,hgl,hcm,hg,hl⟩:=Jy n h
 have hgr:n.gr.Pairwise (· < ·)/\∀ y∈n.gr,1<=y/\y<=n.sz:=by
  unfold Yp at hg;split at hg
  ·have:n.gr = []:=List.length_eq_zero_iff.1 (by have h9:(n.gr.length:Int)=0:=(by simpa using hg);omega)
   rw [this];exact ⟨List.Pairwise.nil,fun y h=>by cases h⟩
  ·simp only [Bool.and_eq_true] at hg
   obtain ⟨h1,h2⟩:=rise_pw n.sz n.gr 0 hg.1;exact ⟨h1,fun y hy=>by have:=h2 y hy;omega⟩
 have hz:=hb.sz0;have hz1:=hb.sz1;have hi0:=hb.id0;have hi1:=hb.id1;refine ⟨hz,hz1,ho,hi0,hi1,hgr.1,hgr.2,fun hro=>?_,fun hro=>?_⟩
 ·unfold Yw at hl
  rw [if_pos hro,Bool.and_eq_true,Xz] at hl;obtain ⟨⟨e1,e2,e3,e4⟩,hp⟩:=hl;have h9:=progs_at hp (n.id-1).toNat (by omega);unfold Yg at h9;rw [if_pos (by omega)] at h9;simp only [Bool.and_eq_true,beq_iff_eq] at h9;exact ⟨⟨by omega,by omega,by omega,by omega⟩,h9.1,h9.2.1,h9.2.2.1,h9.2.2.2⟩
 ·unfold Yw at hl
  rw [if_neg hro,Bool.and_eq_true,Xz] at hl;obtain ⟨⟨e1,e2,e3,e4⟩,hp⟩:=hl;exact ⟨List.length_eq_zero_iff.1 (by omega),List.length_eq_zero_iff.1 (by omega),List.length_eq_zero_iff.1 (by omega),List.length_eq_zero_iff.1 (by omega)⟩
end Go.Proofs.YtmmpoppgabadmaaGreat
namespace Go.Proofs.YtmmpoppgabadmaaGreat
open Go.RowKit
theorem Z1f {n:Nd}(h1:Y3 n.id n.sz n.el n.bt=true)(h2:Yv n.sz n.tm n.vo=true)(h3:Y8 n.id n.sz n.tm n.vo n.ro n.ld=true)(h4:n.log.length<=4096)(h5:Xc n.tm 1 n.log=true)(h6:inB n.cm 0 n.log.length=true)(h7:Ya n.el n.nw n.dl n.hd=true)(h8:Yp n.ro n.sz n.id n.gr=true)(h9:Yw n.ro n.sz n.id n.log.length n.nw n.nx n.mt n.se n.st=true):Xt n=0:=by
 have h4':¬(4096:Int)<n.log.length:=by omega
 unfold Xt Yu;simp only [h1,h2,h3,h5,h6,h7,h8,h9,h4',Bool.true_eq_false,if_false]
theorem fitL_of (H:Int):∀(L:List Ent) (low:Int),L.Pairwise (fun a c=>a.t<=c.t)->(∀ e∈L,entB e=true/\low<=e.t/\e.t<=H)->Xc H low L=true
 | [],_,_,_=>rfl
 | x :: L,low,hp,ha=>by
  have hx:=ha x (by simp);obtain ⟨p1,p2⟩:=List.pairwise_cons.1 hp;have:=fitL_of H L x.t p2 (fun e he=>⟨(ha e (by simp [he])).1,p1 e he,(ha e (by simp [he])).2.2⟩);simp only [Xc,Bool.and_eq_true,Zr];exact ⟨⟨hx.1,hx.2⟩,this⟩
theorem entE_ok (l:List Int)(k:Nat)(t:Int)(h0:1<=t)(h1:t<=1073741824):entB (entE l k t)=true/\(entE l k t).t=entT l k t:=by
 have ht:=entT_le l k t (by omega) h1;have hc:=cmd_facts l (k+1+1);have hi:inB (entT l k t) 1 1073741824=true:=by rw [Zr];omega
 unfold entE;split
 ·refine ⟨?_,rfl⟩
  unfold entB;simp only [hi,Bool.true_and];rfl
 ·refine ⟨?_,rfl⟩
  obtain ⟨c1,c2,s1,s2,o1,o2,k1,k2,v1,l1,v2,l2⟩:=hc;unfold entB;simp only [hi,Bool.true_and,beq_iff_eq];unfold cmdF;rw [if_neg (by omega),if_neg (by omega),if_neg (by omega),if_neg (by omega),if_neg (by omega),if_neg ?_,if_neg ?_]
  ·split <;> omega
  ·split <;> omega
theorem entT_lt (l:List Int)(k:Nat)(t:Int):entT l k t<=t+1:=by unfold entT;split <;> omega
theorem entsD_all (l:List Int)(k:Nat)(t:Int)(h0:1<=t)(n:Nat)(h1:t+n<=1073741824):(Y5 l k t n).1.Pairwise (fun a c=>a.t<=c.t)/\(∀ e∈(Y5 l k t n).1,entB e=true/\t<=e.t/\e.t<=(Y5 l k t n).2.2)/\t<=(Y5 l k t n).2.2/\(Y5 l k t n).2.2<=t+n:=by
 induction n with
 | zero=>exact ⟨List.Pairwise.nil,(fun e h=>by simp [Y5] at h),Int.le_refl _,by simp [Y5]⟩
 | succ n ih=>
  obtain ⟨i1,i2,i3,i4⟩:=ih (by omega);rw [Y5];dsimp only;have hE:=entE_ok l (Y5 l k t n).2.1 (Y5 l k t n).2.2 (by omega) (by omega);have hT:=entT_le l (Y5 l k t n).2.1 (Y5 l k t n).2.2 (by omega) (by omega);have hT2:=entT_lt l (Y5 l k t n).2.1 (Y5 l k t n).2.2;refine ⟨?_,?_,by omega,by push_cast;omega⟩
  ·rw [List.pairwise_append]
   refine ⟨i1,List.pairwise_singleton _ _,fun a ha b hb=>?_⟩;simp only [List.mem_singleton] at hb;subst hb;rw [hE.2];have:=(i2 a ha).2.2;omega
  ·intro e he
   rcases List.mem_append.1 he with he | he
   ·have:=i2 e he
    exact ⟨this.1,this.2.1,by omega⟩
   ·simp only [List.mem_singleton] at he
    subst he;rw [hE.2];exact ⟨hE.1,by omega,Int.le_refl _⟩
theorem stD_wf (l:List Int)(k n:Nat)(hn:n<=200):0<=(stD l k n).1/\(stD l k n).1<=1073741824/\0<=(stD l k n).2.1/\(stD l k n).2.1<=7/\((stD l k n).1=0->(stD l k n).2.1=0)/\(stD l k n).2.2.1.length<=n/\Xc (stD l k n).1 1 (stD l k n).2.2.1=true:=by
 unfold stD;split
 ·exact ⟨Int.le_refl _,(by omega:(0:Int)<=1073741824),Int.le_refl _,(by omega:(0:Int)<=7),fun _=>rfl,Nat.zero_le _,rfl⟩
 ·have h1:=Zf l (k+1) (n+1) (by omega)
  have h2:=Zf l (k+1+1) 3 (by omega);have h3:=Zf l ((stE l k n).2.1+1+1) 8 (by omega);have h4:=Zf l (stE l k n).2.1 3 (by omega);have hE:=entsD_all l (k+1+1+1) (1+((Z5 l (k+1+1) 3:Nat):Int)) (by omega) (Z5 l (k+1) (n+1)) (by omega);have hlen:(stE l k n).1.length=Z5 l (k+1) (n+1):=Jb _ _ _ _;obtain ⟨e1,e2,e3,e4⟩:=hE
  change (stE l k n).1.Pairwise _ at e1
  change ∀ e∈(stE l k n).1,_/\_/\e.t<=(stE l k n).2.2 at e2
  change _<=(stE l k n).2.2 at e3
  change (stE l k n).2.2<=_ at e4
  have hlo:1<=lowV (stE l k n).1 (stE l k n).1.length/\lowV (stE l k n).1 (stE l k n).1.length<=300/\∀ e∈(stE l k n).1,e.t<=lowV (stE l k n).1 (stE l k n).1.length:=by
   generalize (stE l k n).1=L at *;generalize (stE l k n).2.2=TT at *;rcases List.eq_nil_or_concat L with rfl | ⟨L',x,hLx⟩
   ·exact ⟨(by decide),by simp [lowV],fun e h=>by cases h⟩
   ·rw [List.concat_eq_append] at hLx
    subst hLx;have hx:=e2 x (by simp);have hv:lowV (L' ++ [x]) (L' ++ [x]).length=x.t:=by unfold lowV;simp
    rw [hv];refine ⟨by omega,by omega,fun e he=>?_⟩;rcases List.mem_append.1 he with he | he
    ·exact (List.pairwise_append.1 e1).2.2 e he x (by simp)
    ·simp only [List.mem_singleton] at he
     subst he;exact Int.le_refl _
  have hT:lowV (stE l k n).1 (stE l k n).1.length<=stT l k n/\stT l k n<=1073741824:=by
   unfold stT;split <;> omega
  refine ⟨by show 0<=stT l k n;omega,hT.2,by show (0:Int)<=(Z5 _ _ 8:Nat);omega,by show ((Z5 _ _ 8:Nat):Int)<=7;omega,fun h=>?_,by show (stE l k n).1.length<=n;omega,?_⟩
  ·have h':stT l k n=0:=h
   omega
  ·show Xc (stT l k n) 1 (stE l k n).1=true
   refine fitL_of _ _ _ e1 fun e he=>⟨(e2 e he).1,?_,?_⟩
   ·have:=(e2 e he).2.1;omega
   ·have:=hlo.2.2 e he;omega
structure NdW (n:Nd) (T V:Int):Prop where
 pl:Y3 n.id n.sz n.el n.bt=true
 tm:n.tm=T
 vo:n.vo=V
 vt:Yv n.sz n.tm n.vo=true
 lg:n.log.length<=4096
 ft:Xc n.tm 1 n.log=true
 cm:inB n.cm 0 n.log.length=true
 ck:Ya n.el n.nw n.dl n.hd=true
 ro:n.ro=0
 ld:n.ld=0
 gr:n.gr = []
 nx:n.nx = []
 mt:n.mt = []
 se:n.se = []
 st:n.st = []
theorem toutW (el dr:Int)(h1:1<=el)(h2:el<=1000):0<=J3 el dr/\J3 el dr<=2*el:=by
 rw [toutC_in dr (by rw [Zr];omega)];unfold modI;have h3:=Int.emod_nonneg dr (b:=el) (by omega);have h4:=Int.emod_lt_of_pos dr (b:=el) (by omega);omega
theorem dn0_w (l:List Int)(k n:Nat)(hn:n<=200):NdW (dn0 l k n).n (stD l k n).1 ((stD l k n).2.1%((dnH l (stD l k n).2.2.2).sz+1))/\(dn0 l k n).n.nw=0/\(dn0 l k n).n.id=(dnH l (stD l k n).2.2.2).id/\(dn0 l k n).n.sz=(dnH l (stD l k n).2.2.2).sz/\(dn0 l k n).n.el=(dnH l (stD l k n).2.2.2).el/\(dn0 l k n).n.log.length<=n:=by
 obtain ⟨t0,t1,v0,v1,vt,ln,ft⟩:=stD_wf l k n hn;obtain ⟨z1,z2,e1,e2,i1,i2⟩:=dnH_le l (stD l k n).2.2.2
 have hz:(dnH l (stD l k n).2.2.2).sz=3∨(dnH l (stD l k n).2.2.2).sz=5∨(dnH l (stD l k n).2.2.2).sz=7:=by
  have h1:=Zf l (stD l k n).2.2.2 3 (by omega);unfold dnH;dsimp only;split <;> omega
 have hb:=Zf l (dnH l (stD l k n).2.2.2).k (dnH l (stD l k n).2.2.2).el (by omega);have m0:=Int.emod_nonneg (stD l k n).2.1 (b:=((dnH l (stD l k n).2.2.2).sz:Int)+1) (by omega);have m1:=Int.emod_lt_of_pos (stD l k n).2.1 (b:=((dnH l (stD l k n).2.2.2).sz:Int)+1) (by omega);have mz:(stD l k n).1=0->(stD l k n).2.1%(((dnH l (stD l k n).2.2.2).sz:Int)+1)=0:=fun h=>by rw [vt h];exact Int.zero_emod _
 have hp:Y3 (dnH l (stD l k n).2.2.2).id (dnH l (stD l k n).2.2.2).sz (dnH l (stD l k n).2.2.2).el (1+(Z5 l (dnH l (stD l k n).2.2.2).k (dnH l (stD l k n).2.2.2).el:Nat))=true:=by
  simp only [Y3,Bool.and_eq_true,Zr];refine ⟨?_,by omega,by omega,by omega,by omega⟩;rcases hz with h | h | h <;> (rw [h];rfl)
 have hq:=toutW ((dnH l (stD l k n).2.2.2).el:Int) (Ym l ((dnH l (stD l k n).2.2.2).k+Zm (dnH l (stD l k n).2.2.2).el)) (by omega) (by omega)
 have hvb:Yv ((dnH l (stD l k n).2.2.2).sz:Int) (stD l k n).1 ((stD l k n).2.1%(((dnH l (stD l k n).2.2.2).sz:Int)+1))=true:=by
  simp only [Yv,Bool.and_eq_true,Bool.or_eq_true,Zr,beq_iff_eq,decide_eq_true_eq];refine ⟨⟨t0,t1⟩,⟨m0,by omega⟩,?_⟩;rcases Int.lt_or_eq_of_le t0 with h | h
  ·exact .inr h
  ·exact .inl (mz h.symm)
 have hnew:newB (dnH l (stD l k n).2.2.2).id (dnH l (stD l k n).2.2.2).sz (dnH l (stD l k n).2.2.2).el (1+(Z5 l (dnH l (stD l k n).2.2.2).k (dnH l (stD l k n).2.2.2).el:Nat)) (stD l k n).1 ((stD l k n).2.1%(((dnH l (stD l k n).2.2.2).sz:Int)+1)) (stD l k n).2.2.1=true:=by
  unfold newB stB;simp only [hp,ft,Bool.true_and,Bool.and_true,Bool.and_eq_true,decide_eq_true_eq];refine ⟨⟨?_,by omega⟩,by omega⟩;simp only [Z24,Bool.and_eq_true,Bool.or_eq_true,Zr,beq_iff_eq,decide_eq_true_eq];refine ⟨⟨t0,t1⟩,⟨m0,by omega⟩,?_⟩;rcases Int.lt_or_eq_of_le t0 with h | h
  ·exact .inl h
  ·exact .inr (mz h.symm)
 have hd:(dn0 l k n).n=⟨(dnH l (stD l k n).2.2.2).id,(dnH l (stD l k n).2.2.2).sz,(dnH l (stD l k n).2.2.2).el,1+(Z5 l (dnH l (stD l k n).2.2.2).k (dnH l (stD l k n).2.2.2).el:Nat),(stD l k n).1,(stD l k n).2.1%(((dnH l (stD l k n).2.2.2).sz:Int)+1),0,0,0,0,J3 (dnH l (stD l k n).2.2.2).el (Ym l ((dnH l (stD l k n).2.2.2).k+Zm (dnH l (stD l k n).2.2.2).el)),0,(stD l k n).2.2.1,[],[],[],[],[]⟩:=by
  show newN _ _ _ _ _ _ _ _=_;unfold newN;rw [if_pos hnew]
 rw [hd];refine ⟨⟨hp,rfl,rfl,hvb,by show (stD l k n).2.2.1.length<=4096;omega,ft,by rw [Zr];dsimp only;omega,?_,rfl,rfl,rfl,rfl,rfl,rfl,rfl⟩,rfl,rfl,rfl,rfl,ln⟩;simp only [Ya,Bool.and_eq_true,Zr];omega
theorem dnNow_w {d:DnS}{T V:Int}(l:List Int)(h:NdW d.n T V)(h0:d.n.nw=0):NdW (Ji l d).n T V/\0<=(Ji l d).n.nw/\(Ji l d).n.id=d.n.id/\(Ji l d).n.sz=d.n.sz/\(Ji l d).n.el=d.n.el/\(Ji l d).n.log=d.n.log:=by
 have h1:=Zf l (d.k+1+1) 2 (by omega);have h2:=Zf l d.k 40 (by omega);have hc:=h.ck;simp only [Ya,Bool.and_eq_true,Zr] at hc;unfold Ji;split
 ·refine ⟨⟨h.pl,h.tm,h.vo,h.vt,h.lg,h.ft,h.cm,?_,h.ro,h.ld,h.gr,h.nx,h.mt,h.se,h.st⟩,?_,rfl,rfl,rfl,rfl⟩
  ·simp only [Ya,Bool.and_eq_true,Zr];omega
  ·dsimp only;omega
 ·refine ⟨⟨h.pl,h.tm,h.vo,h.vt,h.lg,h.ft,h.cm,?_,h.ro,h.ld,h.gr,h.nx,h.mt,h.se,h.st⟩,?_,rfl,rfl,rfl,rfl⟩
  ·simp only [Ya,Bool.and_eq_true,Zr];omega
  ·dsimp only;omega
theorem dnDl_w {d:DnS}{T V:Int}(l:List Int)(el:Nat)(h:NdW d.n T V)(he:d.n.el=el)(he2:2<=el):NdW (Jn l el d).n T V/\(Jn l el d).n.nw=d.n.nw/\(Jn l el d).n.id=d.n.id/\(Jn l el d).n.sz=d.n.sz/\(Jn l el d).n.el=d.n.el/\(Jn l el d).n.log=d.n.log:=by
 have h1:=Zf l (d.k+Zm (2*el+1)+1) 2 (by omega);have h2:=Zf l d.k (2*el+1) (by omega);have hc:=h.ck;simp only [Ya,Bool.and_eq_true,Zr] at hc;unfold Jn;dsimp only;split
 ·refine ⟨⟨h.pl,h.tm,h.vo,h.vt,h.lg,h.ft,h.cm,?_,h.ro,h.ld,h.gr,h.nx,h.mt,h.se,h.st⟩,rfl,rfl,rfl,rfl,rfl⟩
  simp only [Ya,Bool.and_eq_true,Zr];omega
 ·refine ⟨⟨h.pl,h.tm,h.vo,h.vt,h.lg,h.ft,h.cm,?_,h.ro,h.ld,h.gr,h.nx,h.mt,h.se,h.st⟩,rfl,rfl,rfl,rfl,rfl⟩
  simp only [Ya,Bool.and_eq_true,Zr];omega
theorem dnHd_w {d:DnS}{T V:Int}(l:List Int)(el:Nat)(h:NdW d.n T V):NdW (Z04 l el d).n T V/\(Z04 l el d).n.nw=d.n.nw/\(Z04 l el d).n.id=d.n.id/\(Z04 l el d).n.sz=d.n.sz/\(Z04 l el d).n.el=d.n.el/\(Z04 l el d).n.log=d.n.log:=by
 have h2:=Zf l d.k (min d.n.nw.toNat (2*el)+1) (by omega);have hc:=h.ck;simp only [Ya,Bool.and_eq_true,Zr] at hc;unfold Z04;refine ⟨⟨h.pl,h.tm,h.vo,h.vt,h.lg,h.ft,h.cm,?_,h.ro,h.ld,h.gr,h.nx,h.mt,h.se,h.st⟩,rfl,rfl,rfl,rfl,rfl⟩;simp only [Ya,Bool.and_eq_true,Zr];omega
theorem dnCm_w {d:DnS}{T V:Int}(l:List Int)(h:NdW d.n T V):NdW (Z0n l d).n T V/\(Z0n l d).n.nw=d.n.nw/\(Z0n l d).n.id=d.n.id/\(Z0n l d).n.sz=d.n.sz/\(Z0n l d).n.el=d.n.el/\(Z0n l d).n.log=d.n.log:=by
 have h2:=Zf l d.k (d.n.log.length+1) (by omega);unfold Z0n;refine ⟨⟨h.pl,h.tm,h.vo,h.vt,h.lg,h.ft,?_,h.ck,h.ro,h.ld,h.gr,h.nx,h.mt,h.se,h.st⟩,rfl,rfl,rfl,rfl,rfl⟩;rw [Zr];dsimp only;omega
def Jp (l:List Int)(k n:Nat):DnS:=Z0n l (Z04 l (dnH l (stD l k n).2.2.2).el (Jn l (dnH l (stD l k n).2.2.2).el (Ji l (dn0 l k n))))
theorem dnPre_w (l:List Int)(k n:Nat)(hn:n<=200):NdW (Jp l k n).n (stD l k n).1 ((stD l k n).2.1%((dnH l (stD l k n).2.2.2).sz+1))/\0<=(Jp l k n).n.nw/\(Jp l k n).n.id=(dnH l (stD l k n).2.2.2).id/\(Jp l k n).n.sz=(dnH l (stD l k n).2.2.2).sz/\(Jp l k n).n.el=(dnH l (stD l k n).2.2.2).el/\(Jp l k n).n.log.length<=n:=by
 obtain ⟨a1,a2,a3,a4,a5,a6⟩:=dn0_w l k n hn;obtain ⟨b1,b2,b3,b4,b5,b6⟩:=dnNow_w l a1 a2;obtain ⟨z1,z2,e1,e2,i1,i2⟩:=dnH_le l (stD l k n).2.2.2;obtain ⟨c1,c2,c3,c4,c5,c6⟩:=dnDl_w l (dnH l (stD l k n).2.2.2).el b1 (b5.trans a5) e1;obtain ⟨d1,d2,d3,d4,d5,d6⟩:=dnHd_w l (dnH l (stD l k n).2.2.2).el c1;obtain ⟨f1,f2,f3,f4,f5,f6⟩:=dnCm_w l d1;refine ⟨f1,?_,?_,?_,?_,?_⟩
 ·unfold Jp;rw [f2,d2,c2];exact b2
 ·unfold Jp;rw [f3,d3,c3,b3];exact a3
 ·unfold Jp;rw [f4,d4,c4,b4];exact a4
 ·unfold Jp;rw [f5,d5,c5,b5];exact a5
 ·unfold Jp;rw [f6,d6,c6,b6];exact a6
theorem rise_of (most:Int):∀(l:List Int) (last:Int),l.Pairwise (· < ·)->(∀ y∈l,last<y/\y<=most)->Yx most last l=true
 | [],_,_,_=>rfl
 | x :: l,last,hp,ha=>by
  obtain ⟨p1,p2⟩:=List.pairwise_cons.1 hp;have hx:=ha x (by simp);simp only [Yx,Bool.and_eq_true,Zr];exact ⟨by omega,rise_of most l x p2 fun y hy=>⟨p1 y hy,(ha y (by simp [hy])).2⟩⟩
theorem dnGrK_ok (l:List Int)(id ex k:Nat)(hi:1<=id):∀ j,(Xw l id ⟨[],ex,k⟩ j).gr.Pairwise (· < ·)/\(∀ y∈(Xw l id ⟨[],ex,k⟩ j).gr,0<y/\y<=(j:Int))/\(id<=j->(id:Int)∈(Xw l id ⟨[],ex,k⟩ j).gr)/\(Xw l id ⟨[],ex,k⟩ j).gr.length+(Xw l id ⟨[],ex,k⟩ j).ex<=ex+(if id<=j then 1 else 0)
 | 0=>⟨List.Pairwise.nil,(fun y h=>by simp [Xw] at h),fun h=>by omega,by simp [Xw]⟩
 | j+1=>by
  obtain ⟨i1,i2,i3,i4⟩:=dnGrK_ok l id ex k hi j;rw [Xw];generalize Xw l id ⟨[],ex,k⟩ j=r at *
  have hsn:(r.gr ++ [(j:Int)+1]).Pairwise (· < ·):=by
   rw [List.pairwise_append];refine ⟨i1,List.pairwise_singleton _ _,fun a ha b hb=>?_⟩;simp only [List.mem_singleton] at hb;have:=i2 a ha;omega
  have hsm:∀ y∈r.gr ++ [(j:Int)+1],0<y/\y<=((j+1:Nat):Int):=fun y hy=>by
   rcases List.mem_append.1 hy with hy | hy
   ·have:=i2 y hy;push_cast;omega
   ·simp only [List.mem_singleton] at hy;push_cast;omega
  have hso:∀ y∈r.gr,0<y/\y<=((j+1:Nat):Int):=fun y hy=>by have:=i2 y hy;push_cast;omega
  split
  ·rename_i hj
   rw [if_neg (by omega)] at i4;refine ⟨hsn,hsm,fun _=>by simp;right;omega,?_⟩;rw [if_pos (by omega)];simp;omega
  ·rename_i hj
   have hiff:(if id<=j+1 then 1 else 0)=(if id<=j then 1 else 0):=by split <;> split <;> omega
   split
   ·rename_i hx
    split
    ·refine ⟨hsn,hsm,fun h=>List.mem_append_left _ (i3 (by omega)),?_⟩
     rw [hiff];simp;omega
    ·exact ⟨i1,hso,fun h=>i3 (by omega),by rw [hiff];exact i4⟩
   ·exact ⟨i1,hso,fun h=>i3 (by omega),by rw [hiff];exact i4⟩
theorem Z1p (a:List Int)(x:Int)(j i:Nat)(h:a.length=j):(a ++ [x]).getD i 0=if i<j then a.getD i 0 else if i=j then x else 0:=by
 subst h;simp only [List.getD_eq_getElem?_getD];split
 ·rename_i hi;rw [List.getElem?_append_left hi]
 ·rename_i hi
  rw [List.getElem?_append_right (by omega)];split
  ·rename_i he;subst he;simp
  ·rename_i he
   rw [List.getElem?_eq_none (by simp;omega)];rfl
theorem prog_snoc (id ln nw:Int)(a b c d:List Int)(x y z u:Int)(j:Nat)(ha:a.length=j)(hb:b.length=j)(hc:c.length=j)(hd:d.length=j)(h:∀ i,i<j->Yg ((i:Int)+1) id ln nw (a.getD i 0) (b.getD i 0) (c.getD i 0) (d.getD i 0)=true)(hj:Yg ((j:Int)+1) id ln nw x y z u=true):∀ i,i<j+1->Yg ((i:Int)+1) id ln nw ((a ++ [x]).getD i 0) ((b ++ [y]).getD i 0) ((c ++ [z]).getD i 0) ((d ++ [u]).getD i 0)=true:=fun i hi=>by
 rw [Z1p a x j i ha,Z1p b y j i hb,Z1p c z j i hc,Z1p d u j i hd];by_cases hlt:i<j
 ·simp only [hlt,if_true];exact h i hlt
 ·have he:i=j:=by omega
  subst he;simp only [Nat.lt_irrefl,if_true,if_false];exact hj
theorem dnRow_ok (l:List Int)(h:DnH)(LN:Nat)(nw:Int)(k:Nat)(hnw:0<=nw):∀ j,(Xj l h LN nw ⟨[],[],[],[],k⟩ j).nx.length=j/\(Xj l h LN nw ⟨[],[],[],[],k⟩ j).mt.length=j/\(Xj l h LN nw ⟨[],[],[],[],k⟩ j).se.length=j/\(Xj l h LN nw ⟨[],[],[],[],k⟩ j).st.length=j/\∀ i,i<j->Yg ((i:Int)+1) h.id LN nw ((Xj l h LN nw ⟨[],[],[],[],k⟩ j).nx.getD i 0) ((Xj l h LN nw ⟨[],[],[],[],k⟩ j).mt.getD i 0) ((Xj l h LN nw ⟨[],[],[],[],k⟩ j).se.getD i 0) ((Xj l h LN nw ⟨[],[],[],[],k⟩ j).st.getD i 0)=true
 | 0=>⟨rfl,rfl,rfl,rfl,fun i h=>by omega⟩
 | j+1=>by
  obtain ⟨i1,i2,i3,i4,i5⟩:=dnRow_ok l h LN nw k hnw j;rw [Xj];dsimp only;generalize Xj l h LN nw ⟨[],[],[],[],k⟩ j=r at *;split
  ·rename_i hj
   refine ⟨by simp [i1],by simp [i2],by simp [i3],by simp [i4],?_⟩;refine prog_snoc _ _ _ _ _ _ _ _ _ _ _ _ i1 i2 i3 i4 i5 ?_;unfold Yg;rw [if_pos (by omega)];rfl
  ·rename_i hj
   refine ⟨by simp [i1],by simp [i2],by simp [i3],by simp [i4],?_⟩;refine prog_snoc _ _ _ _ _ _ _ _ _ _ _ _ i1 i2 i3 i4 i5 ?_;have p1:=Zf l r.k (min LN 6+1) (by omega);generalize hp1:Z5 l r.k (min LN 6+1)=P1 at *;have p2:=Zf l (r.k+1) (LN+1-P1) (by omega);have p3:=Zf l (r.k+1+Zm (LN+1-P1)+1) (min nw.toNat (h.el+2)+1) (by omega);have p4:=Zf l (r.k+1+Zm (LN+1-P1)+1+Zm (min nw.toNat (h.el+2)+1)) (min nw.toNat (h.el+2)+1) (by omega);unfold Yg;rw [if_neg (by omega)];simp only [Bool.and_eq_true,Zr];refine ⟨by omega,⟨?_,?_⟩,by omega,by omega⟩
   ·split <;> omega
   ·split <;> omega
theorem dnOwn_fit (T:Int)(L:List Ent)(o:Nat)(h1:1<=T)(h2:T<=1073741824)(hf:Xc T 1 L=true):Xc T 1 (Yz T L o)=true/\(Yz T L o).length=L.length:=by
 obtain ⟨f1,f2⟩:=fit_pw T L 1 hf
 have f3:∀(L:List Ent) (low:Int),Xc T low L=true->∀ e∈L,entB e=true:=fun L=>by
  induction L with
  | nil=>intro low _ e he;cases he
  | cons x L ih=>
   intro low h e he;simp only [Xc,Bool.and_eq_true] at h;rcases List.mem_cons.1 he with rfl | he
   ·exact h.1.1
   ·exact ih _ h.2 e he
 have f4:=f3 L 1 hf;unfold Yz;refine ⟨fitL_of _ _ _ ?_ ?_,?_⟩
 ·rw [List.pairwise_append]
  refine ⟨f1.sublist (List.take_sublist _ _),?_,?_⟩
  ·rw [List.pairwise_map]
   exact List.pairwise_of_forall (fun a b=>Int.le_refl _)
  ·intro a ha b hb
   obtain ⟨c,_,rfl⟩:=List.mem_map.1 hb;exact (f2 a (List.mem_of_mem_take ha)).2
 ·intro e he
  rcases List.mem_append.1 he with he | he
  ·exact ⟨f4 e (List.mem_of_mem_take he),f2 e (List.mem_of_mem_take he)⟩
  ·obtain ⟨c,hc,rfl⟩:=List.mem_map.1 he
   have:=f4 c (List.mem_of_mem_drop hc);refine ⟨?_,h1,Int.le_refl _⟩;unfold entB at this ⊢;simp only [Bool.and_eq_true,Zr] at this ⊢;exact ⟨⟨h1,h2⟩,this.2⟩
 ·simp <;> omega
theorem dnD_ok (l:List Int)(k n:Nat)(hn:n<=200):Xt (dnD l k n).n=0:=by
 obtain ⟨hw,hnw,hid,hsz,hel,hln⟩:=dnPre_w l k n hn;obtain ⟨z1,z2,e1,e2,i1,i2⟩:=dnH_le l (stD l k n).2.2.2;obtain ⟨t0,t1,_⟩:=stD_wf l k n hn;rw [show dnD l k n=Z0s l (dnH l (stD l k n).2.2.2) (J9 l (dnH l (stD l k n).2.2.2) (Z03 l (dnH l (stD l k n).2.2.2) (stD l k n).1 (Jp l k n))) from rfl];generalize dnH l (stD l k n).2.2.2=H at *;generalize (stD l k n).1=T at *;generalize hV:(stD l k n).2.1%((H.sz:Int)+1)=V at *;generalize Jp l k n=d at *;clear hV;have hg0:Yp 0 d.n.sz d.n.id []=true:=rfl;have hl0:∀ ro:Int,ro≠3->∀(ln:Int),Yw ro d.n.sz d.n.id ln d.n.nw [] [] [] []=true:=fun ro h ln=>by unfold Yw;rw [if_neg h];rfl
 have hro0:∀ x:Int,0<=x->x<=d.n.sz->x≠d.n.id->Y8 d.n.id d.n.sz d.n.tm d.n.vo 0 x=true:=fun x h1 h2 h3=>by
  unfold Y8;simp [inB,h1,h2,h3]
 have hgr:∀ e:Nat,e<H.sz / 2->∀ k ro:Int,True:=fun _ _ _ _=>trivial
 have hpk:=hw.pl;simp only [Y3,Bool.and_eq_true,Zr] at hpk
 have hG:∀(ro:Int) (kk:Nat),ro=1∨ro=2->Yp ro d.n.sz d.n.id (Xw l H.id ⟨[],Z5 l kk (H.sz / 2),kk+1⟩ H.sz).gr=true:=fun ro kk hr=>by
  have hp:=Zf l kk (H.sz / 2) (by omega);obtain ⟨g1,g2,g3,g4⟩:=dnGrK_ok l H.id (Z5 l kk (H.sz / 2)) (kk+1) i1 H.sz;rw [if_pos i2] at g4;unfold Yp;rw [if_neg (by omega)];simp only [Bool.and_eq_true,Bool.not_eq_true'];refine ⟨rise_of _ _ _ g1 fun y hy=>by have:=g2 y hy;omega,?_,?_⟩
  ·unfold hasB;rw [List.contains_iff_mem,hid];exact g3 i2
  ·unfold majB;rw [decide_eq_false_iff_not];omega
 unfold Z03;dsimp only;by_cases q0:Z5 l d.k 8=0
 ·rw [if_pos q0]
  have m0:=Int.emod_nonneg ((H.id:Int)+(Z5 l (d.k+1) (H.sz-1):Nat)) (b:=(H.sz:Int)) (by omega);have m1:=Int.emod_lt_of_pos ((H.id:Int)+(Z5 l (d.k+1) (H.sz-1):Nat)) (b:=(H.sz:Int)) (by omega);obtain ⟨x,hx⟩:∃ x,x=1+((H.id:Int)+(Z5 l (d.k+1) (H.sz-1):Nat))%(H.sz:Int):=⟨_,rfl⟩;rw [<-hx];unfold J9;dsimp only;rw [if_neg (by rw [hw.ro];omega)];unfold Z0s;dsimp only;rw [if_neg (by rw [hw.ro];omega)];refine Z1f hw.pl hw.vt ?_ hw.lg hw.ft hw.cm hw.ck ?_ ?_
  ·dsimp only
   rw [hw.ro];split
   ·exact hro0 0 (Int.le_refl _) (by omega) (by omega)
   ·exact hro0 x (by omega) (by omega) (by omega)
  ·dsimp only;rw [hw.ro,hw.gr];rfl
  ·dsimp only;rw [hw.ro,hw.nx,hw.mt,hw.se,hw.st];exact hl0 0 (by omega) _
 ·rw [if_neg q0]
  by_cases q3:Z5 l d.k 8<3
  ·rw [if_pos q3]
   unfold J9;dsimp only;rw [if_pos (Or.inl rfl),hw.gr];unfold Z0s;dsimp only;rw [if_neg (by omega)];refine Z1f hw.pl hw.vt ?_ hw.lg hw.ft hw.cm hw.ck (hG 1 _ (Or.inl rfl)) ?_
   ·dsimp only;rw [hw.ld];unfold Y8;simp [inB];omega
   ·dsimp only;rw [hw.nx,hw.mt,hw.se,hw.st];exact hl0 1 (by omega) _
  ·rw [if_neg q3]
   by_cases hT:0<T
   ·have hT':0<d.n.tm:=by rw [hw.tm];exact hT
    have hvt:Yv d.n.sz d.n.tm (H.id:Int)=true:=by
     have:=hw.vt;unfold Yv at this ⊢;simp only [Bool.and_eq_true,Bool.or_eq_true,Zr,decide_eq_true_eq] at this ⊢;exact ⟨this.1,by omega,Or.inr hT'⟩
    by_cases q5:Z5 l d.k 8<5
    ·rw [if_pos ⟨q5,hT⟩]
     unfold J9;dsimp only;rw [if_pos (Or.inr rfl),hw.gr];unfold Z0s;dsimp only;rw [if_neg (by omega)];refine Z1f hw.pl hvt ?_ hw.lg hw.ft hw.cm hw.ck (hG 2 _ (Or.inr rfl)) ?_
     ·dsimp only;rw [hw.ld];unfold Y8;simp [inB,hT',hid];omega
     ·dsimp only;rw [hw.nx,hw.mt,hw.se,hw.st];exact hl0 2 (by omega) _
    ·rw [if_neg (fun h=>q5 h.1),if_pos ⟨by omega,hT⟩]
     unfold J9;dsimp only;rw [if_neg (by omega)];unfold Z0s;dsimp only;rw [if_pos rfl,hw.nx,hw.mt,hw.se,hw.st];obtain ⟨f1,f2⟩:=dnOwn_fit d.n.tm d.n.log (Z5 l (d.k+1) 4) (by omega) (by rw [hw.tm];exact t1) hw.ft;have hcm:=hw.cm;rw [Zr] at hcm;obtain ⟨r1,r2,r3,r4,r5⟩:=dnRow_ok l H (Yz d.n.tm d.n.log (Z5 l (d.k+1) 4)).length d.n.nw (d.k+1+1+1) hnw H.sz;refine Z1f hw.pl hvt ?_ (by dsimp only;rw [f2];exact hw.lg) f1 ?_ hw.ck ?_ ?_
     ·dsimp only;unfold Y8;simp [inB,hT',hid];omega
     ·dsimp only;rw [Zr,f2];split <;> omega
     ·dsimp only;rw [hw.gr];rfl
     ·dsimp only
      unfold Yw;rw [if_pos rfl,Bool.and_eq_true,Xz];refine ⟨⟨by omega,by omega,by omega,by omega⟩,?_⟩;unfold Yt;rw [List.all_eq_true];intro i hi;rw [List.mem_range'_1] at hi;rw [hid];exact r5 i (by omega)
   ·rw [if_neg (fun h=>hT h.2),if_neg (fun h=>hT h.2)]
    unfold J9;dsimp only;rw [if_neg (by rw [hw.ro];omega)];unfold Z0s;dsimp only;rw [if_neg (by rw [hw.ro];omega)];refine Z1f hw.pl hw.vt ?_ hw.lg hw.ft hw.cm hw.ck ?_ ?_
    ·dsimp only;rw [hw.ro,hw.ld];exact hro0 0 (Int.le_refl _) (by omega) (by omega)
    ·dsimp only;rw [hw.ro,hw.gr];rfl
    ·dsimp only;rw [hw.ro,hw.nx,hw.mt,hw.se,hw.st];exact hl0 0 (by omega) _
theorem nodeN_terms (n:Nd)(h:Xt n=0):∀ e∈n.log,0<=e.t/\e.t<=1073741824:=by
 have ht:=(Jy n h).2.2.1;unfold Xt Yu at h;split at h
 ·simp at h
 split at h
 ·simp at h
 split at h
 ·simp at h
 split at h
 ·simp at h
 rename_i h4;split at h
 ·simp at h
 rename_i h5;have k5:Xc n.tm 1 n.log=true:=by simpa using h5
 obtain ⟨h1,h2⟩:=fit_pw n.tm n.log 1 k5;intro e he;have:=h2 e he;omega
theorem ownI_at {w:World}{B:Nat}{v:Value}{l:List Int}(h:Zs inC 1 3 w B v l)(hl:l.length<=1048576){j:Nat}(hj:j<l.length):∃ q c,v=.slice (some ⟨q,0,none⟩) l.length c/\B<=q/\q<w.heap.size/\w.cell? ⟨q,j,none⟩=some (.int .i64 (l.getD j 0)):=by
 obtain ⟨q,c,hv⟩:=h.shape' (by omega);have hlt:=h.lts q (by rw [hv];rfl);have hx:Ix w v l:=Z0h (h.sl Jh (by unfold maxLen;omega));rw [hv] at hx;obtain ⟨b,off,e,hc⟩:=ix_at hx j hj;injection e with e;injection e with e1 e2;subst e1;subst e2;refine ⟨q,c,hv,hlt.1,hlt.2,?_⟩;rw [Nat.zero_add] at hc;rw [hc,Z1o hj]
theorem DfE.of {w:World}{B g:Nat}{n:Nd}{x:RV}(hO:NdO w B n x)(h0:Xt n=0)(hg:g<B):DfE w g n x:=by
 obtain ⟨hb,t0,t1,ho,hgl,hcm,hgr,hl⟩:=Jy n h0;have hlen:=(Z1i n h0).2;have hz1:=hb.sz1;have hz0:=hb.sz0;have hi0:=hb.id0;have hi1:=hb.id1;refine ⟨by omega,by omega,⟨t0,t1⟩,hlen,hO.log.shape,?_,nodeN_terms n h0,?_⟩
 ·intro hpos
  obtain ⟨a,c,hv⟩:=hO.log.shape;obtain ⟨q,hq,_,_⟩:=Z0u (k:=0) (by have h9:=hO.log;rw [hv] at h9;exact h9) rfl hpos (by unfold maxLen;omega);subst hq;have hlt:=World.ownsRow.lt hO.log.2 q (by rw [hv];rfl);refine ⟨q,c,hv,hlt.2,by omega,?_,hO.log.1⟩;intro j hj;obtain ⟨q2,hq2,hE,_⟩:=Z0u (k:=j) (by have h9:=hO.log;rw [hv] at h9;exact h9) rfl hj (by unfold maxLen;omega);injection hq2 with hq2;injection hq2 with hq2;subst hq2;exact hE
 ·intro hro j hj
  have hl2:=hl;unfold Yw at hl;rw [if_pos hro,Bool.and_eq_true,Xz] at hl;obtain ⟨⟨e1,e2,e3,e4⟩,hp⟩:=hl;have h9:=progs_at hp j (by omega)
  have hbd:0<=n.nx.getD j 0/\n.nx.getD j 0<=5000:=by
   unfold Yg at h9;split at h9
   ·simp only [Bool.and_eq_true,beq_iff_eq] at h9
    omega
   ·simp only [Bool.and_eq_true,Zr] at h9
    omega
  have hjl:j<n.nx.length:=by omega
  obtain ⟨q,c,hv,h1,h2,h3⟩:=ownI_at hO.nx (by omega) hjl;exact ⟨hjl,hbd,q,c,hv,h2,by omega,h3⟩
theorem DfE.leader {w:World}{g:Nat}{n:Nd}{x:RV}(h:DfE w g n x)(y:Int):DfE w g { n with ld:=y } x:=
 ⟨h.sz,h.id,h.tm,h.lg,h.vl,fun hp=>by obtain ⟨q,c,hQ⟩:=h.lq hp;exact ⟨q,c,hQ.vl,hQ.lt,hQ.ne,hQ.ent,hQ.fit⟩,h.lt,h.nx⟩
def dfRest (l:List Int)(n:Nd)(H:FmS):FmS:=
 if H.m.ki=6 then dfRep l (H.k+1+1) n H.m (Yn l H.k n)
 else if H.m.ki=2∨H.m.ki=4 then ⟨H.m,H.k+1+1⟩
 else if H.m.ki=5 then
  dfAp l (Jl l (J5 l (H.k+1+1) n H.m.ki (Yn l H.k n)).2.2 n (J5 l (H.k+1+1) n H.m.ki (Yn l H.k n)).2.1 H.m.tm H.m.lt).2 n (J5 l (H.k+1+1) n H.m.ki (Yn l H.k n)).1 { H.m with li:=(J5 l (H.k+1+1) n H.m.ki (Yn l H.k n)).2.1,lt:=(Jl l (J5 l (H.k+1+1) n H.m.ki (Yn l H.k n)).2.2 n (J5 l (H.k+1+1) n H.m.ki (Yn l H.k n)).2.1 H.m.tm H.m.lt).1 } (J5 l (H.k+1+1) n H.m.ki (Yn l H.k n)).2.1.toNat
 else
  ⟨{ H.m with li:=(J5 l (H.k+1+1) n H.m.ki (Yn l H.k n)).2.1,lt:=(Jl l (J5 l (H.k+1+1) n H.m.ki (Yn l H.k n)).2.2 n (J5 l (H.k+1+1) n H.m.ki (Yn l H.k n)).2.1 H.m.tm H.m.lt).1,es:=[] },(Jl l (J5 l (H.k+1+1) n H.m.ki (Yn l H.k n)).2.2 n (J5 l (H.k+1+1) n H.m.ki (Yn l H.k n)).2.1 H.m.tm H.m.lt).2⟩
def dfX (l:List Int)(k:Nat)(n:Nd):FmS:=
 if Z5 l (Xi l k).k 14=0 then ⟨mgOf (Xi l k),(Xi l k).k+1⟩ else dfRest l n (Z09 l ((Xi l k).k+1) n (mgOf (Xi l k)))
theorem dfFrom_ok (l:List Int)(k:Nat)(n:Nd)(hs:3<=n.sz/\n.sz<=7):1<=Z0j l k n/\Z0j l k n<=n.sz:=by
 have h1:=Int.emod_nonneg (n.id+(Z5 l k (n.sz.toNat-1):Nat)) (show n.sz≠0 by omega);have h2:=Int.emod_lt_of_pos (n.id+(Z5 l k (n.sz.toNat-1):Nat)) (show 0<n.sz by omega);have h3:=Int.emod_nonneg n.id (show n.sz≠0 by omega);have h4:=Int.emod_lt_of_pos n.id (show 0<n.sz by omega);unfold Z0j;simp only [];split <;> omega
theorem dfHead_ok (l:List Int)(k:Nat)(n:Nd)(m:Mg):(1<=(Z09 l k n m).m.tm/\(Z09 l k n m).m.tm<=1073741824)/\(Z09 l k n m).m.lt=0/\(Z09 l k n m).m.fr=Z0j l k n:=by
 refine ⟨?_,rfl,rfl⟩;show 1<=min (max _ 1) 1073741824/\min (max _ 1) 1073741824<=1073741824;omega
theorem Z3p (l:List Int)(k:Nat)(n:Nd):0<=Yn l k n/\Yn l k n<=4096:=by
 unfold Yn;omega
section
variable {w0:World} {g b3 b4 b5:Nat} {v:Value} {l:List Int} {n:Nd} {xr:RV} {m:Mg} {ve:Value} {k:Nat} {Q:Exit->Act->World->Prop} {a:Act} {w:World}
theorem dfRestW {H:FmS}(hL:l.length<=1048576)(hk:H.k<=490000000)(hE:DfE w0 g n xr)(htm:1<=H.m.tm/\H.m.tm<=1073741824)(hlt:H.m.lt=0)(hfr:1<=H.m.fr/\H.m.fr<=n.sz)(hF:Yb g b3 b4 b5 a)(h9:a.eval (.tmp 9)=.int .i64 (Yn l H.k n))(hS:FS w0 w g v l b3 b4 b5 n xr (H.k+1+1) H.m ve)(hR:∀ a' w' ve',SzD a' 343->a'.eval (.tmp 4)=.pointer (some ⟨b4,0,none⟩)->FR w0 w' g v l b4 (dfRest l n H).k (dfRest l n H).m ve'->Q .ret a' w'):(Z2 18 (Z3 Tryz.f54)).wp Tryz.prog Q a w:=by
 have hpl:=Z3p l H.k n;have hoo:=dfOth_ok l (H.k+1+1) n H.m.ki (Yn l H.k n) hpl hE.lg;have hlo:=dfLogG_ok l (J5 l (H.k+1+1) n H.m.ki (Yn l H.k n)).2.2 n (J5 l (H.k+1+1) n H.m.ki (Yn l H.k n)).2.1 H.m.tm H.m.lt htm (by omega) hE.term;unfold dfRest at hR;refine dfB18 hL (by omega) hE hfr hF h9 hS (fun h6=>?_) (fun h6 a1 w1 F1 c1 s1=>?_)
 ·rw [if_pos h6] at hR
  exact hR
 rw [if_neg h6] at hR;refine dfB19 F1 c1 s1 (fun h2=>?_) (fun h2 a2 w2 F2 c2 s2=>?_)
 ·rw [if_pos h2] at hR
  exact hR
 rw [if_neg h2] at hR;refine dfB20 hL (by omega) hE F2 c2 s2 fun a3 w3 F3 c3 d3 s3=>?_
 generalize hO:J5 l (H.k+1+1) n H.m.ki (Yn l H.k n)=OT at *;refine dfB22 hL (by omega) hE htm F3 c3 d3 s3 fun a4 w4 F4 c4 d4 s4=>?_
 generalize hG:Jl l OT.2.2 n OT.2.1 H.m.tm H.m.lt=LG at *;refine dfB24 F4 c4 d4 s4 (fun h5=>?_) (fun h5 a5 w5 F5 c5 d5 s5=>?_)
 ·rw [if_neg h5] at hR
  exact hR
 ·rw [if_pos (show H.m.ki=5 from h5)] at hR
  have hP0:((OT.2.1.toNat:Nat):Int)=OT.2.1:=by omega
  rw [<-hP0] at c5;exact dfB25 (m:={ H.m with li:=OT.2.1,lt:=LG.1 }) hL (by omega) hE (by omega) htm (show 0<=LG.1/\LG.1<=1073741824 by omega) F5 c5 d5 s5 hR
end
theorem df0 {g B:Nat}{n:Nd}{xr:RV}{Q:Exit->Act->World->Prop}{K:Act->World->Prop}{a:Act}{w:World}(hF:SzD a 343)(h0:a.eval (.tmp 0)=.pointer (some ⟨g,0,none⟩))(h1:a.eval (.tmp 1)=.agg (ndC n xr))(hO:NdO w B n xr)(hP:∀ a' w',SzD a' 343->a'.eval (.tmp 0)=.pointer (some ⟨g,0,none⟩)->a'.eval (.tmp 3)=.pointer (some ⟨w.heap.size,0,none⟩)->a'.eval (.tmp 4)=.pointer (some ⟨w.heap.size+1,0,none⟩)->w'=(w.alloc (.cells (ndC n xr) 36)).alloc (.cells Z0d 43)->K a' w'):(Z1 0 (Z3 Tryz.f54)).wp Tryz.prog (Exit.then K Q) a w:=by
 obtain ⟨t,rfl⟩:=hF.opened;clear hF;rw [show lst t 0 343 = [t 0,t 1,t 2,t 3,t 4,t 5,t 6,t 7,t 8,t 9,t 10,t 11,t 12,t 13,t 14,t 15,t 16,t 17,t 18,t 19,t 20,t 21,t 22,t 23,t 24,t 25,t 26,t 27,t 28,t 29,t 30,t 31,t 32,t 33,t 34,t 35,t 36,t 37,t 38,t 39,t 40,t 41,t 42,t 43,t 44,t 45,t 46,t 47,t 48,t 49,t 50,t 51,t 52,t 53,t 54,t 55,t 56,t 57,t 58,t 59,t 60,t 61,t 62,t 63,t 64,t 65,t 66,t 67,t 68,t 69,t 70,t 71,t 72,t 73,t 74,t 75,t 76,t 77,t 78,t 79,t 80,t 81,t 82,t 83,t 84,t 85,t 86,t 87,t 88,t 89,t 90,t 91,t 92,t 93,t 94,t 95,t 96,t 97,t 98,t 99,t 100,t 101,t 102,t 103,t 104,t 105,t 106,t 107,t 108,t 109,t 110,t 111,t 112,t 113,t 114,t 115,t 116,t 117,t 118,t 119,t 120,t 121,t 122,t 123,t 124,t 125,t 126,t 127,t 128,t 129,t 130,t 131,t 132,t 133,t 134,t 135,t 136,t 137,t 138,t 139,t 140,t 141,t 142,t 143,t 144,t 145,t 146,t 147,t 148,t 149,t 150,t 151,t 152,t 153,t 154,t 155,t 156,t 157,t 158,t 159,t 160,t 161,t 162,t 163,t 164,t 165,t 166,t 167,t 168,t 169,t 170,t 171,t 172,t 173,t 174,t 175,t 176,t 177,t 178,t 179,t 180,t 181,t 182,t 183,t 184,t 185,t 186,t 187,t 188,t 189,t 190,t 191,t 192,t 193,t 194,t 195,t 196,t 197,t 198,t 199,t 200,t 201,t 202,t 203,t 204,t 205,t 206,t 207,t 208,t 209,t 210,t 211,t 212,t 213,t 214,t 215,t 216,t 217,t 218,t 219,t 220,t 221,t 222,t 223,t 224,t 225,t 226,t 227,t 228,t 229,t 230,t 231,t 232,t 233,t 234,t 235,t 236,t 237,t 238,t 239,t 240,t 241,t 242,t 243,t 244,t 245,t 246,t 247,t 248,t 249,t 250,t 251,t 252,t 253,t 254,t 255,t 256,t 257,t 258,t 259,t 260,t 261,t 262,t 263,t 264,t 265,t 266,t 267,t 268,t 269,t 270,t 271,t 272,t 273,t 274,t 275,t 276,t 277,t 278,t 279,t 280,t 281,t 282,t 283,t 284,t 285,t 286,t 287,t 288,t 289,t 290,t 291,t 292,t 293,t 294,t 295,t 296,t 297,t 298,t 299,t 300,t 301,t 302,t 303,t 304,t 305,t 306,t 307,t 308,t 309,t 310,t 311,t 312,t 313,t 314,t 315,t 316,t 317,t 318,t 319,t 320,t 321,t 322,t 323,t 324,t 325,t 326,t 327,t 328,t 329,t 330,t 331,t 332,t 333,t 334,t 335,t 336,t 337,t 338,t 339,t 340,t 341,t 342] from rfl]
 try dsimp only
 rw [show t 0=.pointer (some ⟨g,0,none⟩) from h0];rw [show t 1=.agg (ndC n xr) from h1];clear h0 h1;obtain ⟨a1,c1,e1⟩:=hO.log.shape;obtain ⟨a2,c2,e2⟩:=hO.gr.shape;obtain ⟨a3,c3,e3⟩:=hO.nx.shape;obtain ⟨a4,c4,e4⟩:=hO.mt.shape;obtain ⟨a5,c5,e5⟩:=hO.se.shape;obtain ⟨a6,c6,e6⟩:=hO.st.shape;have e:ndC n xr=#[.int .i64 n.id,.int .i64 n.sz,.int .i64 n.el,.int .i64 n.bt,.int .i64 n.tm,.int .i64 n.vo,.int .i64 n.ro,.int .i64 n.ld,.int .i64 n.cm,.int .i64 n.nw,.int .i64 n.dl,.int .i64 n.hd,.slice a1 n.log.length c1,.slice a2 n.gr.length c2,.slice a3 n.nx.length c3,.slice a4 n.mt.length c4,.slice a5 n.se.length c5,.slice a6 n.st.length c6]:=by unfold ndC;rw [e1,e2,e3,e4,e5,e6]
 rw [e] at hP ⊢;clear e e1 e2 e3 e4 e5 e6 hO;unfold Z0d msV mg0 at hP
 conv=>arg 2;whnf
 go_wp2_with fail
 exact hP _ _ ⟨rfl,rfl⟩ rfl rfl rfl rfl
theorem df1 {g K1:Nat}{e3 e4 v:Value}{l:List Int}{M:Mg}{Q:Exit->Act->World->Prop}{K:Act->World->Prop}{a:Act}{w:World}(hF:SzD a 343)(h0:a.eval (.tmp 0)=.pointer (some ⟨g,0,none⟩))(h3:a.eval (.tmp 3)=e3)(h4:a.eval (.tmp 4)=e4)(HDM:Hid (Calls Tryz.prog 95 #[.pointer (some ⟨g,0,none⟩)] w fun r w'=>∃ ea ec,r=.returned (.agg (msV M (.slice ea M.es.length ec)))/\Zv w' w.heap.size (.slice ea M.es.length ec) M.es/\Src w' g v l K1/\w.grownBy w' (some g)))(hP:∀ a' w' ve' w4,SzD a' 343->a'.eval (.tmp 0)=.pointer (some ⟨g,0,none⟩)->a'.eval (.tmp 3)=e3->a'.eval (.tmp 4)=e4->a'.eval (.tmp 5)=.pointer (some ⟨w4.heap.size,0,none⟩)->w'=w4.alloc (.cells (msV M ve') 43)->Zv w4 w.heap.size ve' M.es->Src w4 g v l K1->w.grownBy w4 (some g)->K a' w'):(Z1 1 (Z3 Tryz.f54)).wp Tryz.prog (Exit.then K Q) a w:=by
 obtain ⟨t,rfl⟩:=hF.opened;clear hF;rw [show lst t 0 343 = [t 0,t 1,t 2,t 3,t 4,t 5,t 6,t 7,t 8,t 9,t 10,t 11,t 12,t 13,t 14,t 15,t 16,t 17,t 18,t 19,t 20,t 21,t 22,t 23,t 24,t 25,t 26,t 27,t 28,t 29,t 30,t 31,t 32,t 33,t 34,t 35,t 36,t 37,t 38,t 39,t 40,t 41,t 42,t 43,t 44,t 45,t 46,t 47,t 48,t 49,t 50,t 51,t 52,t 53,t 54,t 55,t 56,t 57,t 58,t 59,t 60,t 61,t 62,t 63,t 64,t 65,t 66,t 67,t 68,t 69,t 70,t 71,t 72,t 73,t 74,t 75,t 76,t 77,t 78,t 79,t 80,t 81,t 82,t 83,t 84,t 85,t 86,t 87,t 88,t 89,t 90,t 91,t 92,t 93,t 94,t 95,t 96,t 97,t 98,t 99,t 100,t 101,t 102,t 103,t 104,t 105,t 106,t 107,t 108,t 109,t 110,t 111,t 112,t 113,t 114,t 115,t 116,t 117,t 118,t 119,t 120,t 121,t 122,t 123,t 124,t 125,t 126,t 127,t 128,t 129,t 130,t 131,t 132,t 133,t 134,t 135,t 136,t 137,t 138,t 139,t 140,t 141,t 142,t 143,t 144,t 145,t 146,t 147,t 148,t 149,t 150,t 151,t 152,t 153,t 154,t 155,t 156,t 157,t 158,t 159,t 160,t 161,t 162,t 163,t 164,t 165,t 166,t 167,t 168,t 169,t 170,t 171,t 172,t 173,t 174,t 175,t 176,t 177,t 178,t 179,t 180,t 181,t 182,t 183,t 184,t 185,t 186,t 187,t 188,t 189,t 190,t 191,t 192,t 193,t 194,t 195,t 196,t 197,t 198,t 199,t 200,t 201,t 202,t 203,t 204,t 205,t 206,t 207,t 208,t 209,t 210,t 211,t 212,t 213,t 214,t 215,t 216,t 217,t 218,t 219,t 220,t 221,t 222,t 223,t 224,t 225,t 226,t 227,t 228,t 229,t 230,t 231,t 232,t 233,t 234,t 235,t 236,t 237,t 238,t 239,t 240,t 241,t 242,t 243,t 244,t 245,t 246,t 247,t 248,t 249,t 250,t 251,t 252,t 253,t 254,t 255,t 256,t 257,t 258,t 259,t 260,t 261,t 262,t 263,t 264,t 265,t 266,t 267,t 268,t 269,t 270,t 271,t 272,t 273,t 274,t 275,t 276,t 277,t 278,t 279,t 280,t 281,t 282,t 283,t 284,t 285,t 286,t 287,t 288,t 289,t 290,t 291,t 292,t 293,t 294,t 295,t 296,t 297,t 298,t 299,t 300,t 301,t 302,t 303,t 304,t 305,t 306,t 307,t 308,t 309,t 310,t 311,t 312,t 313,t 314,t 315,t 316,t 317,t 318,t 319,t 320,t 321,t 322,t 323,t 324,t 325,t 326,t 327,t 328,t 329,t 330,t 331,t 332,t 333,t 334,t 335,t 336,t 337,t 338,t 339,t 340,t 341,t 342] from rfl]
 try dsimp only
 rw [show t 0=.pointer (some ⟨g,0,none⟩) from h0];rw [show t 3=e3 from h3];rw [show t 4=e4 from h4];clear h0 h3 h4
 conv=>arg 2;whnf
 go_wp2_with (first
  |(go_at_call 95;go_loud (refine HDM.out.mono ?_;rintro r w2 ⟨ea,ec,rfl,ho2,hs2,hg2⟩;have HO2:Hid (Zv w2 w.heap.size (.slice ea M.es.length ec) M.es):=ho2;have HS2:Hid (Src w2 g v l K1):=hs2;have HG2:Hid (w.grownBy w2 (some g)):=hg2;have HC1:Hid ((msV M (.slice ea M.es.length ec)).all (·.oneCell')=true):=(by unfold Hid msV;simp [Value.oneCell']);clear ho2 hs2 hg2))
  |(refine Y2 43 (.tmp 5) _ rfl ?_;go_loud (refine Zz rfl 43 (.tmp 5) _ rfl (w2.heap.size) rfl rfl rfl Ys rfl rfl HC1.out ?_)))
 exact hP _ _ (.slice ea M.es.length ec) w2 ⟨rfl,rfl⟩ rfl rfl rfl rfl rfl HO2.out HS2.out HG2.out
theorem l4drawFor_any (g:Nat)(w:World)(v:Value)(l:List Int)(k B:Nat)(n:Nd)(x:RV)(hL:l.length<=1048576)(hk:k<=400000000)(hs:Src w g v l k)(hO:NdO w B n x)(hE:DfE w g n x) :
  Calls Tryz.prog 54 #[.pointer (some ⟨g,0,none⟩),.agg (ndC n x)] w fun r w'=>∃ ve,r=.returned (.agg (msV (dfX l k n).m ve))/\Zv w' w.heap.size ve (dfX l k n).m.es/\Src w' g v l (dfX l k n).k/\w.grownBy w' (some g):=by
 have hmk:=(msgD_ok l k).2.2.2.2.2;obtain ⟨W,hW⟩:∃ W,W=(w.alloc (.cells (ndC n x) 36)).alloc (.cells Z0d 43):=⟨_,rfl⟩
 have HD:Hid (Dr w W g v l k [(w.heap.size,ndC n x,36),(w.heap.size+1,Z0d,43)]):=by
  unfold Hid;rw [hW];have h1:=(Dr.start hs).new (ndC n x) 36 hO.one.2;have h2:=h1.new Z0d 43 (Yd rfl);simpa using h2
 have HMs:Hid (Calls Tryz.prog 95 #[.pointer (some ⟨g,0,none⟩)] W fun r w'=>∃ ea ec,r=.returned (.agg (msV (mgOf (Xi l k)) (.slice ea (mgOf (Xi l k)).es.length ec)))/\Zv w' W.heap.size (.slice ea (mgOf (Xi l k)).es.length ec) (mgOf (Xi l k)).es/\Src w' g v l (Xi l k).k/\W.grownBy w' (some g)):=l1drawMsg_any g W v l k hL (by omega) HD.out.src;obtain ⟨R,hR⟩:∃ R,R=dfX l k n:=⟨_,rfl⟩;rw [<-hR];have HR:Hid (R=dfX l k n):=hR;have HO:Hid (NdO w B n x):=hO;have HE:Hid (DfE w g n x):=hE;clear hR hO hE hs;go_enter Tryz.func54,Tryz.ntmps54;show (Z3 Tryz.f54).wp Tryz.prog _ _ _;rw [show Z3 Tryz.f54=.seq (Z1 0 (Z3 Tryz.f54)) (.seq (Z1 1 (Z3 Tryz.f54)) (.seq (Z1 2 (Z3 Tryz.f54)) (Z2 3 (Z3 Tryz.f54)))) from rfl];refine wp_seq_k ?_;intro K1 hK1;refine df0 ⟨rfl,rfl⟩ rfl rfl HO.out fun a1 w1 f1 p1 q1 r1 e1=>hK1 _ _ ?_
 have e2:w1=W:=by rw [e1,hW]
 subst e2;refine wp_seq_k ?_;intro K2 hK2;refine df1 f1 p1 q1 r1 HMs fun a2 w2 ve2 w4 f2 p2 q2 r2 t2 e2 o2 s2 g2=>hK2 _ _ ?_
 subst e2
 have hS:FS w (w4.alloc (.cells (msV (mgOf (Xi l k)) ve2) 43)) g v l w.heap.size (w.heap.size+1) w4.heap.size n x (Xi l k).k (mgOf (Xi l k)) ve2:=by
  have h1:=HD.out.call s2 g2;have hn:NoU8 (msV (mgOf (Xi l k)) ve2):=by obtain ⟨a,c,hv⟩:=o2.shape;unfold msV;rw [hv];exact Yd rfl
  exact ⟨h1.new _ _ hn,(o2.le HD.out.size).below ((Below.refl _ _).alloc (Nat.le_refl _) _)⟩
 have F2:Yb g w.heap.size (w.heap.size+1) w4.heap.size a2:=⟨f2,p2,q2,r2,t2⟩;refine wp_seq_k ?_;intro K3 hK3;rw [show Z1 2 (Z3 Tryz.f54)=.seq (Z1 0 (Z1 2 (Z3 Tryz.f54))) (.cond (.tmp 19) (Zj (Z2 1 (Z1 2 (Z3 Tryz.f54)))) .skip) from rfl];refine wp_seq_k ?_;intro K4 hK4;refine df2 hL (by omega) F2.sz F2.e0 F2.e3 F2.e4 F2.e5 hS fun a3 w3 f3 p3 q3 r3 t3 u3 s3=>hK4 _ _ ?_
 have F3:Yb g w.heap.size (w.heap.size+1) w4.heap.size a3:=⟨f3,p3,q3,r3,t3⟩;refine wp_cond u3 ?_;have hH:=HR.out;unfold dfX at hH;by_cases h14:Z5 l (Xi l k).k 14=0
 ·rw [if_pos h14] at hH
  subst hH;rw [if_pos (by simp [h14])];rw [show Zj (Z2 1 (Z1 2 (Z3 Tryz.f54)))=.seq (Z1 0 (Zj (Z2 1 (Z1 2 (Z3 Tryz.f54))))) .ret from rfl];refine wp_seq_k ?_;intro K5 hK5;refine df3 F3.sz F3.e4 F3.e5 s3 fun a' w' f' e' s'=>hK5 _ _ (wp_ret ?_)
  obtain ⟨t,rfl⟩:=f'.opened;dsimp only [Exit.then];exact bodyPost_ret (Y9 Tryz.results54 e' s'.rb Tryz.underlying43 rfl Ys rfl) rfl ⟨_,rfl,s'.es,s'.src,s'.grown⟩
 ·rw [if_neg h14] at hH
  rw [if_neg (by simp [h14])];refine wp_skip (hK3 _ _ ?_);have hok:=dfHead_ok l ((Xi l k).k+1) n (mgOf (Xi l k));have hkk:=dfHead_k l ((Xi l k).k+1) n (mgOf (Xi l k));have hff:=dfFrom_ok l ((Xi l k).k+1) n HE.out.sz;refine dfHeadW hL (by omega) HE.out F3 s3 fun a5 w5 ve5 F5 c5 s5=>?_
  refine dfRestW hL (by omega) HE.out hok.1 hok.2.1 (by rw [hok.2.2];exact hff) F5 c5 s5 ?_;intro a' w' ve' f' e' s';rw [<-hH] at s';obtain ⟨t,rfl⟩:=f'.opened;exact bodyPost_ret (Y9 Tryz.results54 e' s'.rb Tryz.underlying43 rfl Ys rfl) rfl ⟨_,rfl,s'.es,s'.src,s'.grown⟩
theorem dnRow_k0 (l:List Int)(a b i k q:Nat)(LN:Nat)(nw:Int)(s:DnR):∀ j,Xj l ⟨a,b,i,k⟩ LN nw s j=Xj l ⟨a,b,i,q⟩ LN nw s j
 | 0=>rfl
 | j+1=>by rw [Z26,Z26,dnRow_k0 l a b i k q LN nw s j];rfl
theorem dnLd_k0 (l:List Int)(a b i k q:Nat)(d:DnS):Z0s l ⟨a,b,i,k⟩ d=Z0s l ⟨a,b,i,q⟩ d:=by
 unfold Z0s;dsimp only;rw [dnRow_k0 l a b i k q]
theorem Z3j (g:Nat)(w:World)(v:Value)(l:List Int)(k n:Nat)(hL:l.length<=1048576)(hk:k<=300000000)(hn:n<=200)(h:Src w g v l k) :
  Calls Tryz.prog 51 #[.pointer (some ⟨g,0,none⟩),.int .i64 n] w fun r w'=>∃ x,r=.returned (.agg (ndC (dnD l k n).n x))/\NdO w' w.heap.size (dnD l k n).n x/\Src w' g v l (dnD l k n).k/\w.grownBy w' (some g):=by
 have hg0:g<w.heap.size:=h.lt;have hv0:=stD_v l k n;have hl0:=stD_len l k n;obtain ⟨W,hW⟩:∃ W,W=w.alloc (.cells Jr 36):=⟨_,rfl⟩
 have HD0:Hid (Dr w W g v l k [(w.heap.size,Jr,36)]):=by
  unfold Hid;rw [hW];have hX:=(Dr.start h).new Jr 36 (Yd rfl);simpa using hX
 have hkk:(stD l k n).2.2.2<=600000000:=by have:=stD_k l k n;omega
 generalize hR:dnD l k n=R;have HR:Hid (dnD l k n=R):=hR;clear hR h;obtain ⟨T,hT⟩:∃ T,T=(stD l k n).1:=⟨_,rfl⟩;obtain ⟨V,hV⟩:∃ V,V=(stD l k n).2.1:=⟨_,rfl⟩;obtain ⟨LG,hLG⟩:∃ LG,LG=(stD l k n).2.2.1:=⟨_,rfl⟩;obtain ⟨k1,hk1⟩:∃ k1,k1=(stD l k n).2.2.2:=⟨_,rfl⟩;have HN:Hid (T=(stD l k n).1/\V=(stD l k n).2.1/\LG=(stD l k n).2.2.1/\k1=(stD l k n).2.2.2):=⟨hT,hV,hLG,hk1⟩;rw [<-hV] at hv0;rw [<-hLG] at hl0;rw [<-hk1] at hkk
 have HST:Hid (∀ z,Src z g v l k->Calls Tryz.prog 92 #[.pointer (some ⟨g,0,none⟩),.int .i64 n] z fun r w'=>∃ ea ec,r=.returned (.agg #[.int .i64 T,.int .i64 V,.slice ea LG.length ec])/\Zv w' z.heap.size (.slice ea LG.length ec) LG/\Src w' g v l k1/\z.grownBy w' (some g)):=fun z hz=>by
  have h9:=Z2x g z v l k n hL (by omega) hn hz;rw [<-hT,<-hV,<-hLG,<-hk1] at h9;exact h9
 clear hT hV hLG hk1;obtain ⟨SZ,hSZ⟩:∃ SZ,SZ=(dnH l k1).sz:=⟨_,rfl⟩;have HSZ:Hid (SZ=if Z5 l (k1+1) 2=0 then 3 else 3+2*Z5 l k1 3):=hSZ;clear hSZ;go_enter Tryz.func51,Tryz.ntmps51
 go_upto_region 1 with fail
 rw [show w.alloc (.cells #[.int .i64 0,.int .i64 0,.int .i64 0,.int .i64 0,.int .i64 0,.int .i64 0,.int .i64 0,.int .i64 0,.int .i64 0,.int .i64 0,.int .i64 0,.int .i64 0,.slice none 0 0,.slice none 0 0,.slice none 0 0,.slice none 0 0,.slice none 0 0,.slice none 0 0] 36)=W from hW.symm];have hzW:W.heap.size=w.heap.size+1:=by rw [hW];simp
 clear hW;obtain ⟨p3,hp3⟩:∃ p,p=Z5 l k1 3:=⟨_,rfl⟩;obtain ⟨p2,hp2⟩:∃ p,p=Z5 l (k1+1) 2:=⟨_,rfl⟩;have HP3:Hid (p3=Z5 l k1 3):=hp3;have HP2:Hid (p2=Z5 l (k1+1) 2):=hp2;have HSz:Hid (SZ=if p2=0 then 3 else 3+2*p3):=by rw [hp2,hp3];exact HSZ.out
 have b3:p3<3:=by rw [hp3];exact Zf _ _ _ (by omega)
 have b2:p2<2:=by rw [hp2];exact Zf _ _ _ (by omega)
 clear hp2 hp3 HSZ;have g1:Hid True:=trivial
 go_upto_if 30 with (first
  |(go_at_call 92;go_loud (refine (HST.out _ HD0.out.src).mono ?_);rintro r w1 ⟨ea,ec,rfl,ho,hs,hg⟩;go_loud (have HDL:Hid (DL w (w1.alloc (.cells #[.int .i64 T,.int .i64 V,.slice ea LG.length ec] 104)) g v l k1 [(w.heap.size,Jr,36),(w1.heap.size,stC T V ea LG.length ec,104)] (.slice ea LG.length ec) LG):=⟨(by have hX:=(HD0.out.call hs hg).new (stC T V ea LG.length ec) 104 (Yd rfl);exact hX),(ho.le (by omega)).below ((Below.refl _ _).alloc (Nat.le_refl _) _)⟩);clear ho hs hg)
  |(go_at_call 53;clear g1;go_loud (refine (HDL.out.pick 3 hL (by omega) (by omega) (by omega)).mono ?_;rw [<-HP3.out];rintro r w2 ⟨rfl,hd⟩;have HD2:Hid (DL w w2 g v l (k1+1) _ _ LG):=hd;clear hd))
  |(go_at_call 53;go_loud (refine (HD2.out.pick 2 hL (by omega) (by omega) (by omega)).mono ?_;rw [<-HP2.out];rintro r w3 ⟨rfl,hd⟩;have HD3:Hid (DL w w3 g v l (k1+1+1) _ _ LG):=hd;clear hd)))
 go_cut [6] (fun s6 W3=>s6=.int .i64 (SZ:Int)/\W3=w3)
 case first=>
  as_aux_lemma=>
  by_cases c2:p2=0
  all_goals (
   go_wp2_with fail
   go_meet;refine ⟨?_,rfl⟩;rw [HSz.out];simp [c2])
 case rest=>
  as_aux_lemma=>
  obtain ⟨rfl,hwc⟩:=hcut;obtain rfl:=hwc.symm;clear hwc;have c51:w3.cell? ⟨w1.heap.size,1,none⟩=some (.int .i64 V):=(HD3.out.dr.blk 1 rfl).cell 1;have f51:w3.frozen? ⟨w1.heap.size,1,none⟩=false:=(HD3.out.dr.blk 1 rfl).free 1;have htm:V.tmod ((SZ:Int)+1)=V%((SZ:Int)+1):=Int.tmod_eq_emod_of_nonneg hv0.1;have hsz0:¬((SZ:Int)+1=0):=by omega
  have hszb:3<=SZ/\SZ<=7:=by rw [HSz.out];split <;> omega
  have hw1:IntKind.i64.wrap (V%((SZ:Int)+1))=V%((SZ:Int)+1):=by
   have h1:=Int.emod_nonneg V hsz0;have h2:=Int.emod_lt_of_pos V (show 0<(SZ:Int)+1 by omega);rw [IntKind.wrap_i64];omega
  obtain ⟨V2,hV2⟩:∃ V2,V2=V%((SZ:Int)+1):=⟨_,rfl⟩;have HV2:Hid (V2=V%((SZ:Int)+1)):=hV2;have HD4:Hid (DL w (w3.setCell ⟨w1.heap.size,1,none⟩ (.int .i64 V2)) g v l (k1+1+1) [(w.heap.size,Jr,36),(w1.heap.size,stC T V2 ea LG.length ec,104)] (.slice ea LG.length ec) LG):=HD3.out.set5 V2;rw [<-hV2] at htm hw1;clear hV2;obtain ⟨p12,hp12⟩:∃ p,p=Z5 l (k1+1+1) 12:=⟨_,rfl⟩;obtain ⟨p10,hp10⟩:∃ p,p=Z5 l (k1+1+1+1) 10:=⟨_,rfl⟩;have HP12:Hid (p12=Z5 l (k1+1+1) 12):=hp12;have HP10:Hid (p10=Z5 l (k1+1+1+1) 10):=hp10;have b12:p12<12:=by rw [hp12];exact Zf _ _ _ (by omega)
  have b10:p10<10:=by rw [hp10];exact Zf _ _ _ (by omega)
  clear hp12 hp10;obtain ⟨EL,hEL⟩:∃ EL,EL=if p10=0 then 1000 else 2+p12:=⟨_,rfl⟩
  have HEL:Hid (EL=if p10=0 then 1000 else 2+p12):=hEL;have helb:2<=EL/\EL<=1000:=by rw [hEL];split <;> omega
  clear hEL;have g2:Hid True:=trivial
  go_upto_if 42 with (first
   |(go_at_call 53;clear g2;go_loud (refine (HD4.out.pick 12 hL (by omega) (by omega) (by omega)).mono ?_;rw [<-HP12.out];rintro r w5 ⟨rfl,hd⟩;have HD5:Hid (DL w w5 g v l (k1+1+1+1) _ _ LG):=hd;clear hd))
   |(go_at_call 53;go_loud (refine (HD5.out.pick 10 hL (by omega) (by omega) (by omega)).mono ?_;rw [<-HP10.out];rintro r w6 ⟨rfl,hd⟩;have HD6:Hid (DL w w6 g v l (k1+1+1+1+1) _ _ LG):=hd;clear hd)))
  go_cut [7] (fun s7 W3=>s7=.int .i64 (EL:Int)/\W3=w6)
  case first=>
   as_aux_lemma=>
   by_cases c10:p10=0
   all_goals (
    go_wp2_with fail
    go_meet;refine ⟨?_,rfl⟩;rw [HEL.out];simp [c10])
  case rest=>
   as_aux_lemma=>
   obtain ⟨rfl,hwc⟩:=hcut;obtain rfl:=hwc.symm;clear hwc;obtain ⟨pI,hpI⟩:∃ p,p=Z5 l (k1+1+1+1+1) SZ:=⟨_,rfl⟩;have HPI:Hid (pI=Z5 l (k1+1+1+1+1) SZ):=hpI;have bI:pI<SZ:=by rw [hpI];exact Zf _ _ _ (by omega)
   clear hpI
   go_upto_region 10 with (go_at_call 53;go_loud (refine (HD6.out.pick SZ hL (by omega) (by omega) (by omega)).mono ?_;rw [<-HPI.out];rintro r w7 ⟨rfl,hd⟩;have HD7:Hid (DL w w7 g v l (k1+1+1+1+1+1) [(w.heap.size,Jr,36),(w1.heap.size,stC T V2 ea LG.length ec,104)] (.slice ea LG.length ec) LG):=hd;clear hd))
   have HLs:Hid (w.heap.size<=w7.heap.size/\w1.heap.size<w7.heap.size/\w.heap.size<w7.heap.size):=⟨HD7.out.dr.size,HD7.out.dr.lt 1 rfl,HD7.out.dr.lt 0 rfl⟩;have HK5:Hid (k1+1+1+1+1+1<=700000000):=by unfold Hid;omega
   obtain ⟨k5,hk5⟩:∃ q,q=k1+1+1+1+1+1:=⟨_,rfl⟩;have HK5e:Hid (k5=k1+1+1+1+1+1):=hk5;replace HD7:Hid (DL w w7 g v l k5 [(w.heap.size,Jr,36),(w1.heap.size,stC T V2 ea LG.length ec,104)] (.slice ea LG.length ec) LG):=by rw [hk5];exact HD7.out
   have hk5b:k5<=700000000:=by rw [hk5];exact HK5.out
   clear hk5 HD6 HD5 HD4 HD3;obtain ⟨pB,hpB⟩:∃ p,p=Z5 l k5 EL:=⟨_,rfl⟩;have HPB:Hid (pB=Z5 l k5 EL):=hpB;have bB:pB<EL:=by rw [hpB];exact Zf _ _ _ (by omega)
   clear hpB;have hpk:=Z2p EL;obtain ⟨k6,hk6⟩:∃ q,q=k5+Zm EL:=⟨_,rfl⟩;have HK6:Hid (k6=k5+Zm EL):=hk6;have hk6b:k6<=800000000:=by omega
   clear hk6;obtain ⟨dv,hdv⟩:∃ q,q=Ym l k6:=⟨_,rfl⟩;have HDV:Hid (dv=Ym l k6):=hdv;have bdv:0<=dv/\dv<=255:=by rw [hdv];exact HD7.out.dr.src.byte k6
   clear hdv;obtain ⟨N0,hN0⟩:∃ q,q=newN (1+(pI:Int)) SZ EL (1+(pB:Int)) T V2 dv LG:=⟨_,rfl⟩;have HN0:Hid (N0=newN (1+(pI:Int)) SZ EL (1+(pB:Int)) T V2 dv LG):=hN0
   have HNew:Hid (∀ z,Es z (.slice ea LG.length ec) LG->Calls Tryz.prog 63 #[.int .i64 (1+(pI:Int)),.int .i64 (SZ:Int),.int .i64 (EL:Int),.int .i64 (1+(pB:Int)),.agg (stC T V2 ea LG.length ec),.int .i64 dv] z fun e w'=>∃ b c,e=.returned (.agg (ndC N0 (rvZ b N0.log.length c)))/\Zv w' z.heap.size (.slice b N0.log.length c) N0.log/\Below z.heap.size z w'):=fun z hz=>by
    rw [hN0];exact newNode_d _ _ _ _ _ _ _ ea ec LG z hz (by omega) (by omega) (by omega)
   have HNil:Hid (N0.gr = []/\N0.nx = []/\N0.mt = []/\N0.se = []/\N0.st = []):=by rw [hN0];exact newN_nil _ _ _ _ _ _ _ _
   clear hN0
   have HF:Hid (∀ x∈[(w.heap.size,Jr,36),(w1.heap.size,stC T V2 ea LG.length ec,104)],x.1<w7.heap.size):=by
    intro x hx;have:=HLs.out;simp only [List.mem_cons,List.not_mem_nil,or_false] at hx;rcases hx with rfl | rfl
    ·exact this.2.2
    ·exact this.2.1
   go_cut [9] (fun s9 W=>∃ b9 b c,s9=.pointer (some ⟨b9,0,none⟩)/\NS w W g v l (k6+1) w.heap.size w1.heap.size b9 (stC T V2 ea LG.length ec) N0 (rvZ b N0.log.length c))
   case first=>
    as_aux_lemma=>
    refine Xg (fun a0=>a0.tmps.size=297/\a0.eval (.tmp 0)=.pointer (some ⟨g,0,none⟩)/\a0.eval (.tmp 5)=.pointer (some ⟨w1.heap.size,0,none⟩)/\a0.eval (.tmp 6)=.int .i64 (SZ:Int)/\a0.eval (.tmp 7)=.int .i64 (EL:Int)/\a0.eval (.tmp 8)=.int .i64 (1+(pI:Int))) (fun a0 aF w'=>∃ x:Nat->Value,aF=frame a0 [47,48,49,50,51,52,53,54,55,56,57,9] x/\∃ p b c,x 9=.pointer (some ⟨p,0,none⟩)/\NS w w' g v l (k6+1) w.heap.size w1.heap.size p (stC T V2 ea LG.length ec) N0 (rvZ b N0.log.length c)) ?_ ⟨rfl,rfl,rfl,rfl,rfl,rfl⟩ ?_
    ·rintro a0 ⟨hsz0,e0,e5,e6,e7,e8⟩
     rename_i JJ KK hj hm;clear hm hj KK JJ;refine Y7 (by kernel_rfl) (fun L aF w'=>∃ x:Nat->Value,aF=frame a0 [47,48,49,50,51,52,53,54,55,56,57,9] x/\(St3 (fun W=>DL w W g v l k5 [(w.heap.size,Jr,36),(w1.heap.size,stC T V2 ea LG.length ec,104)] (.slice ea LG.length ec) LG/\w7.heap.size<=W.heap.size) (fun W=>DL w W g v l k6 [(w.heap.size,Jr,36),(w1.heap.size,stC T V2 ea LG.length ec,104)] (.slice ea LG.length ec) LG/\w7.heap.size<=W.heap.size) (fun W=>DL w W g v l (k6+1) [(w.heap.size,Jr,36),(w1.heap.size,stC T V2 ea LG.length ec,104)] (.slice ea LG.length ec) LG/\w7.heap.size<=W.heap.size)) (L.getD 5 false) (L.getD 9 false) w'/\(L.getD 0 false=true->x 47=.int .i64 (1+(pI:Int)))/\(L.getD 1 false=true->x 48=.int .i64 (SZ:Int))/\(L.getD 2 false=true->x 49=.int .i64 (EL:Int))/\(L.getD 3 false=true->x 50=.pointer (some ⟨g,0,none⟩))/\(L.getD 4 false=true->x 51=.int .i64 (EL:Int))/\(L.getD 5 false=true->x 52=.int .i64 (pB:Int))/\(L.getD 6 false=true->x 53=.int .i64 (1+(pB:Int)))/\(L.getD 7 false=true->x 54=.agg (stC T V2 ea LG.length ec))/\(L.getD 8 false=true->x 55=.pointer (some ⟨g,0,none⟩))/\(L.getD 9 false=true->x 56=.int .i64 dv)/\(L.getD 10 false=true->∃ b c,x 57=.agg (ndC N0 (rvZ b N0.log.length c))/\Zv w' w.heap.size (.slice b N0.log.length c) N0.log)/\(L.getD 11 false=true->∃ p C,x 9=.pointer (some ⟨p,0,none⟩)/\w7.heap.size<=p/\Blk w' p C 36/\C.size=18/\(L.getD 12 false=true->∃ b c,C=ndC N0 (rvZ b N0.log.length c)/\Zv w' w.heap.size (.slice b N0.log.length c) N0.log))/\(L.getD 12 false=true->L.getD 11 false=true)) ?_ ?_ ?_
     ·refine ⟨_,Yk a0 [47,48,49,50,51,52,53,54,55,56,57,9],?_,fun h=>(Zl h).elim,fun h=>(Zl h).elim,fun h=>(Zl h).elim,fun h=>(Zl h).elim,fun h=>(Zl h).elim,fun h=>(Zl h).elim,fun h=>(Zl h).elim,fun h=>(Zl h).elim,fun h=>(Zl h).elim,fun h=>(Zl h).elim,fun h=>(Zl h).elim,fun h=>(Zl h).elim,fun h=>(Zl h).elim⟩
      rw [Z05,Z05];exact ⟨HD7.out.below (Below.refl _ _).drew,Nat.le_refl _⟩
     ·rintro L a w' i hsL hi ⟨x,rfl,hS,h0,h1,h2,h3,h4,h5,h6,h7,h8,h9,h10,h11,h12⟩
      have hlt:∀ j,j<13->j<L.size:=fun j hj=>by rw [hsL];exact hj
      have hsl:∀ j,j<297->j<a0.tmps.size:=fun j hj=>by rw [hsz0];exact hj
      have hiL:i<13:=(Zx hsL hi).1;have hLz:L.size=13:=hsL;have hB5:Blk w' w1.heap.size (stC T V2 ea LG.length ec) 104:=St3.any (P:=fun W=>Blk W w1.heap.size (stC T V2 ea LG.length ec) 104) (fun _ h=>h.1.dr.blk 1 rfl) (fun _ h=>h.1.dr.blk 1 rfl) (fun _ h=>h.1.dr.blk 1 rfl) hS;have hLg:Zv w' w.heap.size (.slice ea LG.length ec) LG:=St3.any (P:=fun W=>Zv W w.heap.size (.slice ea LG.length ec) LG) (fun _ h=>h.1.log) (fun _ h=>h.1.log) (fun _ h=>h.1.log) hS;have hw0:w.heap.size<=w'.heap.size:=St3.any (P:=fun W=>w.heap.size<=W.heap.size) (fun _ h=>h.1.dr.size) (fun _ h=>h.1.dr.size) (fun _ h=>h.1.dr.size) hS;have hw7:w7.heap.size<=w'.heap.size:=St3.any (P:=fun W=>w7.heap.size<=W.heap.size) (fun _ h=>h.2) (fun _ h=>h.2) (fun _ h=>h.2) hS;rcases (show i=0∨i=1∨i=2∨i=3∨i=4∨i=5∨i=6∨i=7∨i=8∨i=9∨i=10∨i=11∨i=12 by omega) with rfl | rfl | rfl | rfl | rfl | rfl | rfl | rfl | rfl | rfl | rfl | rfl | rfl
      ·skip
       have hz:=hlt 0 (by decide);refine Z8 rfl rfl (Y0 (.tmp 8) (Or.inl rfl) ?_);rw [Zc _ _ _ 8 rfl,e8];exact ⟨_,Z9 _ _ _ 47 _ rfl,(by rw [Zp hz (by decide),Zp hz (by decide)];exact hS),fun h=>Zb _ _ _,fun h=>ke2 h1 hz h,fun h=>ke2 h2 hz h,fun h=>ke2 h3 hz h,fun h=>ke2 h4 hz h,fun h=>ke2 h5 hz h,fun h=>ke2 h6 hz h,fun h=>ke2 h7 hz h,fun h=>ke2 h8 hz h,fun h=>ke2 h9 hz h,fun h=>by rw [Z6 _ _ _ _ (by decide)];exact (h10 (kb h hz)),fun h=>by rw [Z6 _ _ _ _ (by decide)];exact (let ⟨p,C,q1,q2,q3,q4,q5⟩:=(h11 (kb h hz));⟨p,C,q1,q2,q3,q4,fun h9=>q5 (Z0 h9 hz (by decide))⟩),fun h=>Zh (h12 (kb h hz)) hz⟩
      ·skip
       have hz:=hlt 1 (by decide);refine Z8 rfl rfl (Y0 (.tmp 6) (Or.inl rfl) ?_);rw [Zc _ _ _ 6 rfl,e6];exact ⟨_,Z9 _ _ _ 48 _ rfl,(by rw [Zp hz (by decide),Zp hz (by decide)];exact hS),fun h=>ke2 h0 hz h,fun h=>Zb _ _ _,fun h=>ke2 h2 hz h,fun h=>ke2 h3 hz h,fun h=>ke2 h4 hz h,fun h=>ke2 h5 hz h,fun h=>ke2 h6 hz h,fun h=>ke2 h7 hz h,fun h=>ke2 h8 hz h,fun h=>ke2 h9 hz h,fun h=>by rw [Z6 _ _ _ _ (by decide)];exact (h10 (kb h hz)),fun h=>by rw [Z6 _ _ _ _ (by decide)];exact (let ⟨p,C,q1,q2,q3,q4,q5⟩:=(h11 (kb h hz));⟨p,C,q1,q2,q3,q4,fun h9=>q5 (Z0 h9 hz (by decide))⟩),fun h=>Zh (h12 (kb h hz)) hz⟩
      ·skip
       have hz:=hlt 2 (by decide);refine Z8 rfl rfl (Y0 (.tmp 7) (Or.inl rfl) ?_);rw [Zc _ _ _ 7 rfl,e7];exact ⟨_,Z9 _ _ _ 49 _ rfl,(by rw [Zp hz (by decide),Zp hz (by decide)];exact hS),fun h=>ke2 h0 hz h,fun h=>ke2 h1 hz h,fun h=>Zb _ _ _,fun h=>ke2 h3 hz h,fun h=>ke2 h4 hz h,fun h=>ke2 h5 hz h,fun h=>ke2 h6 hz h,fun h=>ke2 h7 hz h,fun h=>ke2 h8 hz h,fun h=>ke2 h9 hz h,fun h=>by rw [Z6 _ _ _ _ (by decide)];exact (h10 (kb h hz)),fun h=>by rw [Z6 _ _ _ _ (by decide)];exact (let ⟨p,C,q1,q2,q3,q4,q5⟩:=(h11 (kb h hz));⟨p,C,q1,q2,q3,q4,fun h9=>q5 (Z0 h9 hz (by decide))⟩),fun h=>Zh (h12 (kb h hz)) hz⟩
      ·skip
       have hz:=hlt 3 (by decide);refine Z8 rfl rfl (Y0 (.tmp 0) (Or.inl rfl) ?_);rw [Zc _ _ _ 0 rfl,e0];exact ⟨_,Z9 _ _ _ 50 _ rfl,(by rw [Zp hz (by decide),Zp hz (by decide)];exact hS),fun h=>ke2 h0 hz h,fun h=>ke2 h1 hz h,fun h=>ke2 h2 hz h,fun h=>Zb _ _ _,fun h=>ke2 h4 hz h,fun h=>ke2 h5 hz h,fun h=>ke2 h6 hz h,fun h=>ke2 h7 hz h,fun h=>ke2 h8 hz h,fun h=>ke2 h9 hz h,fun h=>by rw [Z6 _ _ _ _ (by decide)];exact (h10 (kb h hz)),fun h=>by rw [Z6 _ _ _ _ (by decide)];exact (let ⟨p,C,q1,q2,q3,q4,q5⟩:=(h11 (kb h hz));⟨p,C,q1,q2,q3,q4,fun h9=>q5 (Z0 h9 hz (by decide))⟩),fun h=>Zh (h12 (kb h hz)) hz⟩
      ·skip
       have hz:=hlt 4 (by decide);refine Z8 rfl rfl (Y0 (.tmp 7) (Or.inl rfl) ?_);rw [Zc _ _ _ 7 rfl,e7];exact ⟨_,Z9 _ _ _ 51 _ rfl,(by rw [Zp hz (by decide),Zp hz (by decide)];exact hS),fun h=>ke2 h0 hz h,fun h=>ke2 h1 hz h,fun h=>ke2 h2 hz h,fun h=>ke2 h3 hz h,fun h=>Zb _ _ _,fun h=>ke2 h5 hz h,fun h=>ke2 h6 hz h,fun h=>ke2 h7 hz h,fun h=>ke2 h8 hz h,fun h=>ke2 h9 hz h,fun h=>by rw [Z6 _ _ _ _ (by decide)];exact (h10 (kb h hz)),fun h=>by rw [Z6 _ _ _ _ (by decide)];exact (let ⟨p,C,q1,q2,q3,q4,q5⟩:=(h11 (kb h hz));⟨p,C,q1,q2,q3,q4,fun h9=>q5 (Z0 h9 hz (by decide))⟩),fun h=>Zh (h12 (kb h hz)) hz⟩
      ·have d3:=h3 (Z7 hi (by decide))
       have d4:=h4 (Z7 hi (by decide));have hz:=hlt 5 (by decide);have ev50:=(Z4 a0 [47,48,49,50,51,52,53,54,55,56,57,9] x 50 rfl (hsl 50 (by decide))).trans d3;have ev51:=(Z4 a0 [47,48,49,50,51,52,53,54,55,56,57,9] x 51 rfl (hsl 51 (by decide))).trans d4;refine Z8 rfl rfl (Y4 (N:=53) rfl (fun _ _=>by go_simp) #[.pointer (some ⟨g,0,none⟩),.int .i64 (EL:Int)] (by simp only [List.map_toArray,List.map_cons,List.map_nil,ev50,ev51]) ?_);have hb5:L.getD 5 false=false:=by have h9:=(Zx hsL hi).2;rw [Array.getD_eq_getD_getElem?,h9];rfl
       rw [hb5] at hS;obtain ⟨hb9,hS0⟩:=hS.fst;refine Calls.mono (hS0.1.pickG EL hL (by omega) (by omega) (by omega)) ?_;rw [<-HPB.out];rintro e w2 ⟨rfl,hd,hgr⟩;refine ⟨_,rfl,?_⟩;exact ⟨_,Z9 _ _ _ 52 _ rfl,(by rw [Yo hz,Zp hz (by decide),hb9];exact ⟨by rw [HK6.out];exact hd,Nat.le_trans hS0.2 hgr.size⟩),fun h=>ke2 h0 hz h,fun h=>ke2 h1 hz h,fun h=>ke2 h2 hz h,fun h=>ke2 h3 hz h,fun h=>ke2 h4 hz h,fun h=>Zb _ _ _,fun h=>ke2 h6 hz h,fun h=>ke2 h7 hz h,fun h=>ke2 h8 hz h,fun h=>ke2 h9 hz h,fun h=>by rw [Z6 _ _ _ _ (by decide)];exact (let ⟨b,c,r1,r2⟩:=(h10 (kb h hz));⟨b,c,r1,r2.block fun q e=>hgr.block q (World.ownsRow.lt r2.2 q e).2 (fun e2=>by injection e2 with e2;have:=(World.ownsRow.lt r2.2 q e).1;have:=HD7.out.dr.gl;omega)⟩),fun h=>by rw [Z6 _ _ _ _ (by decide)];exact (let ⟨p,C,q1,q2,q3,q4,q5⟩:=(h11 (kb h hz));⟨p,C,q1,q2,q3.grown hgr (by have:=HLs.out;have:=HD7.out.dr.gl;omega),q4,fun h9=>(let ⟨b,c,r1,r2⟩:=q5 (Z0 h9 hz (by decide));⟨b,c,r1,r2.block fun q e=>hgr.block q (World.ownsRow.lt r2.2 q e).2 (fun e2=>by injection e2 with e2;have:=(World.ownsRow.lt r2.2 q e).1;have:=HD7.out.dr.gl;omega)⟩)⟩),fun h=>Zh (h12 (kb h hz)) hz⟩
      ·have d5:=h5 (Z7 hi (by decide))
       have hz:=hlt 6 (by decide);have ev52:(frame a0 [47,48,49,50,51,52,53,54,55,56,57,9] x).tmps[52]?.getD undef=.int .i64 (pB:Int):=by have h:=(Z4 a0 [47,48,49,50,51,52,53,54,55,56,57,9] x 52 rfl (hsl 52 (by decide))).trans d5;simpa [Act.eval] using h
       refine Z8 rfl rfl (Zd (v:=.int .i64 (1+(pB:Int))) ?_ ?_)
       ·obtain ⟨aa,haa⟩:∃ aa,aa=frame a0 [47,48,49,50,51,52,53,54,55,56,57,9] x:=⟨_,rfl⟩
        rw [<-haa] at ev52 ⊢;clear haa;go_simp;rw [IntKind.wrap_i64];omega
       exact ⟨_,Z9 _ _ _ 53 _ rfl,(by rw [Zp hz (by decide),Zp hz (by decide)];exact hS),fun h=>ke2 h0 hz h,fun h=>ke2 h1 hz h,fun h=>ke2 h2 hz h,fun h=>ke2 h3 hz h,fun h=>ke2 h4 hz h,fun h=>ke2 h5 hz h,fun h=>Zb _ _ _,fun h=>ke2 h7 hz h,fun h=>ke2 h8 hz h,fun h=>ke2 h9 hz h,fun h=>by rw [Z6 _ _ _ _ (by decide)];exact (h10 (kb h hz)),fun h=>by rw [Z6 _ _ _ _ (by decide)];exact (let ⟨p,C,q1,q2,q3,q4,q5⟩:=(h11 (kb h hz));⟨p,C,q1,q2,q3,q4,fun h9=>q5 (Z0 h9 hz (by decide))⟩),fun h=>Zh (h12 (kb h hz)) hz⟩
      ·skip
       have hz:=hlt 7 (by decide);refine Z8 rfl rfl (Z0f 104 (.tmp 5) rfl (w1.heap.size) ((Zc a0 [47,48,49,50,51,52,53,54,55,56,57,9] x 5 rfl).trans e5) hB5 Tryz.underlying104 rfl infoStb rfl ?_);exact ⟨_,Z9 _ _ _ 54 _ rfl,(by rw [Zp hz (by decide),Zp hz (by decide)];exact hS),fun h=>ke2 h0 hz h,fun h=>ke2 h1 hz h,fun h=>ke2 h2 hz h,fun h=>ke2 h3 hz h,fun h=>ke2 h4 hz h,fun h=>ke2 h5 hz h,fun h=>ke2 h6 hz h,fun h=>Zb _ _ _,fun h=>ke2 h8 hz h,fun h=>ke2 h9 hz h,fun h=>by rw [Z6 _ _ _ _ (by decide)];exact (h10 (kb h hz)),fun h=>by rw [Z6 _ _ _ _ (by decide)];exact (let ⟨p,C,q1,q2,q3,q4,q5⟩:=(h11 (kb h hz));⟨p,C,q1,q2,q3,q4,fun h9=>q5 (Z0 h9 hz (by decide))⟩),fun h=>Zh (h12 (kb h hz)) hz⟩
      ·skip
       have hz:=hlt 8 (by decide);refine Z8 rfl rfl (Y0 (.tmp 0) (Or.inl rfl) ?_);rw [Zc _ _ _ 0 rfl,e0];exact ⟨_,Z9 _ _ _ 55 _ rfl,(by rw [Zp hz (by decide),Zp hz (by decide)];exact hS),fun h=>ke2 h0 hz h,fun h=>ke2 h1 hz h,fun h=>ke2 h2 hz h,fun h=>ke2 h3 hz h,fun h=>ke2 h4 hz h,fun h=>ke2 h5 hz h,fun h=>ke2 h6 hz h,fun h=>ke2 h7 hz h,fun h=>Zb _ _ _,fun h=>ke2 h9 hz h,fun h=>by rw [Z6 _ _ _ _ (by decide)];exact (h10 (kb h hz)),fun h=>by rw [Z6 _ _ _ _ (by decide)];exact (let ⟨p,C,q1,q2,q3,q4,q5⟩:=(h11 (kb h hz));⟨p,C,q1,q2,q3,q4,fun h9=>q5 (Z0 h9 hz (by decide))⟩),fun h=>Zh (h12 (kb h hz)) hz⟩
      ·have d8:=h8 (Z7 hi (by decide))
       have hz:=hlt 9 (by decide);have ev55:=(Z4 a0 [47,48,49,50,51,52,53,54,55,56,57,9] x 55 rfl (hsl 55 (by decide))).trans d8;refine Z8 rfl rfl (Y4 (N:=93) rfl (fun _ _=>by go_simp) #[.pointer (some ⟨g,0,none⟩)] (by simp only [List.map_toArray,List.map_cons,List.map_nil,ev55]) ?_);have hb9:L.getD 9 false=false:=by have h9:=(Zx hsL hi).2;rw [Array.getD_eq_getD_getElem?,h9];rfl
       have ha5:L.getD 5 false=true:=Z7 hi (by decide);rw [ha5,hb9] at hS;refine Calls.mono (DL.nextG (k:=k6) hS.1 hL (by omega)) ?_;rw [<-HDV.out];rintro e w2 ⟨rfl,hd,hgr⟩;refine ⟨_,rfl,?_⟩;exact ⟨_,Z9 _ _ _ 56 _ rfl,(by rw [Zp hz (by decide),ha5,Yo hz];exact ⟨hd,Nat.le_trans hS.2 hgr.size⟩),fun h=>ke2 h0 hz h,fun h=>ke2 h1 hz h,fun h=>ke2 h2 hz h,fun h=>ke2 h3 hz h,fun h=>ke2 h4 hz h,fun h=>ke2 h5 hz h,fun h=>ke2 h6 hz h,fun h=>ke2 h7 hz h,fun h=>ke2 h8 hz h,fun h=>Zb _ _ _,fun h=>by rw [Z6 _ _ _ _ (by decide)];exact (let ⟨b,c,r1,r2⟩:=(h10 (kb h hz));⟨b,c,r1,r2.block fun q e=>hgr.block q (World.ownsRow.lt r2.2 q e).2 (fun e2=>by injection e2 with e2;have:=(World.ownsRow.lt r2.2 q e).1;have:=HD7.out.dr.gl;omega)⟩),fun h=>by rw [Z6 _ _ _ _ (by decide)];exact (let ⟨p,C,q1,q2,q3,q4,q5⟩:=(h11 (kb h hz));⟨p,C,q1,q2,q3.grown hgr (by have:=HLs.out;have:=HD7.out.dr.gl;omega),q4,fun h9=>(let ⟨b,c,r1,r2⟩:=q5 (Z0 h9 hz (by decide));⟨b,c,r1,r2.block fun q e=>hgr.block q (World.ownsRow.lt r2.2 q e).2 (fun e2=>by injection e2 with e2;have:=(World.ownsRow.lt r2.2 q e).1;have:=HD7.out.dr.gl;omega)⟩)⟩),fun h=>Zh (h12 (kb h hz)) hz⟩
      ·have d0:=h0 (Z7 hi (by decide))
       have d1:=h1 (Z7 hi (by decide));have d2:=h2 (Z7 hi (by decide));have d6:=h6 (Z7 hi (by decide));have d7:=h7 (Z7 hi (by decide));have d9:=h9 (Z7 hi (by decide));have hz:=hlt 10 (by decide);have ev47:=(Z4 a0 [47,48,49,50,51,52,53,54,55,56,57,9] x 47 rfl (hsl 47 (by decide))).trans d0;have ev48:=(Z4 a0 [47,48,49,50,51,52,53,54,55,56,57,9] x 48 rfl (hsl 48 (by decide))).trans d1;have ev49:=(Z4 a0 [47,48,49,50,51,52,53,54,55,56,57,9] x 49 rfl (hsl 49 (by decide))).trans d2;have ev53:=(Z4 a0 [47,48,49,50,51,52,53,54,55,56,57,9] x 53 rfl (hsl 53 (by decide))).trans d6;have ev54:=(Z4 a0 [47,48,49,50,51,52,53,54,55,56,57,9] x 54 rfl (hsl 54 (by decide))).trans d7;have ev56:=(Z4 a0 [47,48,49,50,51,52,53,54,55,56,57,9] x 56 rfl (hsl 56 (by decide))).trans d9;refine Z8 rfl rfl (Y4 (N:=63) rfl (fun _ _=>by go_simp) #[.int .i64 (1+(pI:Int)),.int .i64 (SZ:Int),.int .i64 (EL:Int),.int .i64 (1+(pB:Int)),.agg (stC T V2 ea LG.length ec),.int .i64 dv] (by simp only [List.map_toArray,List.map_cons,List.map_nil,ev47,ev48,ev49,ev53,ev54,ev56]) ?_);refine Calls.mono (HNew.out w' (hLg.es (by unfold maxLen;omega))) ?_;rintro e w2 ⟨b,c,rfl,hO,hb⟩;refine ⟨_,rfl,?_⟩;exact ⟨_,Z9 _ _ _ 57 _ rfl,(by rw [Zp hz (by decide),Zp hz (by decide)];exact St3.tq (fun h=>⟨h.1.below hb,Nat.le_trans h.2 hb.size⟩) (fun h=>⟨h.1.below hb,Nat.le_trans h.2 hb.size⟩) (fun h=>⟨h.1.below hb,Nat.le_trans h.2 hb.size⟩) hS),fun h=>ke2 h0 hz h,fun h=>ke2 h1 hz h,fun h=>ke2 h2 hz h,fun h=>ke2 h3 hz h,fun h=>ke2 h4 hz h,fun h=>ke2 h5 hz h,fun h=>ke2 h6 hz h,fun h=>ke2 h7 hz h,fun h=>ke2 h8 hz h,fun h=>ke2 h9 hz h,fun h=>⟨b,c,Zb _ _ _,hO.le hw0⟩,fun h=>by rw [Z6 _ _ _ _ (by decide)];exact (let ⟨p,C,q1,q2,q3,q4,q5⟩:=(h11 (kb h hz));⟨p,C,q1,q2,q3.below hb q3.lt,q4,fun h9=>(let ⟨b,c,r1,r2⟩:=q5 (Z0 h9 hz (by decide));⟨b,c,r1,r2.below hb⟩)⟩),fun h=>Zh (h12 (kb h hz)) hz⟩
      ·skip
       have hz:=hlt 11 (by decide);refine Z8 rfl rfl (wp_alloc_go 36 #[.int .i64 0,.int .i64 0,.int .i64 0,.int .i64 0,.int .i64 0,.int .i64 0,.int .i64 0,.int .i64 0,.int .i64 0,.int .i64 0,.int .i64 0,.int .i64 0,.slice none 0 0,.slice none 0 0,.slice none 0 0,.slice none 0 0,.slice none 0 0,.slice none 0 0] rfl (fun _=>by go_simp) ?_);have hb:Below w'.heap.size w' (w'.alloc (.cells #[.int .i64 0,.int .i64 0,.int .i64 0,.int .i64 0,.int .i64 0,.int .i64 0,.int .i64 0,.int .i64 0,.int .i64 0,.int .i64 0,.int .i64 0,.int .i64 0,.slice none 0 0,.slice none 0 0,.slice none 0 0,.slice none 0 0,.slice none 0 0,.slice none 0 0] 36)):=(Below.refl _ _).alloc (Nat.le_refl _) _;exact ⟨_,Z9 _ _ _ 9 _ rfl,(by rw [Zp hz (by decide),Zp hz (by decide)];exact St3.tq (fun h=>⟨h.1.below hb,Nat.le_trans h.2 hb.size⟩) (fun h=>⟨h.1.below hb,Nat.le_trans h.2 hb.size⟩) (fun h=>⟨h.1.below hb,Nat.le_trans h.2 hb.size⟩) hS),fun h=>ke2 h0 hz h,fun h=>ke2 h1 hz h,fun h=>ke2 h2 hz h,fun h=>ke2 h3 hz h,fun h=>ke2 h4 hz h,fun h=>ke2 h5 hz h,fun h=>ke2 h6 hz h,fun h=>ke2 h7 hz h,fun h=>ke2 h8 hz h,fun h=>ke2 h9 hz h,fun h=>by rw [Z6 _ _ _ _ (by decide)];exact (let ⟨b,c,r1,r2⟩:=(h10 (kb h hz));⟨b,c,r1,r2.below hb⟩),fun h=>⟨_,_,Zb _ _ _,hw7,Blk.new _ _ _,rfl,fun h9=>(readyBit hsL hi (h12 (Z0 h9 hz (by decide)))).elim⟩,fun h=>Zh (h12 (kb h hz)) hz⟩
      ·have d10:=h10 (Z7 hi (by decide))
       have d11:=h11 (Z7 hi (by decide));have hz:=hlt 12 (by decide);obtain ⟨p,C,ep,hp,hP,hC,hR⟩:=d11;obtain ⟨b,c,e57,hO⟩:=d10;have evp:=(Z4 a0 [47,48,49,50,51,52,53,54,55,56,57,9] x 9 rfl (hsl 9 (by decide))).trans ep;have evs:=(Z4 a0 [47,48,49,50,51,52,53,54,55,56,57,9] x 57 rfl (hsl 57 (by decide))).trans e57;refine Z8 rfl rfl (Jq 36 (.tmp 9) (.tmp 57) rfl (p) evp evs hP Z0y rfl hC (by simp [ndC,rvZ,Value.oneCell']) ?_);exact ⟨_,rfl,(by rw [Zp hz (by decide),Zp hz (by decide)];exact St3.tq (fun h=>⟨h.1.rowP hP HLs.out.1 HF.out hp _,by rw [Z2k];exact h.2⟩) (fun h=>⟨h.1.rowP hP HLs.out.1 HF.out hp _,by rw [Z2k];exact h.2⟩) (fun h=>⟨h.1.rowP hP HLs.out.1 HF.out hp _,by rw [Z2k];exact h.2⟩) hS),fun h=>ku2 h0 hz h,fun h=>ku2 h1 hz h,fun h=>ku2 h2 hz h,fun h=>ku2 h3 hz h,fun h=>ku2 h4 hz h,fun h=>ku2 h5 hz h,fun h=>ku2 h6 hz h,fun h=>ku2 h7 hz h,fun h=>ku2 h8 hz h,fun h=>ku2 h9 hz h,fun h=>(let ⟨b,c,r1,r2⟩:=(h10 (kb h hz));⟨b,c,r1,r2.block fun q e=>setRow_other _ _ _ _ (X4 r2 hP (by decide) q e)⟩),fun h=>⟨p,_,ep,hp,hP.row _,rfl,fun _=>⟨b,c,rfl,hO.block fun q e=>setRow_other _ _ _ _ (X4 hO hP (by decide) q e)⟩⟩,fun h=>Zh (Z7 hi (by decide)) hz⟩
     ·rintro L a w' hsL hr ⟨x,rfl,hS,h0,h1,h2,h3,h4,h5,h6,h7,h8,h9,h10,h11,h12⟩
      have hall:=Yq hsL hr (by decide);replace h0:=h0 (hall 0 (by decide));replace h1:=h1 (hall 1 (by decide));replace h2:=h2 (hall 2 (by decide));replace h3:=h3 (hall 3 (by decide));replace h4:=h4 (hall 4 (by decide));replace h5:=h5 (hall 5 (by decide));replace h6:=h6 (hall 6 (by decide));replace h7:=h7 (hall 7 (by decide));replace h8:=h8 (hall 8 (by decide));replace h9:=h9 (hall 9 (by decide));replace h10:=h10 (hall 10 (by decide));replace h11:=h11 (hall 11 (by decide));replace h12:=h12 (hall 12 (by decide));rw [hall 5 (by decide),hall 9 (by decide)] at hS;exact ⟨rfl,x,rfl,(let ⟨p,C,ep,hp,hP,hC,hR⟩:=h11;let ⟨b,c,e1,hO⟩:=hR (hall 12 (by decide));⟨p,b,c,ep,NS.of hS.1.dr (e1 ▸ hP) (Nat.le_trans HLs.out.1 hp) (Nat.ne_of_lt (Nat.lt_of_lt_of_le HLs.out.2.2 hp)) (Nat.ne_of_lt (Nat.lt_of_lt_of_le HLs.out.2.1 hp)) hO HNil.out⟩)⟩
    ·rintro a' w' ⟨x,rfl,hFin⟩
     obtain ⟨p,b,c,e9,hNS⟩:=hFin;have HNS:Hid (NS w w' g v l (k6+1) w.heap.size w1.heap.size p (stC T V2 ea LG.length ec) N0 (rvZ b N0.log.length c)):=hNS;clear hNS;simp only [frame,List.zipIdx_cons,List.zipIdx_nil,List.map_cons,List.map_nil,List.contains_cons,List.contains_nil,Nat.reduceBEq,Nat.reduceAdd,Bool.or_false,Bool.false_or,Bool.or_true,Bool.true_or,Bool.false_eq_true,if_false,if_true,e9]
     go_wp2_with fail
     go_meet;exact ⟨p,b,c,rfl,HNS.out⟩
   case rest=>
    as_aux_lemma=>
    obtain ⟨b9,b,c,rfl,hNS⟩:=hcut;obtain ⟨w8,hw8⟩:∃ z,z=wc:=⟨_,rfl⟩;rw [<-hw8] at hNS;subst hw8;obtain ⟨X,hX⟩:∃ X,X=rvZ b N0.log.length c:=⟨_,rfl⟩;rw [<-hX] at hNS;have HXe:Hid (X=rvZ b N0.log.length c):=hX;clear hX;have HS8:Hid (NS w w8 g v l (k6+1) w.heap.size w1.heap.size b9 (stC T V2 ea LG.length ec) N0 X):=hNS;clear hNS HD7 HNew HF HLs;obtain ⟨p40,hp40⟩:∃ p,p=Z5 l (k6+1) 40:=⟨_,rfl⟩;obtain ⟨p20,hp20⟩:∃ p,p=Z5 l (k6+1+1) 20:=⟨_,rfl⟩;obtain ⟨pn2,hpn2⟩:∃ p,p=Z5 l (k6+1+1+1) 2:=⟨_,rfl⟩;have HP40:Hid (p40=Z5 l (k6+1) 40):=hp40;have HP20:Hid (p20=Z5 l (k6+1+1) 20):=hp20;have HPn2:Hid (pn2=Z5 l (k6+1+1+1) 2):=hpn2;have b40:p40<40:=by rw [hp40];exact Zf _ _ _ (by omega)
    have b20:p20<20:=by rw [hp20];exact Zf _ _ _ (by omega)
    have bn2:pn2<2:=by rw [hpn2];exact Zf _ _ _ (by omega)
    clear hp40 hp20 hpn2;obtain ⟨D1,hD1⟩:∃ D,D=Ji l ⟨N0,k6+1⟩:=⟨_,rfl⟩
    have HD1:Hid (D1=if p20=0 then ⟨{ N0 with nw:=1099511627776-(pn2:Int) },k6+1+1+1+1⟩ else ⟨{ N0 with nw:=(p40:Int) },k6+1+1+1⟩):=by
     unfold Hid;rw [hD1,HP40.out,HP20.out,HPn2.out];rfl
    have HDe:Hid (D1=Ji l ⟨N0,k6+1⟩):=hD1;clear hD1;have g3:Hid True:=trivial
    go_upto_if 63 with (first
     |(go_at_call 53;clear g3;go_loud (refine (HS8.out.pick1 40 hL (by omega) (by omega) (by omega)).mono ?_;rw [<-HP40.out];rintro r w9 ⟨rfl,hd⟩;have HS9:Hid (NS w w9 g v l (k6+1+1) w.heap.size w1.heap.size b9 (stC T V2 ea LG.length ec) N0 X):=hd;have c9:w9.cell? ⟨b9,9,none⟩=some (.int .i64 N0.nw):=hd.nodeB.cell 9;have f9:w9.frozen? ⟨b9,9,none⟩=false:=hd.nodeB.free 9;have HS9s:Hid (NS w (w9.setCell ⟨b9,9,none⟩ (.int .i64 (p40:Int))) g v l (k6+1+1) w.heap.size w1.heap.size b9 (stC T V2 ea LG.length ec) { N0 with nw:=(p40:Int) } X):=hd.set 9 (by omega) _ rfl rfl rfl rfl rfl rfl rfl;clear hd))
     |(go_at_call 53;go_loud (refine (HS9s.out.pick1 20 hL (by omega) (by omega) (by omega)).mono ?_;rw [<-HP20.out];rintro r w10 ⟨rfl,hd⟩;have HS10:Hid (NS w w10 g v l (k6+1+1+1) w.heap.size w1.heap.size b9 (stC T V2 ea LG.length ec) { N0 with nw:=(p40:Int) } X):=hd;clear hd)))
    go_cut [] (fun W=>NS w W g v l D1.k w.heap.size w1.heap.size b9 (stC T V2 ea LG.length ec) D1.n X)
    case first=>
     as_aux_lemma=>
     by_cases c20:p20=0
     ·have HE:Hid (D1=⟨{ N0 with nw:=1099511627776-(pn2:Int) },k6+1+1+1+1⟩):=HD1.out.trans (if_pos c20)
      go_wp2_with (go_at_call 53;go_loud (refine (HS10.out.pick1 2 hL (by omega) (by omega) (by omega)).mono ?_;rw [<-HPn2.out];rintro r w11 ⟨rfl,hd⟩;have HS11:Hid (NS w w11 g v l (k6+1+1+1+1) w.heap.size w1.heap.size b9 (stC T V2 ea LG.length ec) { N0 with nw:=(p40:Int) } X):=hd;have c9b:w11.cell? ⟨b9,9,none⟩=some (.int .i64 (p40:Int)):=hd.nodeB.cell 9;have f9b:w11.frozen? ⟨b9,9,none⟩=false:=hd.nodeB.free 9;clear hd))
      go_meet;rw [HE.out];exact HS11.out.set 9 (by omega) _ rfl rfl rfl rfl rfl rfl rfl
     ·have HE:Hid (D1=⟨{ N0 with nw:=(p40:Int) },k6+1+1+1⟩):=HD1.out.trans (if_neg c20)
      go_wp2_with fail
      go_meet;rw [HE.out];exact HS10.out
    case rest=>
     as_aux_lemma=>
     have hI:((1+pI:Nat):Int)=1+(pI:Int):=by push_cast;rfl
     have hc:DC.Ok ⟨w,g,v,l,w.heap.size,w1.heap.size,b9,T,V2,ea,LG.length,ec,SZ,EL,1+pI⟩:=⟨hL,hszb,helb,by dsimp only;omega⟩
     have hh:dnH l k1=⟨SZ,EL,1+pI,k5⟩:=by
      rw [HK5e.out,HPI.out,HSz.out,HEL.out,HP2.out,HP3.out,HP10.out,HP12.out];rfl
     obtain ⟨n1,n2,n3,n4⟩:=HN.out
     have h0:dn0 l k n=⟨N0,k6+1⟩:=by
      rw [HN0.out,HDV.out,HPB.out,HK6.out,HV2.out,<-hI,n1,n2,n3];unfold dn0;dsimp only;rw [<-n4,hh]
     have hR2:R=Z0s l ⟨SZ,EL,1+pI,0⟩ (J9 l ⟨SZ,EL,1+pI,0⟩ (Z03 l ⟨SZ,EL,1+pI,0⟩ T (Z0n l (Z04 l EL (Jn l EL D1))))):=by
      rw [<-HR.out,HDe.out,<-h0];unfold dnD;dsimp only;rw [<-n4,hh,<-n1,dnLd_k0 l SZ EL (1+pI) k5 0];rfl
     obtain ⟨q1,q2,q3,q4,q5,q6⟩:=dn0_w l k n hn;rw [h0] at q1 q2 q6;obtain ⟨r1,r2,r3,r4,r5,r6⟩:=dnNow_w l q1 q2;rw [<-HDe.out] at r1 r2 r6;have hck:=r1.ck;simp only [Ya,Bool.and_eq_true,Zr] at hck;have hvt:=r1.vt;simp only [Yv,Bool.and_eq_true,Zr] at hvt;have hdk:D1.k<=k6+1+3:=by rw [HDe.out];unfold Ji;split <;> (dsimp only;omega)
     have hlg:D1.n.log.length<=200:=by rw [r6];exact Nat.le_trans q6 hn
     rename_i KK hKK;refine hKK _ _ ?_;show (Z2 11 (Z3 Tryz.f51)).wp Tryz.prog _ _ _;refine dnTail (c:=⟨w,g,v,l,w.heap.size,w1.heap.size,b9,T,V2,ea,LG.length,ec,SZ,EL,1+pI⟩) (d:=D1) (X:=X) hc (m:=850000000) (by omega) ⟨by omega,⟨hck.1.1,hck.1.2⟩,hlg,⟨hvt.1.1,by omega⟩⟩ ⟨r1.gr,r1.nx,r1.mt,r1.se,r1.st⟩ ⟨rfl,rfl,rfl,rfl,rfl,rfl,rfl,by show Value.int .i64 (1+(pI:Int))=Value.int .i64 ((1+pI:Nat):Int);rw [hI],rfl⟩ hcut ?_;intro a' w' x' f' s';have s2:RtN ⟨w,g,v,l,w.heap.size,w1.heap.size,b9,T,V2,ea,LG.length,ec,SZ,EL,1+pI⟩ w' R x':=by rw [hR2];exact s'
     obtain ⟨t,rfl⟩:=f'.opened;exact bodyPost_ret (Y9 Tryz.results51 rfl (s2.dr.blk 0 rfl) Tryz.underlying36 rfl Z0g rfl) rfl ⟨x',rfl,s2.own,s2.dr.src,s2.dr.grown⟩
end Go.Proofs.YtmmpoppgabadmaaGreat
