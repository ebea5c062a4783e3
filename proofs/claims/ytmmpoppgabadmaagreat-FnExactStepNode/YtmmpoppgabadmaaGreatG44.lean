import Derived.Test.YtmmpoppgabadmaaGreatG39
import Derived.Test.YtmmpoppgabadmaaGreatG07
set_option linter.unusedVariables false
set_option linter.unusedSimpArgs false
set_option maxRecDepth 100000
set_option maxHeartbeats 16000000
namespace Go.Proofs.YtmmpoppgabadmaaGreat
open Go.RowKit Go.Maps
theorem Z0.keepAll {w w':World}{B b:Nat}{r:Rn}{x:CV}(h:Z0 w B b r x)(hk:∀ k,x.has b k->w'.heap[k]? = w.heap[k]?)(he:∀ p∈x.L,∀ k,p.v.ownBlock=some k->w'.heap[k]? = w.heap[k]?):Z0 w' B b r x:=
 ⟨h.blk.keep (hk _ (.inl rfl)),h.lo,h.log.block fun k e=>hk k (.inr (.inr (.inr (.inr (.inl e))))),h.gm.keep (hk _ (.inr (.inl rfl))),h.gml,h.pm.keep (hk _ (.inr (.inr (.inl rfl)))),h.pml,h.gp,fun y q e=>⟨(h.pf y q e).1.keep (hk q (.inr (.inr (.inr (.inl ⟨y,e⟩))))),(h.pf y q e).2⟩,h.pi,h.pk,h.out.block fun k e=>hk k (.inr (.inr (.inr (.inr (.inr e))))),h.outC,fun p hp=>(h.ents p hp).block fun k e=>he p hp k e,h.apE,h.ci⟩
theorem Z0.codeQ {w:World}{B b:Nat}{r:Rn}{x:CV}(h:Z0 w B b r x)(c:Int):Z0 w B b { r with code:=c } x:=
 h.re (r':={ r with code:=c }) (kp':=x.kp) h.blk (fun _ _ _=>rfl) rfl rfl rfl rfl rfl rfl rfl rfl rfl Iff.rfl
theorem Z5p (b:Nat)(r:Rn)(x:CV)(m:Mg)(ea:Option Addr)(en ec:Nat)(w:World)(B:Nat)(h:Z0 w B b r x)(hc:r.code=0)(hl:x.L.length<=900)(hb:NdB r.n) :
  Calls Tryz.prog 130 #[.pointer (some ⟨b,0,none⟩),.agg #[.int .i64 m.ki,.int .i64 m.fr,.int .i64 m.td,.int .i64 m.tm,.int .i64 m.li,.int .i64 m.lt,.int .i64 m.cm,.int .i64 m.ok,.int .i64 m.hi,.slice ea en ec]] w fun e w'=>e=.returned (.int .i64 (r.preAsk m).code)/\∃ x',Z0 w' B b (r.preAsk m) x'/\Tch b w x w' x':=by
 obtain ⟨W,hW⟩:∃ W,W=w.alloc (.cells #[.int .i64 m.ki,.int .i64 m.fr,.int .i64 m.td,.int .i64 m.tm,.int .i64 m.li,.int .i64 m.lt,.int .i64 m.cm,.int .i64 m.ok,.int .i64 m.hi,.slice ea en ec] 43):=⟨_,rfl⟩;have HBW:Hid (Below w.heap.size w W):=by unfold Hid;rw [hW];exact Below.alloc0 _
 have HMW:Hid (Blk W w.heap.size #[.int .i64 m.ki,.int .i64 m.fr,.int .i64 m.td,.int .i64 m.tm,.int .i64 m.li,.int .i64 m.lt,.int .i64 m.cm,.int .i64 m.ok,.int .i64 m.hi,.slice ea en ec] 43):=by unfold Hid;rw [hW];exact Blk.new _ _ _
 have HCW:Hid (Z0 W B b r x):=h.below HBW.out;have hll:=hb.ln;have HLo:Hid (Calls Tryz.prog 163 #[.pointer (some ⟨b,0,none⟩)] W fun e w'=>e=.returned (.bool (Z19 r.n))/\Below W.heap.size W w'):=loyal_any b r x W B HCW.out hb.nw0 hb.nw1 hb.hd0 hb.hd1;have HC1:Hid (∀ z,Below W.heap.size W z->Z0 z B b r x/\Below w.heap.size w z/\Blk z w.heap.size #[.int .i64 m.ki,.int .i64 m.fr,.int .i64 m.td,.int .i64 m.tm,.int .i64 m.li,.int .i64 m.lt,.int .i64 m.cm,.int .i64 m.ok,.int .i64 m.hi,.slice ea en ec] 43):=fun z hz=>⟨HCW.out.below hz,HBW.out.trans (hz.mono HBW.out.size),HMW.out.below hz HMW.out.lt⟩
 have hblt:=h.lt;clear h;cases hly:Z19 r.n
 ·rw [hly] at HLo
  have HQ:Hid (r.preAsk m=if r.n.tm<m.tm/\utd r.n.log m=true then r.send ⟨2,0,m.fr,m.tm,0,0,0,1,0,[]⟩ else r.send ⟨2,0,m.fr,r.n.tm,0,0,0,0,0,[]⟩):=by unfold Hid Rn.preAsk;rw [hly,if_neg (by decide)]
  have HK:Hid ((r.preAsk m).code=0):=by unfold Hid;rw [HQ.out];split <;> exact hc
  have HSe:Hid (∀ z t k,Z0 z B b r x->Calls Tryz.prog 165 #[.pointer (some ⟨b,0,none⟩),.int .i64 m.fr,.agg #[.int .i64 2,.int .i64 0,.int .i64 0,.int .i64 t,.int .i64 0,.int .i64 0,.int .i64 0,.int .i64 k,.int .i64 0,.slice none 0 0]] z fun e w'=>e=.returned (.tuple #[])/\∃ v y,Z0 w' B b (r.send ⟨2,0,m.fr,t,0,0,0,k,0,[]⟩) (x.sent v y)/\Tch b z x w' (x.sent v y)):=fun z t k hz=>Z1g b r x ⟨2,0,0,t,0,0,0,k,0,[]⟩ m.fr none 0 z B hz (Zd.nil _ _) (fun k e=>by cases e) (by omega)
  rw [HK.out];clear HK;generalize r.preAsk m=RP at *;go_enter Tryz.func130,Tryz.ntmps130
  go_upto_region 1 with fail
  rw [<-hW];clear hW
  go_upto_region 3 with (first
   |(go_at_call 163;refine Calls.mono HLo.out ?_;rintro e w1 ⟨rfl,hb1⟩;have H1:Hid _:=HC1.out w1 hb1;have HB1:Hid _:=hb1;have d4:w1.cell? ⟨b,4,none⟩=some (.int .i64 r.n.tm):=H1.out.1.blk.cell 4;clear hb1))
  go_upto_region 4 with fail
  obtain ⟨V,hV⟩:∃ V,V=w1.alloc (.cells #[.int .i64 2,.int .i64 0,.int .i64 0,.int .i64 r.n.tm,.int .i64 0,.int .i64 0,.int .i64 0,.int .i64 0,.int .i64 0,.slice none 0 0] 43):=⟨_,rfl⟩;rw [<-hV];have HBV:Hid (Below w1.heap.size w1 V):=by unfold Hid;rw [hV];exact Below.alloc0 _
  have HRV:Hid (Blk V w1.heap.size #[.int .i64 2,.int .i64 0,.int .i64 0,.int .i64 r.n.tm,.int .i64 0,.int .i64 0,.int .i64 0,.int .i64 0,.int .i64 0,.slice none 0 0] 43):=by unfold Hid;rw [hV];exact Blk.new _ _ _
  clear hV;have HCV:Hid (Z0 V B b r x):=H1.out.1.below HBV.out;have HMV:Hid (Blk V w.heap.size _ 43):=H1.out.2.2.below HBV.out H1.out.2.2.lt;have hzz:w.heap.size<w1.heap.size:=H1.out.2.2.lt;have q3:∀ u:BW V,u.w.cell? ⟨w.heap.size,3,none⟩=some (.int .i64 m.tm):=fun u=>(HMV.out.below u.h HMV.out.lt).cell 3
  have q4:∀ u:BW V,u.w.cell? ⟨b,4,none⟩=some (.int .i64 r.n.tm):=fun u=>(HCV.out.below u.h).blk.cell 4
  have qm:∀ u:BW V,Sem.run Tryz.prog (loadVar 43 ⟨w.heap.size,0,none⟩) u.w=.ok (.agg #[.int .i64 m.ki,.int .i64 m.fr,.int .i64 m.td,.int .i64 m.tm,.int .i64 m.li,.int .i64 m.lt,.int .i64 m.cm,.int .i64 m.ok,.int .i64 m.hi,.slice ea en ec]) u.w:=fun u=>Ja (HMV.out.below u.h HMV.out.lt) 43 Tryz.underlying43 rfl Zy
  have NEV:Nonempty (BW V):=⟨⟨V,Below.refl _ _⟩⟩;have HUt:Hid (∀ z,Below V.heap.size V z->Calls Tryz.prog 164 #[.pointer (some ⟨b,0,none⟩),.agg #[.int .i64 m.ki,.int .i64 m.fr,.int .i64 m.td,.int .i64 m.tm,.int .i64 m.li,.int .i64 m.lt,.int .i64 m.cm,.int .i64 m.ok,.int .i64 m.hi,.slice ea en ec]] z fun e w'=>e=.returned (.bool (utd r.n.log m))/\Below z.heap.size z w'):=fun z hz=>Z3d b r x m ea en ec z B (HCV.out.below hz) hll
  clear d4
  (try go_frame)
  obtain ⟨VB,hVB⟩:∃ VB,VB=(decide (r.n.tm<m.tm) && utd r.n.log m):=⟨_,rfl⟩;have HVB:Hid _:=hVB;clear hVB
  go_cut [26] (fun s z=>s=.bool VB/\Below V.heap.size V z)
  case first=>
   by_cases h1:r.n.tm<m.tm
   ·have h1d:decide (r.n.tm<m.tm)=true:=decide_eq_true h1
    refine wp_region_quiet (C:=fun w'=>∃ u:BW V,w'=u.w) (by kernel_rfl) (by kernel_rfl) ⟨⟨_,(Below.refl _ _).drew⟩,rfl⟩ ?_;rw [List.toList_toArray]
    repeat (first | (go_big_quiet_want;refine J1 (W:=V) 43 (.tmp 3) rfl rfl qm ?_;go_big_quiet_on;simp only [Act.put,List.setIfInBounds_toArray,List.set_cons_zero,List.set_cons_succ]) | go_big_quiet_step ((go_at_call 164;refine Calls.mono (HUt.out _ (BW.h _)) ?_;rintro e w9 ⟨rfl,hb9⟩;exact ⟨rfl,⟨⟨w9,(BW.h _).trans (hb9.mono (BW.h _).size)⟩,rfl⟩⟩)))
    refine wpQuiet_nil ?_;intro w5 hww5;have hb_w5:Below V.heap.size V w5:=(by obtain ⟨u,rfl⟩:=hww5;exact u.h);clear hww5
    go_wp2_with fail
    go_meet;exact ⟨by rw [HVB.out,h1d];simp,hb_w5⟩
   ·have h1d:decide (r.n.tm<m.tm)=false:=decide_eq_false h1
    refine wp_region_quiet (C:=fun w'=>∃ u:BW V,w'=u.w) (by kernel_rfl) (by kernel_rfl) ⟨⟨_,(Below.refl _ _).drew⟩,rfl⟩ ?_;rw [List.toList_toArray]
    repeat (first | go_big_quiet_step ((fail)))
    refine wpQuiet_nil ?_;intro w5 hww5;have hb_w5:Below V.heap.size V w5:=(by obtain ⟨u,rfl⟩:=hww5;exact u.h);clear hww5
    go_wp2_with fail
    go_meet;exact ⟨by rw [HVB.out,h1d];simp,hb_w5⟩
  case rest=>
   obtain ⟨rfl,hB6⟩:=hcut;obtain ⟨w6,hw6⟩:∃ z,z=wc:=⟨_,rfl⟩;rw [<-hw6] at hB6;subst hw6;have HB6:Hid _:=hB6;have HC6:Hid (Z0 w6 B b r x):=HCV.out.below hB6;have HM6:Hid (Blk w6 w.heap.size _ 43):=HMV.out.below hB6 HMV.out.lt;have HR6:Hid (Blk w6 w1.heap.size _ 43):=HRV.out.below hB6 HRV.out.lt;have HT6:Hid (Tch b w x w6 x):=Tch.below0 _ _ ((H1.out.2.1.trans (HBV.out.mono H1.out.2.1.size)).trans (hB6.mono (by have:=HBV.out.size;omega)));have p1:w6.cell? ⟨w.heap.size,1,none⟩=some (.int .i64 m.fr):=HM6.out.cell 1;have p3:w6.cell? ⟨w.heap.size,3,none⟩=some (.int .i64 m.tm):=HM6.out.cell 3;have r3:w6.cell? ⟨w1.heap.size,3,none⟩=some (.int .i64 r.n.tm):=HR6.out.cell 3;have r7:w6.cell? ⟨w1.heap.size,7,none⟩=some (.int .i64 0):=HR6.out.cell 7;have rf3:w6.frozen? ⟨w1.heap.size,3,none⟩=false:=HR6.out.free 3;have rf7:w6.frozen? ⟨w1.heap.size,7,none⟩=false:=HR6.out.free 7;have hnn:¬ w.heap.size=w1.heap.size:=by omega
   have hnn2:¬ w1.heap.size=w.heap.size:=by omega
   clear q3 q4 qm NEV HUt hB6;have G1:Hid True:=trivial;by_cases hv:VB=true
   ·have HQ2:Hid (RP=r.send ⟨2,0,m.fr,m.tm,0,0,0,1,0,[]⟩):=HQ.out.trans (if_pos (by have h9:=HVB.out;rw [hv] at h9;simpa using h9.symm))
    rw [hv];have HRn:Hid (Blk ((w6.setCell ⟨w1.heap.size,3,none⟩ (.int .i64 m.tm)).setCell ⟨w1.heap.size,7,none⟩ (.int .i64 1)) w1.heap.size #[.int .i64 2,.int .i64 0,.int .i64 0,.int .i64 m.tm,.int .i64 0,.int .i64 0,.int .i64 0,.int .i64 1,.int .i64 0,.slice none 0 0] 43):=(HR6.out.set 3 _).set 7 _;have HMn:Hid (Blk ((w6.setCell ⟨w1.heap.size,3,none⟩ (.int .i64 m.tm)).setCell ⟨w1.heap.size,7,none⟩ (.int .i64 1)) w.heap.size #[.int .i64 m.ki,.int .i64 m.fr,.int .i64 m.td,.int .i64 m.tm,.int .i64 m.li,.int .i64 m.lt,.int .i64 m.cm,.int .i64 m.ok,.int .i64 m.hi,.slice ea en ec] 43):=(HM6.out.set_other _ hnn).set_other _ hnn;have hnh:¬ x.has b w1.heap.size:=H1.out.1.hasnt_new (Nat.le_refl _)
    have HCn:Hid (Z0 ((w6.setCell ⟨w1.heap.size,3,none⟩ (.int .i64 m.tm)).setCell ⟨w1.heap.size,7,none⟩ (.int .i64 1)) B b r x/\Tch b w x ((w6.setCell ⟨w1.heap.size,3,none⟩ (.int .i64 m.tm)).setCell ⟨w1.heap.size,7,none⟩ (.int .i64 1)) x):=by
     have hs1:=H1.out.2.1.size;have hkk:∀ k,k≠w1.heap.size->((w6.setCell ⟨w1.heap.size,3,none⟩ (.int .i64 m.tm)).setCell ⟨w1.heap.size,7,none⟩ (.int .i64 1)).heap[k]? = w6.heap[k]?:=fun k hk=>(Below.heap_setCell _ _ _ _ hk).trans (Below.heap_setCell _ _ _ _ hk)
     refine ⟨HC6.out.keepAll (fun k hk=>hkk k (fun e=>hnh (e ▸ hk))) (fun p hp k e=>hkk k (fun e2=>by have:=(World.ownsRow.lt (H1.out.1.ents p hp).2 k e).2;omega)),⟨HT6.out.os,HT6.out.tape,HT6.out.output,by have:=HT6.out.size;simp [World.setCell];omega,fun k hk hn=>(hkk k (by omega)).trans (HT6.out.block k hk hn),HT6.out.at'⟩⟩
    clear HQ hv hnh HVB
    go_upto_region 6 with fail
    generalize (w6.setCell ⟨w1.heap.size,3,none⟩ (.int .i64 m.tm)).setCell ⟨w1.heap.size,7,none⟩ (.int .i64 1)=w7 at *;have s1:w7.cell? ⟨w.heap.size,1,none⟩=some (.int .i64 m.fr):=HMn.out.cell 1
    go_wp2_with (first
     |(have hBA:=G1;refine Z7 43 (.tmp 5) rfl ?_;clear hBA;refine Z3 rfl 43 (.tmp 5) rfl w1.heap.size rfl HRn.out Tryz.underlying43 rfl Zy rfl ?_;clear G1)
     |(go_at_call 165;refine Calls.mono (HSe.out _ _ _ HCn.out.1) ?_;rintro e w8 ⟨rfl,v8,y8,h8,t8⟩;have H8:Hid (Z0 w8 B b RP (x.sent v8 y8)):=(by unfold Hid;rw [HQ2.out];exact h8);have T8:Hid _:=HCn.out.2.trans t8;clear h8 t8))
    go_ret;exact ⟨rfl,_,H8.out,T8.out⟩
   ·have hvf:VB=false:=by simpa using hv
    have HQ2:Hid (RP=r.send ⟨2,0,m.fr,r.n.tm,0,0,0,0,0,[]⟩):=HQ.out.trans (if_neg (by have h9:=HVB.out;rw [hvf] at h9;simpa using h9.symm));rw [hvf];clear HQ hv hvf HVB
    go_wp2_with (first
     |(have hBA:=G1;refine Z7 43 (.tmp 5) rfl ?_;clear hBA;refine Z3 rfl 43 (.tmp 5) rfl w1.heap.size rfl HR6.out Tryz.underlying43 rfl Zy rfl ?_;clear G1)
     |(go_at_call 165;refine Calls.mono (HSe.out _ _ _ HC6.out) ?_;rintro e w8 ⟨rfl,v8,y8,h8,t8⟩;have H8:Hid (Z0 w8 B b RP (x.sent v8 y8)):=(by unfold Hid;rw [HQ2.out];exact h8);have T8:Hid _:=HT6.out.trans t8;clear h8 t8))
    go_ret;exact ⟨rfl,_,H8.out,T8.out⟩
 ·rw [hly] at HLo
  have HQ:Hid (r.preAsk m={ r with code:=2 }):=by unfold Hid Rn.preAsk;rw [hly,if_pos rfl]
  rw [HQ.out];go_enter Tryz.func130,Tryz.ntmps130
  go_upto_region 1 with fail
  rw [<-hW];clear hW
  go_wp2_with (first
   |(go_at_call 163;refine Calls.mono HLo.out ?_;rintro e w1 ⟨rfl,hb1⟩;have H1:Hid _:=HC1.out w1 hb1;clear hb1))
  go_ret;exact ⟨rfl,x,H1.out.1.codeQ 2,Tch.below0 _ _ H1.out.2.1⟩
end Go.Proofs.YtmmpoppgabadmaaGreat
namespace Go.Proofs.YtmmpoppgabadmaaGreat
open Go.RowKit Go.Maps
theorem Tch.hasnt {b:Nat}{w w':World}{x x':CV}(h:Tch b w x w' x'){k:Nat}(hk:k<w.heap.size)(hn:¬ x.has b k):¬ x'.has b k:=fun e=>(h.at' k e).elim hn (fun e2=>by omega)
theorem Z0.setOut {w:World}{B b:Nat}{r:Rn}{x:CV}(h:Z0 w B b r x)(q i:Nat)(v:Value)(hn:¬ x.has b q)(he:∀ p∈x.L,p.v.ownBlock≠some q):Z0 (w.setCell ⟨q,i,none⟩ v) B b r x:=
 h.keepAll (fun k hk=>Below.heap_setCell _ _ _ _ (fun e=>hn (by simp only at e;rw [<-e];exact hk))) (fun p hp k e=>Below.heap_setCell _ _ _ _ (fun e2=>he p hp (by simp only at e2;rw [<-e2];exact e)))
theorem Z0.entNe {w:World}{B b:Nat}{r:Rn}{x:CV}(h:Z0 w B b r x){q:Nat}{C:Array Value}{t:TypeId}(hq:Blk w q C t)(ht:t≠118):∀ p∈x.L,p.v.ownBlock≠some q:=fun p hp e=>by
 obtain ⟨cur,s,hk⟩:=Jm (h.ents p hp) e;exact ht (Yn hq hk)
theorem Z4o (r:Rn)(t:Int):(r.higher t).code=r.code:=by
 unfold Rn.higher;split
 ·exact (adopt_n r t).2.2.2.2.2.2.2.2.2.2.2.2.2.2
 ·rfl
theorem Z51 (b:Nat)(r:Rn)(x:CV)(m:Mg)(ea:Option Addr)(en ec:Nat)(w:World)(B:Nat)(h:Z0 w B b r x)(hc:r.code=0)(hl:x.L.length<=900)(hb:NdB r.n)(hd : -(2^63)<=r.draw)(hD:r.draw<2^63) :
  Calls Tryz.prog 132 #[.pointer (some ⟨b,0,none⟩),.agg #[.int .i64 m.ki,.int .i64 m.fr,.int .i64 m.td,.int .i64 m.tm,.int .i64 m.li,.int .i64 m.lt,.int .i64 m.cm,.int .i64 m.ok,.int .i64 m.hi,.slice ea en ec]] w fun e w'=>e=.returned (.int .i64 (r.voteAsk m).code)/\∃ x',Z0 w' B b (r.voteAsk m) x'/\Tch b w x w' x':=by
 obtain ⟨W,hW⟩:∃ W,W=w.alloc (.cells #[.int .i64 m.ki,.int .i64 m.fr,.int .i64 m.td,.int .i64 m.tm,.int .i64 m.li,.int .i64 m.lt,.int .i64 m.cm,.int .i64 m.ok,.int .i64 m.hi,.slice ea en ec] 43):=⟨_,rfl⟩;have HBW:Hid (Below w.heap.size w W):=by unfold Hid;rw [hW];exact Below.alloc0 _
 have HMW:Hid (Blk W w.heap.size #[.int .i64 m.ki,.int .i64 m.fr,.int .i64 m.td,.int .i64 m.tm,.int .i64 m.li,.int .i64 m.lt,.int .i64 m.cm,.int .i64 m.ok,.int .i64 m.hi,.slice ea en ec] 43):=by unfold Hid;rw [hW];exact Blk.new _ _ _
 have HCW:Hid (Z0 W B b r x):=h.below HBW.out;have HLo:Hid (Calls Tryz.prog 163 #[.pointer (some ⟨b,0,none⟩)] W fun e w'=>e=.returned (.bool (Z19 r.n))/\Below W.heap.size W w'):=loyal_any b r x W B HCW.out hb.nw0 hb.nw1 hb.hd0 hb.hd1;have HnW:Hid (¬ x.has b w.heap.size):=h.hasnt_new (Nat.le_refl _);have HC1:Hid (∀ z,Below W.heap.size W z->Z0 z B b r x/\Tch b W x z x/\Blk z w.heap.size #[.int .i64 m.ki,.int .i64 m.fr,.int .i64 m.td,.int .i64 m.tm,.int .i64 m.li,.int .i64 m.lt,.int .i64 m.cm,.int .i64 m.ok,.int .i64 m.hi,.slice ea en ec] 43):=fun z hz=>⟨HCW.out.below hz,Tch.below0 _ _ hz,HMW.out.below hz HMW.out.lt⟩
 have HMt:Hid (∀ z x',Tch b W x z x'->Blk z w.heap.size #[.int .i64 m.ki,.int .i64 m.fr,.int .i64 m.td,.int .i64 m.tm,.int .i64 m.li,.int .i64 m.lt,.int .i64 m.cm,.int .i64 m.ok,.int .i64 m.hi,.slice ea en ec] 43):=fun z x' ht=>ht.blk HMW.out HnW.out
 have hblt:=h.lt;clear h;cases hly:Z19 r.n
 ·rw [hly] at HLo
  obtain ⟨R1,hR1⟩:∃ R1,R1=r.higher m.tm:=⟨_,rfl⟩;have HQ:Hid (r.voteAsk m=if m.tm=R1.n.tm/\(R1.n.vo=0∨R1.n.vo=m.fr)/\utd R1.n.log m=true then Rn.send (Rn.timer { R1.lone with n:={ R1.lone.n with vo:=m.fr } }) ⟨4,0,m.fr,R1.n.tm,0,0,0,1,0,[]⟩ else R1.send ⟨4,0,m.fr,R1.n.tm,0,0,0,0,0,[]⟩):=by unfold Hid;rw [hR1];unfold Rn.voteAsk;rw [hly,if_neg (by decide)]
  have HK1:Hid (R1.code=0):=by unfold Hid;rw [hR1,Z4o];exact hc
  have HK:Hid ((r.voteAsk m).code=0):=by unfold Hid;rw [HQ.out];split <;> exact HK1.out
  have HNb:Hid (NdB R1.n):=by unfold Hid;rw [hR1];exact hb.higher _
  have HDr:Hid (R1.draw=r.draw):=by unfold Hid;rw [hR1];exact Z16 _ _
  have HHi:Hid _:=hR1;have HAd:Hid (∀ z,Below W.heap.size W z->Calls Tryz.prog 170 #[.pointer (some ⟨b,0,none⟩),.int .i64 m.tm] z fun e w'=>e=.returned (.tuple #[])/\Z0 w' B b (r.adopt m.tm) x.lone/\Tch b z x w' x.lone):=fun z hz=>Z40 b r x m.tm z B (HCW.out.below hz) hd hD hb.nw0 hb.nw1
  have HSe:Hid (∀ z R X t k,Z0 z B b R X->X.L.length<=900->Calls Tryz.prog 165 #[.pointer (some ⟨b,0,none⟩),.int .i64 m.fr,.agg #[.int .i64 4,.int .i64 0,.int .i64 0,.int .i64 t,.int .i64 0,.int .i64 0,.int .i64 0,.int .i64 k,.int .i64 0,.slice none 0 0]] z fun e w'=>e=.returned (.tuple #[])/\∃ v y,Z0 w' B b (R.send ⟨4,0,m.fr,t,0,0,0,k,0,[]⟩) (X.sent v y)/\Tch b z X w' (X.sent v y)):=fun z R X t k hz hX=>Z1g b R X ⟨4,0,0,t,0,0,0,k,0,[]⟩ m.fr none 0 z B hz (Zd.nil _ _) (fun k e=>by cases e) (by omega)
  rw [HK.out];clear HK hR1;generalize r.voteAsk m=RP at *;go_enter Tryz.func132,Tryz.ntmps132
  go_upto_region 1 with fail
  rw [<-hW];clear hW
  go_upto_region 3 with (first
   |(go_at_call 163;refine Calls.mono HLo.out ?_;rintro e w1 ⟨rfl,hb1⟩;have H1:Hid _:=HC1.out w1 hb1;have HB1:Hid _:=hb1;have d4:w1.cell? ⟨b,4,none⟩=some (.int .i64 r.n.tm):=H1.out.1.blk.cell 4;have n3:w1.cell? ⟨w.heap.size,3,none⟩=some (.int .i64 m.tm):=H1.out.2.2.cell 3;clear hb1))
  go_quiet (fail)
  obtain ⟨w2,hw2⟩:∃ z,z=w1.drewN nq:=⟨_,rfl⟩;have HB2:Hid (Below W.heap.size W w2):=by unfold Hid;rw [hw2];exact HB1.out.trans (Zo _ _ _)
  rw [<-hw2];clear hw2 d4 n3;have n3:w2.cell? ⟨w.heap.size,3,none⟩=some (.int .i64 m.tm):=(HC1.out w2 HB2.out).2.2.cell 3
  go_upto_if 15 with fail
  go_cut [] (fun z=>∃ X1,Z0 z B b R1 X1/\Tch b W x z X1/\X1.L=x.L)
  case first=>
   by_cases ht:r.n.tm<m.tm
   ·have htd:decide (r.n.tm<m.tm)=true:=decide_eq_true ht
    have HH2:Hid (R1=r.adopt m.tm):=HHi.out.trans (if_pos ht);rw [htd];clear ht htd HHi
    go_wp2_with (first
     |(go_at_call 170;refine Calls.mono (HAd.out _ HB2.out) ?_;rintro e w3 ⟨rfl,h2,t2⟩;have H2:Hid _:=h2;have T2:Hid (Tch b W x w3 x.lone):=Tch.head HB2.out t2;clear h2 t2))
    go_meet;exact ⟨x.lone,by rw [HH2.out];exact H2.out,T2.out,rfl⟩
   ·have htd:decide (r.n.tm<m.tm)=false:=decide_eq_false ht
    have HH2:Hid (R1=r):=HHi.out.trans (if_neg ht);rw [htd];clear ht htd HHi
    go_wp2_with fail
    go_meet;exact ⟨x,by rw [HH2.out];exact (HC1.out w2 HB2.out).1,Tch.below0 _ _ HB2.out,rfl⟩
  case rest=>
   obtain ⟨X1,hC,hT,hX⟩:=hcut;obtain ⟨w4,hw4⟩:∃ z,z=wc:=⟨_,rfl⟩;rw [<-hw4] at hC hT;subst hw4;have HC4:Hid _:=hC;have HT4:Hid _:=hT;have HX:Hid (X1.L=x.L):=hX;have HM4:Hid (Blk w4 w.heap.size _ 43):=HMt.out w4 X1 hT;have d4:w4.cell? ⟨b,4,none⟩=some (.int .i64 R1.n.tm):=hC.blk.cell 4;have hzw:w.heap.size<w4.heap.size:=HM4.out.lt;clear hC hT hX n3
   go_upto_region 6 with fail
   obtain ⟨V,hV⟩:∃ V,V=w4.alloc (.cells #[.int .i64 4,.int .i64 0,.int .i64 0,.int .i64 R1.n.tm,.int .i64 0,.int .i64 0,.int .i64 0,.int .i64 0,.int .i64 0,.slice none 0 0] 43):=⟨_,rfl⟩;rw [<-hV];have HBV:Hid (Below w4.heap.size w4 V):=by unfold Hid;rw [hV];exact Below.alloc0 _
   have HRV:Hid (Blk V w4.heap.size #[.int .i64 4,.int .i64 0,.int .i64 0,.int .i64 R1.n.tm,.int .i64 0,.int .i64 0,.int .i64 0,.int .i64 0,.int .i64 0,.slice none 0 0] 43):=by unfold Hid;rw [hV];exact Blk.new _ _ _
   clear hV d4;have HCV:Hid (Z0 V B b R1 X1):=HC4.out.below HBV.out;have HMV:Hid (Blk V w.heap.size _ 43):=HM4.out.below HBV.out HM4.out.lt;have q3:∀ u:BW V,u.w.cell? ⟨w.heap.size,3,none⟩=some (.int .i64 m.tm):=fun u=>(HMV.out.below u.h HMV.out.lt).cell 3
   have q1:∀ u:BW V,u.w.cell? ⟨w.heap.size,1,none⟩=some (.int .i64 m.fr):=fun u=>(HMV.out.below u.h HMV.out.lt).cell 1
   have q4:∀ u:BW V,u.w.cell? ⟨b,4,none⟩=some (.int .i64 R1.n.tm):=fun u=>(HCV.out.below u.h).blk.cell 4
   have q5:∀ u:BW V,u.w.cell? ⟨b,5,none⟩=some (.int .i64 R1.n.vo):=fun u=>(HCV.out.below u.h).blk.cell 5
   have qm:∀ u:BW V,Sem.run Tryz.prog (loadVar 43 ⟨w.heap.size,0,none⟩) u.w=.ok (.agg #[.int .i64 m.ki,.int .i64 m.fr,.int .i64 m.td,.int .i64 m.tm,.int .i64 m.li,.int .i64 m.lt,.int .i64 m.cm,.int .i64 m.ok,.int .i64 m.hi,.slice ea en ec]) u.w:=fun u=>Ja (HMV.out.below u.h HMV.out.lt) 43 Tryz.underlying43 rfl Zy
   have NEV:Nonempty (BW V):=⟨⟨V,Below.refl _ _⟩⟩;have HUt:Hid (∀ z,Below V.heap.size V z->Calls Tryz.prog 164 #[.pointer (some ⟨b,0,none⟩),.agg #[.int .i64 m.ki,.int .i64 m.fr,.int .i64 m.td,.int .i64 m.tm,.int .i64 m.li,.int .i64 m.lt,.int .i64 m.cm,.int .i64 m.ok,.int .i64 m.hi,.slice ea en ec]] z fun e w'=>e=.returned (.bool (utd R1.n.log m))/\Below z.heap.size z w'):=fun z hz=>Z3d b R1 X1 m ea en ec z B (HCV.out.below hz) HNb.out.ln
   obtain ⟨VB,hVB⟩:∃ VB,VB=vaB R1.n m:=⟨_,rfl⟩;have HVB:Hid _:=hVB;clear hVB
   (try go_frame)
   go_cut [56] (fun s z=>s=.bool VB/\Below V.heap.size V z)
   case first=>
    have HV:Hid (VB=((m.tm == R1.n.tm) && ((R1.n.vo == 0) || (R1.n.vo == m.fr)) && utd R1.n.log m)):=HVB.out;clear HVB;cases h1:(m.tm == R1.n.tm)
    ·rw [h1] at HV
     refine wp_region_quiet (C:=fun w'=>∃ u:BW V,w'=u.w) (by kernel_rfl) (by kernel_rfl) ⟨⟨_,(Below.refl _ _).drew⟩,rfl⟩ ?_;rw [List.toList_toArray]
     repeat (first | go_big_quiet_step ((fail)))
     refine wpQuiet_nil ?_;intro w5 hww5;have hb_w5:Below V.heap.size V w5:=(by obtain ⟨u,rfl⟩:=hww5;exact u.h);clear hww5
     go_wp2_with fail
     go_meet;exact ⟨by rw [HV.out];rfl,hb_w5⟩
    ·cases h2:(R1.n.vo == 0)
     ·cases h3:(R1.n.vo == m.fr)
      ·rw [h1,h2,h3] at HV
       refine wp_region_quiet (C:=fun w'=>∃ u:BW V,w'=u.w) (by kernel_rfl) (by kernel_rfl) ⟨⟨_,(Below.refl _ _).drew⟩,rfl⟩ ?_;rw [List.toList_toArray]
       repeat (first | go_big_quiet_step ((fail)))
       refine wpQuiet_nil ?_;intro w5 hww5;have hb_w5:Below V.heap.size V w5:=(by obtain ⟨u,rfl⟩:=hww5;exact u.h);clear hww5
       go_wp2_with fail
       go_meet;exact ⟨by rw [HV.out];rfl,hb_w5⟩
      ·rw [h1,h2,h3] at HV
       refine wp_region_quiet (C:=fun w'=>∃ u:BW V,w'=u.w) (by kernel_rfl) (by kernel_rfl) ⟨⟨_,(Below.refl _ _).drew⟩,rfl⟩ ?_;rw [List.toList_toArray]
       repeat (first | (go_big_quiet_want;refine J1 (W:=V) 43 (.tmp 3) rfl rfl qm ?_;go_big_quiet_on;simp only [Act.put,List.setIfInBounds_toArray,List.set_cons_zero,List.set_cons_succ]) | go_big_quiet_step ((go_at_call 164;refine Calls.mono (HUt.out _ (BW.h _)) ?_;rintro e w9 ⟨rfl,hb9⟩;exact ⟨rfl,⟨⟨w9,(BW.h _).trans (hb9.mono (BW.h _).size)⟩,rfl⟩⟩)))
       refine wpQuiet_nil ?_;intro w5 hww5;have hb_w5:Below V.heap.size V w5:=(by obtain ⟨u,rfl⟩:=hww5;exact u.h);clear hww5
       go_wp2_with fail
       go_meet;exact ⟨by rw [HV.out];simp,hb_w5⟩
     ·rw [h1,h2] at HV
      refine wp_region_quiet (C:=fun w'=>∃ u:BW V,w'=u.w) (by kernel_rfl) (by kernel_rfl) ⟨⟨_,(Below.refl _ _).drew⟩,rfl⟩ ?_;rw [List.toList_toArray]
      repeat (first | (go_big_quiet_want;refine J1 (W:=V) 43 (.tmp 3) rfl rfl qm ?_;go_big_quiet_on;simp only [Act.put,List.setIfInBounds_toArray,List.set_cons_zero,List.set_cons_succ]) | go_big_quiet_step ((go_at_call 164;refine Calls.mono (HUt.out _ (BW.h _)) ?_;rintro e w9 ⟨rfl,hb9⟩;exact ⟨rfl,⟨⟨w9,(BW.h _).trans (hb9.mono (BW.h _).size)⟩,rfl⟩⟩)))
      refine wpQuiet_nil ?_;intro w5 hww5;have hb_w5:Below V.heap.size V w5:=(by obtain ⟨u,rfl⟩:=hww5;exact u.h);clear hww5
      go_wp2_with fail
      go_meet;exact ⟨by rw [HV.out];simp,hb_w5⟩
   case rest=>
    obtain ⟨rfl,hB6⟩:=hcut;obtain ⟨w6,hw6⟩:∃ z,z=wc:=⟨_,rfl⟩;rw [<-hw6] at hB6;subst hw6;have HC6:Hid (Z0 w6 B b R1 X1):=HCV.out.below hB6;have HM6:Hid (Blk w6 w.heap.size _ 43):=HMV.out.below hB6 HMV.out.lt;have HR6:Hid (Blk w6 w4.heap.size _ 43):=HRV.out.below hB6 HRV.out.lt;have HT46:Hid (Tch b w4 X1 w6 X1):=Tch.below0 _ _ (HBV.out.trans (hB6.mono HBV.out.size));have HnR:Hid (¬ X1.has b w4.heap.size):=HC4.out.hasnt_new (Nat.le_refl _);have hzR:w4.heap.size<w6.heap.size:=HR6.out.lt;have hnn:¬ w.heap.size=w4.heap.size:=by omega
    have p1:w6.cell? ⟨w.heap.size,1,none⟩=some (.int .i64 m.fr):=HM6.out.cell 1;have HnM:Hid (¬ X1.has b w.heap.size):=HT4.out.hasnt HMW.out.lt HnW.out;have HX9:Hid (X1.L.length<=900):=by unfold Hid;rw [HX.out];exact hl
    clear q3 q1 q4 q5 qm NEV HUt hB6;have G1:Hid True:=trivial;by_cases hv:VB=true
    ·have HQ2:Hid (RP=Rn.send (Rn.timer { R1.lone with n:={ R1.lone.n with vo:=m.fr } }) ⟨4,0,m.fr,R1.n.tm,0,0,0,1,0,[]⟩):=HQ.out.trans (if_pos ((vaB_iff _ _).1 (HVB.out.symm.trans hv)))
     rw [hv];have c5:w6.cell? ⟨b,5,none⟩=some (.int .i64 R1.n.vo):=HC6.out.blk.cell 5;have f5:w6.frozen? ⟨b,5,none⟩=false:=HC6.out.blk.free 5;have HCs:Hid (Z0 (w6.setCell ⟨b,5,none⟩ (.int .i64 m.fr)) B b { R1 with n:={ R1.n with vo:=m.fr } } X1):=HC6.out.set 5 _ rfl rfl rfl rfl rfl rfl rfl rfl rfl rfl Iff.rfl;have HTs:Hid (Tch b w6 X1 (w6.setCell ⟨b,5,none⟩ (.int .i64 m.fr)) X1):=Tch.set _ _ _ _ _;have HFo:Hid (Calls Tryz.prog 155 #[.pointer (some ⟨b,0,none⟩),.int .i64 0] (w6.setCell ⟨b,5,none⟩ (.int .i64 m.fr)) fun e w'=>e=.returned (.tuple #[])/\Z0 w' B b { R1.lone with n:={ R1.lone.n with vo:=m.fr } } X1.lone/\Tch b (w6.setCell ⟨b,5,none⟩ (.int .i64 m.fr)) X1 w' X1.lone):=Z0v b _ X1 0 _ B HCs.out;have HTm:Hid (∀ z,Z0 z B b { R1.lone with n:={ R1.lone.n with vo:=m.fr } } X1.lone->Calls Tryz.prog 156 #[.pointer (some ⟨b,0,none⟩)] z fun e w'=>e=.returned (.tuple #[])/\Z0 w' B b (Rn.timer { R1.lone with n:={ R1.lone.n with vo:=m.fr } }) X1.lone/\Tch b z X1.lone w' X1.lone):=fun z hz=>Jg b _ X1.lone z B hz (by rw [show ({ R1.lone with n:={ R1.lone.n with vo:=m.fr } } : Rn).draw=R1.draw from rfl,HDr.out];exact hd) (by rw [show ({ R1.lone with n:={ R1.lone.n with vo:=m.fr } } : Rn).draw=R1.draw from rfl,HDr.out];exact hD) HNb.out.nw0 HNb.out.nw1
     have HR7:Hid (∀ z X,Tch b w6 X1 z X->Blk z w4.heap.size #[.int .i64 4,.int .i64 0,.int .i64 0,.int .i64 R1.n.tm,.int .i64 0,.int .i64 0,.int .i64 0,.int .i64 0,.int .i64 0,.slice none 0 0] 43/\Blk z w.heap.size #[.int .i64 m.ki,.int .i64 m.fr,.int .i64 m.td,.int .i64 m.tm,.int .i64 m.li,.int .i64 m.lt,.int .i64 m.cm,.int .i64 m.ok,.int .i64 m.hi,.slice ea en ec] 43/\¬ X.has b w4.heap.size/\¬ X.has b w.heap.size):=fun z X ht=>⟨ht.blk HR6.out HnR.out,ht.blk HM6.out HnM.out,ht.hasnt HR6.out.lt HnR.out,ht.hasnt HM6.out.lt HnM.out⟩
     generalize Rn.timer { R1.lone with n:={ R1.lone.n with vo:=m.fr } }=RT at *;generalize ({ R1.lone with n:={ R1.lone.n with vo:=m.fr } } : Rn)=RL at *;clear HQ hv HVB
     go_upto_region 10 with (first
      |(go_at_call 155;refine Calls.mono HFo.out ?_;rintro e w7 ⟨rfl,h7,t7⟩;have H7:Hid _:=h7;have T7:Hid (Tch b w6 X1 w7 X1.lone):=HTs.out.trans t7;clear h7 t7)
      |(go_at_call 156;refine Calls.mono (HTm.out _ H7.out) ?_;rintro e w8 ⟨rfl,h8,t8⟩;have H8:Hid _:=h8;have T8:Hid (Tch b w6 X1 w8 X1.lone):=T7.out.trans t8;obtain ⟨hRb,hMb,hn1,hn2⟩:=HR7.out w8 _ T8.out;have HRb:Hid (Blk w8 w4.heap.size _ 43):=hRb;have HMb:Hid (Blk w8 w.heap.size _ 43):=hMb;have Hn1:Hid (¬ X1.lone.has b w4.heap.size):=hn1;have r7:w8.cell? ⟨w4.heap.size,7,none⟩=some (.int .i64 0):=hRb.cell 7;have rf7:w8.frozen? ⟨w4.heap.size,7,none⟩=false:=hRb.free 7;clear h8 t8 hRb hMb hn1 hn2))
     have HRn:Hid (Blk (w8.setCell ⟨w4.heap.size,7,none⟩ (.int .i64 1)) w4.heap.size #[.int .i64 4,.int .i64 0,.int .i64 0,.int .i64 R1.n.tm,.int .i64 0,.int .i64 0,.int .i64 0,.int .i64 1,.int .i64 0,.slice none 0 0] 43):=HRb.out.set 7 _;have HMn:Hid (Blk (w8.setCell ⟨w4.heap.size,7,none⟩ (.int .i64 1)) w.heap.size #[.int .i64 m.ki,.int .i64 m.fr,.int .i64 m.td,.int .i64 m.tm,.int .i64 m.li,.int .i64 m.lt,.int .i64 m.cm,.int .i64 m.ok,.int .i64 m.hi,.slice ea en ec] 43):=HMb.out.set_other _ hnn
     have HCn:Hid (Z0 (w8.setCell ⟨w4.heap.size,7,none⟩ (.int .i64 1)) B b RT X1.lone/\Tch b w4 X1 (w8.setCell ⟨w4.heap.size,7,none⟩ (.int .i64 1)) X1.lone):=by
      have hT9:=HT46.out.trans T8.out;refine ⟨H8.out.setOut _ 7 _ Hn1.out (H8.out.entNe HRb.out (by decide)),⟨hT9.os,hT9.tape,hT9.output,by have:=hT9.size;simp [World.setCell];omega,fun k hk hn=>(Below.heap_setCell _ _ _ _ (by simp only;omega)).trans (hT9.block k hk hn),hT9.at'⟩⟩
     go_upto_region 11 with fail
     generalize w8.setCell ⟨w4.heap.size,7,none⟩ (.int .i64 1)=w9 at *;have s1:w9.cell? ⟨w.heap.size,1,none⟩=some (.int .i64 m.fr):=HMn.out.cell 1
     go_wp2_with (first
      |(have hBA:=G1;refine Z7 43 (.tmp 5) rfl ?_;clear hBA;refine Z3 rfl 43 (.tmp 5) rfl w4.heap.size rfl HRn.out Tryz.underlying43 rfl Zy rfl ?_;clear G1)
      |(go_at_call 165;refine Calls.mono (HSe.out _ _ _ _ _ HCn.out.1 HX9.out) ?_;rintro e wz ⟨rfl,vz,yz,hz,tz⟩;have HZ:Hid (Z0 wz B b RP (X1.lone.sent vz yz)):=(by unfold Hid;rw [HQ2.out];exact hz);have TZ:Hid (Tch b W x wz (X1.lone.sent vz yz)):=(HT4.out.trans HCn.out.2).trans tz;clear hz tz))
     go_ret;exact ⟨rfl,_,HZ.out,Tch.head HBW.out TZ.out⟩
    ·have hvf:VB=false:=by simpa using hv
     have HQ2:Hid (RP=R1.send ⟨4,0,m.fr,R1.n.tm,0,0,0,0,0,[]⟩):=HQ.out.trans (if_neg (fun h9=>hv (HVB.out.trans ((vaB_iff _ _).2 h9))));rw [hvf];clear HQ hv hvf HVB
     go_wp2_with (first
      |(have hBA:=G1;refine Z7 43 (.tmp 5) rfl ?_;clear hBA;refine Z3 rfl 43 (.tmp 5) rfl w4.heap.size rfl HR6.out Tryz.underlying43 rfl Zy rfl ?_;clear G1)
      |(go_at_call 165;refine Calls.mono (HSe.out _ _ _ _ _ HC6.out HX9.out) ?_;rintro e wz ⟨rfl,vz,yz,hz,tz⟩;have HZ:Hid (Z0 wz B b RP (X1.sent vz yz)):=(by unfold Hid;rw [HQ2.out];exact hz);have TZ:Hid (Tch b W x wz (X1.sent vz yz)):=(HT4.out.trans HT46.out).trans tz;clear hz tz))
     go_ret;exact ⟨rfl,_,HZ.out,Tch.head HBW.out TZ.out⟩
 ·rw [hly] at HLo
  have HQ:Hid (r.voteAsk m={ r with code:=2 }):=by unfold Hid Rn.voteAsk;rw [hly,if_pos rfl]
  rw [HQ.out];go_enter Tryz.func132,Tryz.ntmps132
  go_upto_region 1 with fail
  rw [<-hW];clear hW
  go_wp2_with (first
   |(go_at_call 163;refine Calls.mono HLo.out ?_;rintro e w1 ⟨rfl,hb1⟩;have H1:Hid _:=HC1.out w1 hb1;clear hb1))
  go_ret;exact ⟨rfl,x,H1.out.1.codeQ 2,Tch.head HBW.out H1.out.2.1⟩
end Go.Proofs.YtmmpoppgabadmaaGreat
namespace Go.Proofs.YtmmpoppgabadmaaGreat
open Go.RowKit Go.Maps
theorem stand_code (r:Rn):r.stand.code=r.code:=Z2g _ _ _
theorem lead_code (r:Rn):r.lead.code=r.code:=by
 rw [leadG_eq];unfold Rn.sendAll;rw [Z1o];rfl
def pyI (n:Nd)(m:Mg):Bool:=(n.ro != 1) || (m.tm != n.tm+1) || decide (m.fr∈n.gr)
theorem pyI_iff (n:Nd)(m:Mg):pyI n m=true↔(n.ro≠1∨m.tm≠n.tm+1∨m.fr∈n.gr):=by unfold pyI;simp [or_assoc]
def vrI (n:Nd)(m:Mg):Bool:=(n.ro != 2) || (m.tm != n.tm) || (m.ok == 0) || decide (m.fr∈n.gr)
theorem vrI_iff (n:Nd)(m:Mg):vrI n m=true↔(n.ro≠2∨m.tm≠n.tm∨m.ok=0∨m.fr∈n.gr):=by unfold vrI;simp [or_assoc]
theorem Z3z (b:Nat)(r:Rn)(x:CV)(m:Mg)(ea:Option Addr)(en ec:Nat)(w:World)(B:Nat)(h:Z0 w B b r x)(hc:r.code=0)(hl:x.L.length<=900)(hb:NdB r.n)(hd : -(2^63)<=r.draw)(hD:r.draw<2^63)(ht0:0<=r.n.tm)(ht1:r.n.tm<=1073741824)(hf0:1<=m.fr)(hf1:m.fr<=r.n.sz) :
  Calls Tryz.prog 131 #[.pointer (some ⟨b,0,none⟩),.agg #[.int .i64 m.ki,.int .i64 m.fr,.int .i64 m.td,.int .i64 m.tm,.int .i64 m.li,.int .i64 m.lt,.int .i64 m.cm,.int .i64 m.ok,.int .i64 m.hi,.slice ea en ec]] w fun e w'=>e=.returned (.int .i64 (r.preReply m).code)/\∃ x',Z0 w' B b (r.preReply m) x'/\Tch b w x w' x':=by
 obtain ⟨W,hW⟩:∃ W,W=w.alloc (.cells #[.int .i64 m.ki,.int .i64 m.fr,.int .i64 m.td,.int .i64 m.tm,.int .i64 m.li,.int .i64 m.lt,.int .i64 m.cm,.int .i64 m.ok,.int .i64 m.hi,.slice ea en ec] 43):=⟨_,rfl⟩;have HBW:Hid (Below w.heap.size w W):=by unfold Hid;rw [hW];exact Below.alloc0 _
 have HMW:Hid (Blk W w.heap.size #[.int .i64 m.ki,.int .i64 m.fr,.int .i64 m.td,.int .i64 m.tm,.int .i64 m.li,.int .i64 m.lt,.int .i64 m.cm,.int .i64 m.ok,.int .i64 m.hi,.slice ea en ec] 43):=by unfold Hid;rw [hW];exact Blk.new _ _ _
 have HCW:Hid (Z0 W B b r x):=h.below HBW.out;have HC1:Hid (∀ z,Below W.heap.size W z->Z0 z B b r x/\Tch b W x z x/\Blk z w.heap.size #[.int .i64 m.ki,.int .i64 m.fr,.int .i64 m.td,.int .i64 m.tm,.int .i64 m.li,.int .i64 m.lt,.int .i64 m.cm,.int .i64 m.ok,.int .i64 m.hi,.slice ea en ec] 43):=fun z hz=>⟨HCW.out.below hz,Tch.below0 _ _ hz,HMW.out.below hz HMW.out.lt⟩
 have z1:=h.ci.sz1;have n1:W.cell? ⟨w.heap.size,1,none⟩=some (.int .i64 m.fr):=HMW.out.cell 1;have n3:W.cell? ⟨w.heap.size,3,none⟩=some (.int .i64 m.tm):=HMW.out.cell 3;have n7:W.cell? ⟨w.heap.size,7,none⟩=some (.int .i64 m.ok):=HMW.out.cell 7;have HTt:Hid (∀ z,Below W.heap.size W z->Calls Tryz.prog 166 #[.pointer (some ⟨b,0,none⟩),.int .i64 m.tm] z fun e w'=>e=.returned (.int .i64 (r.takeTerm m.tm).code)/\∃ x',Z0 w' B b (r.takeTerm m.tm) x'/\Tch b z x w' x'):=fun z hz=>Z1v b r x m.tm z B (HCW.out.below hz) hd hD hb.nw0 hb.nw1 hc
 have HHg:Hid (∀ z,Below W.heap.size W z->Calls Tryz.prog 167 #[.pointer (some ⟨b,0,none⟩),.int .i64 m.fr] z fun e w'=>e=.returned (.bool (decide (m.fr∈r.n.gr)))/\Below z.heap.size z w'):=fun z hz=>Z21 b r x m.fr z B (HCW.out.below hz) (by omega) (by omega)
 have HGr:Hid (∀ z,Below W.heap.size W z->Calls Tryz.prog 168 #[.pointer (some ⟨b,0,none⟩),.int .i64 m.fr] z fun e w'=>e=.returned (.bool (Xe (Zh r.n.gr m.fr r.n.sz.toNat).length r.n.sz))/\Z0 w' B b { r with n:={ r.n with gr:=Zh r.n.gr m.fr r.n.sz.toNat } } x/\Tch b z x w' x):=fun z hz=>grant_any b r x m.fr z B (HCW.out.below hz) hf0 hf1
 have q6:∀ u:BW W,u.w.cell? ⟨b,6,none⟩=some (.int .i64 r.n.ro):=fun u=>(HCW.out.below u.h).blk.cell 6
 have q4:∀ u:BW W,u.w.cell? ⟨b,4,none⟩=some (.int .i64 r.n.tm):=fun u=>(HCW.out.below u.h).blk.cell 4
 have q1:∀ u:BW W,u.w.cell? ⟨w.heap.size,1,none⟩=some (.int .i64 m.fr):=fun u=>(HMW.out.below u.h HMW.out.lt).cell 1
 have q3:∀ u:BW W,u.w.cell? ⟨w.heap.size,3,none⟩=some (.int .i64 m.tm):=fun u=>(HMW.out.below u.h HMW.out.lt).cell 3
 have q7:∀ u:BW W,u.w.cell? ⟨w.heap.size,7,none⟩=some (.int .i64 m.ok):=fun u=>(HMW.out.below u.h HMW.out.lt).cell 7
 have NEW:Nonempty (BW W):=⟨⟨W,Below.refl _ _⟩⟩;clear h;by_cases hok:m.ok=0
 ·have HQ:Hid (r.preReply m=r.takeTerm m.tm):=by unfold Hid Rn.preReply;rw [if_pos hok]
  rw [HQ.out];have hkb:(m.ok == 0)=true:=by simpa using hok
  clear HQ hok;generalize r.takeTerm m.tm=RP at *;go_enter Tryz.func131,Tryz.ntmps131
  go_upto_region 1 with fail
  rw [<-hW];clear hW
  go_wp2_with (first
   |(go_at_call 166;refine Calls.mono (HTt.out _ (Below.refl _ _)) ?_;rintro e w1 ⟨rfl,x1,h1,t1⟩;have H1:Hid _:=h1;have T1:Hid _:=Tch.head HBW.out t1;clear h1 t1))
  go_ret;exact ⟨rfl,_,H1.out,T1.out⟩
 have hkb:(m.ok == 0)=false:=by simpa using hok
 have HQ:Hid (r.preReply m=if r.n.ro≠1∨m.tm≠r.n.tm+1∨m.fr∈r.n.gr then r.stale else if Xe (Zh r.n.gr m.fr r.n.sz.toNat).length r.n.sz=true then Rn.stand { r with n:={ r.n with gr:=Zh r.n.gr m.fr r.n.sz.toNat } } else { r with n:={ r.n with gr:=Zh r.n.gr m.fr r.n.sz.toNat } }):=by
  unfold Hid Rn.preReply;rw [if_neg hok];rfl
 have hwt:IntKind.i64.wrap (r.n.tm+1)=r.n.tm+1:=by rw [IntKind.wrap_i64];omega
 obtain ⟨VB,hVB⟩:∃ VB,VB=pyI r.n m:=⟨_,rfl⟩;have HVB:Hid (VB=pyI r.n m):=hVB;clear hVB hok;obtain ⟨RP,hRP⟩:∃ RP,RP=r.preReply m:=⟨_,rfl⟩;rw [<-hRP] at HQ ⊢;clear hRP;go_enter Tryz.func131,Tryz.ntmps131
 go_upto_region 1 with fail
 rw [<-hW];clear hW
 go_upto_region 3 with fail
 go_cut [34] (fun s z=>s=.bool VB/\Below W.heap.size W z)
 case first=>
  have HV:Hid (VB=((r.n.ro != 1) || (m.tm != r.n.tm+1) || decide (m.fr∈r.n.gr))):=HVB.out;clear HVB;cases h1:(r.n.ro != 1)
  ·cases h2:(m.tm != r.n.tm+1)
   ·rw [h1,h2] at HV
    refine wp_region_quiet (C:=fun w'=>∃ u:BW W,w'=u.w) (by kernel_rfl) (by kernel_rfl) ⟨⟨_,(Below.refl _ _).drew⟩,rfl⟩ ?_;rw [List.toList_toArray]
    repeat (first | go_big_quiet_step ((go_at_call 167;refine Calls.mono (HHg.out _ (BW.h _)) ?_;rintro e w9 ⟨rfl,hb9⟩;exact ⟨rfl,⟨⟨w9,(BW.h _).trans (hb9.mono (BW.h _).size)⟩,rfl⟩⟩)))
    refine wpQuiet_nil ?_;intro w5 hww5;have hb_w5:Below W.heap.size W w5:=(by obtain ⟨u,rfl⟩:=hww5;exact u.h);clear hww5
    go_wp2_with fail
    go_meet;exact ⟨by rw [HV.out];simp,hb_w5⟩
   ·rw [h1,h2] at HV
    refine wp_region_quiet (C:=fun w'=>∃ u:BW W,w'=u.w) (by kernel_rfl) (by kernel_rfl) ⟨⟨_,(Below.refl _ _).drew⟩,rfl⟩ ?_;rw [List.toList_toArray]
    repeat (first | go_big_quiet_step ((fail)))
    refine wpQuiet_nil ?_;intro w5 hww5;have hb_w5:Below W.heap.size W w5:=(by obtain ⟨u,rfl⟩:=hww5;exact u.h);clear hww5
    go_wp2_with fail
    go_meet;exact ⟨by rw [HV.out];rfl,hb_w5⟩
  ·rw [h1] at HV
   refine wp_region_quiet (C:=fun w'=>∃ u:BW W,w'=u.w) (by kernel_rfl) (by kernel_rfl) ⟨⟨_,(Below.refl _ _).drew⟩,rfl⟩ ?_;rw [List.toList_toArray]
   repeat (first | go_big_quiet_step ((fail)))
   refine wpQuiet_nil ?_;intro w5 hww5;have hb_w5:Below W.heap.size W w5:=(by obtain ⟨u,rfl⟩:=hww5;exact u.h);clear hww5
   go_wp2_with fail
   go_meet;exact ⟨by rw [HV.out];rfl,hb_w5⟩
 case rest=>
  obtain ⟨rfl,hB6⟩:=hcut;obtain ⟨w6,hw6⟩:∃ z,z=wc:=⟨_,rfl⟩;rw [<-hw6] at hB6;subst hw6;have HB6:Hid _:=hB6;have p1:w6.cell? ⟨w.heap.size,1,none⟩=some (.int .i64 m.fr):=(HC1.out w6 hB6).2.2.cell 1;clear q6 q4 q1 q3 q7 NEW hB6 n1 n3 n7;by_cases hv:VB=true
  ·have HQ2:Hid (RP=r.stale):=HQ.out.trans (if_pos ((pyI_iff _ _).1 (HVB.out.symm.trans hv)))
   rw [hv];clear HQ hv HVB
   go_wp2_with fail
   go_ret;exact ⟨by rw [HQ2.out];rfl,x,by rw [HQ2.out];exact (HC1.out w6 HB6.out).1.codeQ 3,Tch.head HBW.out (Tch.below0 _ _ HB6.out)⟩
  ·have hvf:VB=false:=by simpa using hv
   have HQ2:Hid _:=HQ.out.trans (if_neg (fun h9=>hv (HVB.out.trans ((pyI_iff _ _).2 h9))));rw [hvf];have HG6:Hid _:=HGr.out w6 HB6.out
   have hr1:r.n.ro≠3:=by
    intro e3;have h9:=HVB.out;rw [hvf] at h9;unfold pyI at h9;rw [e3] at h9;simp at h9
   clear HQ hv hvf HVB HGr;obtain ⟨G,hG⟩:∃ G,G=Zh r.n.gr m.fr r.n.sz.toNat:=⟨_,rfl⟩;rw [<-hG] at HQ2 HG6;clear hG;have HSt:Hid (∀ z,Z0 z B b { r with n:={ r.n with gr:=G } } x->Calls Tryz.prog 169 #[.pointer (some ⟨b,0,none⟩)] z fun e w'=>e=.returned (.tuple #[])/\∃ x',Z0 w' B b (Rn.stand { r with n:={ r.n with gr:=G } }) x'/\Tch b z x w' x'):=fun z hz=>stand_any b _ x z B hz hr1 ht0 ht1 hd hD hb.nw0 hb.nw1 hb.ln hl
   cases hm:Xe G.length r.n.sz
   ·rw [hm] at HG6
    have HQ3:Hid (RP={ r with n:={ r.n with gr:=G } }):=HQ2.out.trans (if_neg (by rw [hm];decide));clear HQ2 hm
    go_wp2_with (first
     |(go_at_call 168;refine Calls.mono HG6.out ?_;rintro e w7 ⟨rfl,h7,t7⟩;have H7:Hid _:=h7;have T7:Hid (Tch b W x w7 x):=Tch.head HB6.out t7;clear h7 t7))
    go_ret;exact ⟨by rw [HQ3.out];exact congrArg (fun c=>Ending.returned (.int .i64 c)) hc.symm,x,by rw [HQ3.out];exact H7.out,Tch.head HBW.out T7.out⟩
   ·rw [hm] at HG6
    have HQ3:Hid (RP=Rn.stand { r with n:={ r.n with gr:=G } }):=HQ2.out.trans (if_pos hm);clear HQ2 hm
    go_wp2_with (first
     |(go_at_call 168;refine Calls.mono HG6.out ?_;rintro e w7 ⟨rfl,h7,t7⟩;have H7:Hid _:=h7;have T7:Hid (Tch b W x w7 x):=Tch.head HB6.out t7;clear h7 t7)
     |(go_at_call 169;refine Calls.mono (HSt.out _ H7.out) ?_;rintro e w8 ⟨rfl,x8,h8,t8⟩;have H8:Hid _:=h8;have T8:Hid (Tch b W x w8 x8):=T7.out.trans t8;clear h8 t8))
    go_ret;exact ⟨by rw [HQ3.out,stand_code];exact congrArg (fun c=>Ending.returned (.int .i64 c)) hc.symm,x8,by rw [HQ3.out];exact H8.out,Tch.head HBW.out T8.out⟩
theorem Z32 (b:Nat)(r:Rn)(x:CV)(m:Mg)(ea:Option Addr)(en ec:Nat)(w:World)(B:Nat)(h:Z0 w B b r x)(hc:r.code=0)(hl:x.L.length<=900)(hb:NdB r.n)(hd : -(2^63)<=r.draw)(hD:r.draw<2^63)(ht0:0<=r.n.tm)(ht1:r.n.tm<=1073741824)(hf0:1<=m.fr)(hf1:m.fr<=r.n.sz)(hk:m.ok=0∨m.ok=1) :
  Calls Tryz.prog 133 #[.pointer (some ⟨b,0,none⟩),.agg #[.int .i64 m.ki,.int .i64 m.fr,.int .i64 m.td,.int .i64 m.tm,.int .i64 m.li,.int .i64 m.lt,.int .i64 m.cm,.int .i64 m.ok,.int .i64 m.hi,.slice ea en ec]] w fun e w'=>e=.returned (.int .i64 (r.voteReply m).code)/\∃ x',Z0 w' B b (r.voteReply m) x'/\Tch b w x w' x':=by
 obtain ⟨W,hW⟩:∃ W,W=w.alloc (.cells #[.int .i64 m.ki,.int .i64 m.fr,.int .i64 m.td,.int .i64 m.tm,.int .i64 m.li,.int .i64 m.lt,.int .i64 m.cm,.int .i64 m.ok,.int .i64 m.hi,.slice ea en ec] 43):=⟨_,rfl⟩;have HBW:Hid (Below w.heap.size w W):=by unfold Hid;rw [hW];exact Below.alloc0 _
 have HMW:Hid (Blk W w.heap.size #[.int .i64 m.ki,.int .i64 m.fr,.int .i64 m.td,.int .i64 m.tm,.int .i64 m.li,.int .i64 m.lt,.int .i64 m.cm,.int .i64 m.ok,.int .i64 m.hi,.slice ea en ec] 43):=by unfold Hid;rw [hW];exact Blk.new _ _ _
 have HCW:Hid (Z0 W B b r x):=h.below HBW.out;have HC1:Hid (∀ z,Below W.heap.size W z->Z0 z B b r x/\Tch b W x z x/\Blk z w.heap.size #[.int .i64 m.ki,.int .i64 m.fr,.int .i64 m.td,.int .i64 m.tm,.int .i64 m.li,.int .i64 m.lt,.int .i64 m.cm,.int .i64 m.ok,.int .i64 m.hi,.slice ea en ec] 43):=fun z hz=>⟨HCW.out.below hz,Tch.below0 _ _ hz,HMW.out.below hz HMW.out.lt⟩
 have z1:=h.ci.sz1;have n1:W.cell? ⟨w.heap.size,1,none⟩=some (.int .i64 m.fr):=HMW.out.cell 1;have n3:W.cell? ⟨w.heap.size,3,none⟩=some (.int .i64 m.tm):=HMW.out.cell 3;have n7:W.cell? ⟨w.heap.size,7,none⟩=some (.int .i64 m.ok):=HMW.out.cell 7;have HTt:Hid (∀ z,Below W.heap.size W z->Calls Tryz.prog 166 #[.pointer (some ⟨b,0,none⟩),.int .i64 m.tm] z fun e w'=>e=.returned (.int .i64 (r.takeTerm m.tm).code)/\∃ x',Z0 w' B b (r.takeTerm m.tm) x'/\Tch b z x w' x'):=fun z hz=>Z1v b r x m.tm z B (HCW.out.below hz) hd hD hb.nw0 hb.nw1 hc
 have HHg:Hid (∀ z,Below W.heap.size W z->Calls Tryz.prog 167 #[.pointer (some ⟨b,0,none⟩),.int .i64 m.fr] z fun e w'=>e=.returned (.bool (decide (m.fr∈r.n.gr)))/\Below z.heap.size z w'):=fun z hz=>Z21 b r x m.fr z B (HCW.out.below hz) (by omega) (by omega)
 have HGr:Hid (∀ z,Below W.heap.size W z->Calls Tryz.prog 168 #[.pointer (some ⟨b,0,none⟩),.int .i64 m.fr] z fun e w'=>e=.returned (.bool (Xe (Zh r.n.gr m.fr r.n.sz.toNat).length r.n.sz))/\Z0 w' B b { r with n:={ r.n with gr:=Zh r.n.gr m.fr r.n.sz.toNat } } x/\Tch b z x w' x):=fun z hz=>grant_any b r x m.fr z B (HCW.out.below hz) hf0 hf1
 have q6:∀ u:BW W,u.w.cell? ⟨b,6,none⟩=some (.int .i64 r.n.ro):=fun u=>(HCW.out.below u.h).blk.cell 6
 have q4:∀ u:BW W,u.w.cell? ⟨b,4,none⟩=some (.int .i64 r.n.tm):=fun u=>(HCW.out.below u.h).blk.cell 4
 have q1:∀ u:BW W,u.w.cell? ⟨w.heap.size,1,none⟩=some (.int .i64 m.fr):=fun u=>(HMW.out.below u.h HMW.out.lt).cell 1
 have q3:∀ u:BW W,u.w.cell? ⟨w.heap.size,3,none⟩=some (.int .i64 m.tm):=fun u=>(HMW.out.below u.h HMW.out.lt).cell 3
 have q7:∀ u:BW W,u.w.cell? ⟨w.heap.size,7,none⟩=some (.int .i64 m.ok):=fun u=>(HMW.out.below u.h HMW.out.lt).cell 7
 have NEW:Nonempty (BW W):=⟨⟨W,Below.refl _ _⟩⟩;clear h
 have HQ:Hid (r.voteReply m=if vrI r.n m=true then r.takeTerm m.tm else if Xe (Zh r.n.gr m.fr r.n.sz.toNat).length r.n.sz=true then Rn.lead { r with n:={ r.n with gr:=Zh r.n.gr m.fr r.n.sz.toNat } } else { r with n:={ r.n with gr:=Zh r.n.gr m.fr r.n.sz.toNat } }):=by
  unfold Hid Rn.voteReply;by_cases h1:r.n.tm<m.tm
  ·rw [if_pos h1,if_pos ((vrI_iff _ _).2 (.inr (.inl (by omega))))]
   unfold Rn.takeTerm;rw [if_pos h1]
  ·rw [if_neg h1]
   by_cases h2:r.n.ro≠2∨m.tm≠r.n.tm∨m.ok≠1∨m.fr∈r.n.gr
   ·rw [if_pos h2,if_pos ((vrI_iff _ _).2 (h2.imp id (fun h=>h.imp id (fun h=>h.imp (fun h=>by omega) id))))]
    unfold Rn.takeTerm;rw [if_neg h1]
   ·rw [if_neg h2,if_neg (fun h9=>h2 (((vrI_iff _ _).1 h9).imp id (fun h=>h.imp id (fun h=>h.imp (fun h=>by omega) id))))]
    rfl
 obtain ⟨VB,hVB⟩:∃ VB,VB=vrI r.n m:=⟨_,rfl⟩;have HVB:Hid (VB=vrI r.n m):=hVB;rw [<-hVB] at HQ;clear hVB;obtain ⟨RP,hRP⟩:∃ RP,RP=r.voteReply m:=⟨_,rfl⟩;rw [<-hRP] at HQ ⊢;clear hRP hk;go_enter Tryz.func133,Tryz.ntmps133
 go_upto_region 1 with fail
 rw [<-hW];clear hW
 go_cut [31] (fun s z=>s=.bool VB/\Below W.heap.size W z)
 case first=>
  have HV:Hid (VB=((r.n.ro != 2) || (m.tm != r.n.tm) || (m.ok == 0) || decide (m.fr∈r.n.gr))):=HVB.out;clear HVB;cases h1:(r.n.ro != 2)
  ·cases h2:(m.tm != r.n.tm)
   ·cases h3:(m.ok == 0)
    ·rw [h1,h2,h3] at HV
     refine wp_region_quiet (C:=fun w'=>∃ u:BW W,w'=u.w) (by kernel_rfl) (by kernel_rfl) ⟨⟨_,(Below.refl _ _).drew⟩,rfl⟩ ?_;rw [List.toList_toArray]
     repeat (first | go_big_quiet_step ((go_at_call 167;refine Calls.mono (HHg.out _ (BW.h _)) ?_;rintro e w9 ⟨rfl,hb9⟩;exact ⟨rfl,⟨⟨w9,(BW.h _).trans (hb9.mono (BW.h _).size)⟩,rfl⟩⟩)))
     refine wpQuiet_nil ?_;intro w5 hww5;have hb_w5:Below W.heap.size W w5:=(by obtain ⟨u,rfl⟩:=hww5;exact u.h);clear hww5
     go_wp2_with fail
     go_meet;exact ⟨by rw [HV.out];simp,hb_w5⟩
    ·rw [h1,h2,h3] at HV
     refine wp_region_quiet (C:=fun w'=>∃ u:BW W,w'=u.w) (by kernel_rfl) (by kernel_rfl) ⟨⟨_,(Below.refl _ _).drew⟩,rfl⟩ ?_;rw [List.toList_toArray]
     repeat (first | go_big_quiet_step ((fail)))
     refine wpQuiet_nil ?_;intro w5 hww5;have hb_w5:Below W.heap.size W w5:=(by obtain ⟨u,rfl⟩:=hww5;exact u.h);clear hww5
     go_wp2_with fail
     go_meet;exact ⟨by rw [HV.out];rfl,hb_w5⟩
   ·rw [h1,h2] at HV
    refine wp_region_quiet (C:=fun w'=>∃ u:BW W,w'=u.w) (by kernel_rfl) (by kernel_rfl) ⟨⟨_,(Below.refl _ _).drew⟩,rfl⟩ ?_;rw [List.toList_toArray]
    repeat (first | go_big_quiet_step ((fail)))
    refine wpQuiet_nil ?_;intro w5 hww5;have hb_w5:Below W.heap.size W w5:=(by obtain ⟨u,rfl⟩:=hww5;exact u.h);clear hww5
    go_wp2_with fail
    go_meet;exact ⟨by rw [HV.out];rfl,hb_w5⟩
  ·rw [h1] at HV
   refine wp_region_quiet (C:=fun w'=>∃ u:BW W,w'=u.w) (by kernel_rfl) (by kernel_rfl) ⟨⟨_,(Below.refl _ _).drew⟩,rfl⟩ ?_;rw [List.toList_toArray]
   repeat (first | go_big_quiet_step ((fail)))
   refine wpQuiet_nil ?_;intro w5 hww5;have hb_w5:Below W.heap.size W w5:=(by obtain ⟨u,rfl⟩:=hww5;exact u.h);clear hww5
   go_wp2_with fail
   go_meet;exact ⟨by rw [HV.out];rfl,hb_w5⟩
 case rest=>
  obtain ⟨rfl,hB6⟩:=hcut;obtain ⟨w6,hw6⟩:∃ z,z=wc:=⟨_,rfl⟩;rw [<-hw6] at hB6;subst hw6;have HB6:Hid _:=hB6;have p1:w6.cell? ⟨w.heap.size,1,none⟩=some (.int .i64 m.fr):=(HC1.out w6 hB6).2.2.cell 1;have p3:w6.cell? ⟨w.heap.size,3,none⟩=some (.int .i64 m.tm):=(HC1.out w6 hB6).2.2.cell 3;clear q6 q4 q1 q3 q7 NEW hB6 n1 n3 n7;by_cases hv:VB=true
  ·have HQ2:Hid (RP=r.takeTerm m.tm):=HQ.out.trans (if_pos hv)
   rw [hv];have HT6:Hid _:=HTt.out w6 HB6.out;clear HQ hv HVB HTt;rw [<-HQ2.out] at HT6
   go_wp2_with (first
    |(go_at_call 166;refine Calls.mono HT6.out ?_;rintro e w7 ⟨rfl,x7,h7,t7⟩;have H7:Hid _:=h7;have T7:Hid _:=Tch.head HBW.out (Tch.head HB6.out t7);clear h7 t7))
   go_ret;exact ⟨rfl,_,H7.out,T7.out⟩
  ·have hvf:VB=false:=by simpa using hv
   have HQ2:Hid _:=HQ.out.trans (if_neg hv);rw [hvf];have HG6:Hid _:=HGr.out w6 HB6.out
   have hr1:r.n.ro≠3:=by
    intro e3;have h9:=HVB.out;rw [hvf] at h9;unfold vrI at h9;rw [e3] at h9;simp at h9
   clear HQ hv hvf HVB HGr;obtain ⟨G,hG⟩:∃ G,G=Zh r.n.gr m.fr r.n.sz.toNat:=⟨_,rfl⟩;rw [<-hG] at HQ2 HG6;clear hG;have HSt:Hid (∀ z,Z0 z B b { r with n:={ r.n with gr:=G } } x->Calls Tryz.prog 171 #[.pointer (some ⟨b,0,none⟩)] z fun e w'=>e=.returned (.tuple #[])/\∃ x',Z0 w' B b (Rn.lead { r with n:={ r.n with gr:=G } }) x'/\Tch b z x w' x'):=fun z hz=>lead_any b _ x z B hz hr1 ⟨hb.nw0,hb.nw1,hb.hd0,hb.hd1,hb.sz0,hb.sz1,hb.id0,hb.id1,hb.ln⟩ hl
   cases hm:Xe G.length r.n.sz
   ·rw [hm] at HG6
    have HQ3:Hid (RP={ r with n:={ r.n with gr:=G } }):=HQ2.out.trans (if_neg (by rw [hm];decide));clear HQ2 hm
    go_wp2_with (first
     |(go_at_call 168;refine Calls.mono HG6.out ?_;rintro e w7 ⟨rfl,h7,t7⟩;have H7:Hid _:=h7;have T7:Hid (Tch b W x w7 x):=Tch.head HB6.out t7;clear h7 t7))
    go_ret;exact ⟨by rw [HQ3.out];exact congrArg (fun c=>Ending.returned (.int .i64 c)) hc.symm,x,by rw [HQ3.out];exact H7.out,Tch.head HBW.out T7.out⟩
   ·rw [hm] at HG6
    have HQ3:Hid (RP=Rn.lead { r with n:={ r.n with gr:=G } }):=HQ2.out.trans (if_pos hm);clear HQ2 hm
    go_wp2_with (first
     |(go_at_call 168;refine Calls.mono HG6.out ?_;rintro e w7 ⟨rfl,h7,t7⟩;have H7:Hid _:=h7;have T7:Hid (Tch b W x w7 x):=Tch.head HB6.out t7;clear h7 t7)
     |(go_at_call 171;refine Calls.mono (HSt.out _ H7.out) ?_;rintro e w8 ⟨rfl,x8,h8,t8⟩;have H8:Hid _:=h8;have T8:Hid (Tch b W x w8 x8):=T7.out.trans t8;clear h8 t8))
    go_ret;exact ⟨by rw [HQ3.out,lead_code];exact congrArg (fun c=>Ending.returned (.int .i64 c)) hc.symm,x8,by rw [HQ3.out];exact H8.out,Tch.head HBW.out T8.out⟩
end Go.Proofs.YtmmpoppgabadmaaGreat
