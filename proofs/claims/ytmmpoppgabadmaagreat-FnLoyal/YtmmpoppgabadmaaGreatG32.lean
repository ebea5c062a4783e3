import Derived.Test.YtmmpoppgabadmaaGreatG31
import Derived.Test.YtmmpoppgabadmaaGreatG26
import Derived.Test.YtmmpoppgabadmaaGreatG28
import Derived.Test.YtmmpoppgabadmaaGreatG13
set_option linter.unusedVariables false
set_option linter.unusedSimpArgs false
set_option maxRecDepth 100000
set_option maxHeartbeats 16000000
namespace Go.Proofs.YtmmpoppgabadmaaGreat
open Go.RowKit Go.Maps
end Go.Proofs.YtmmpoppgabadmaaGreat
namespace Go.Proofs.YtmmpoppgabadmaaGreat
open Go.RowKit Go.Maps
end Go.Proofs.YtmmpoppgabadmaaGreat
namespace Go.Proofs.YtmmpoppgabadmaaGreat
open Go.RowKit Go.Maps
section
variable {w w':World} {B b:Nat} {r:Rn} {x:CV} {ks:List Int}
end
end Go.Proofs.YtmmpoppgabadmaaGreat
namespace Go.Proofs.YtmmpoppgabadmaaGreat
open Go.RowKit Go.Maps
theorem oth_mem (id:Int)(y:Int):∀ k:Nat,y∈oth id k↔(1<=y/\y<=k/\y≠id)
 | 0=>by
  simp only [oth,List.not_mem_nil,false_iff];omega
 | k+1=>by
  rw [oth];split
  ·rename_i h
   rw [oth_mem id y k]
   push_cast
   omega
  ·rename_i h
   rw [List.mem_append,oth_mem id y k,List.mem_singleton]
   push_cast
   omega
theorem Z2u (id:Int):∀ k:Nat,(oth id k).Nodup
 | 0=>.nil
 | k+1=>by
  rw [oth];split
  ·exact Z2u id k
  ·refine List.nodup_append.2 ⟨Z2u id k,by simp,fun a ha c hc=>?_⟩
   rw [List.mem_singleton] at hc;have:=(oth_mem id a k).1 ha;omega
theorem infoPg:(Tryz.prog.info? 124).map (·.size)=some 4:=by kernel_rfl
end Go.Proofs.YtmmpoppgabadmaaGreat
namespace Go.Proofs.YtmmpoppgabadmaaGreat
open Go.RowKit Go.Maps
theorem Zo.keepAll {w w':World}{B b:Nat}{r:Rn}{x:CV}(h:Zo w B b r x)(hk:∀ k,x.has b k->w'.heap[k]? = w.heap[k]?)(he:∀ p∈x.L,∀ k,p.v.ownBlock=some k->w'.heap[k]? = w.heap[k]?):Zo w' B b r x:=
 ⟨h.blk.keep (hk _ (.inl rfl)),h.lo,h.log.block fun k e=>hk k (.inr (.inr (.inr (.inr (.inl e))))),h.gm.keep (hk _ (.inr (.inl rfl))),h.gml,h.pm.keep (hk _ (.inr (.inr (.inl rfl)))),h.pml,h.gp,fun y q e=>⟨(h.pf y q e).1.keep (hk q (.inr (.inr (.inr (.inl ⟨y,e⟩))))),(h.pf y q e).2⟩,h.pi,h.pk,h.out.block fun k e=>hk k (.inr (.inr (.inr (.inr (.inr e))))),h.outC,fun p hp=>(h.ents p hp).block fun k e=>he p hp k e,h.apE,h.ci⟩
theorem Zo.codeQ {w:World}{B b:Nat}{r:Rn}{x:CV}(h:Zo w B b r x)(c:Int):Zo w B b { r with code:=c } x:=
 h.re (r':={ r with code:=c }) (kp':=x.kp) h.blk (fun _ _ _=>rfl) rfl rfl rfl rfl rfl rfl rfl rfl rfl Iff.rfl
theorem Z3q (b:Nat)(r:Rn)(x:CV)(m:Mg)(ea:Option Addr)(en ec:Nat)(w:World)(B:Nat)(h:Zo w B b r x)(hc:r.code=0)(hl:x.L.length<=900)(hb:NdB r.n) :
  Calls Tryz.prog 130 #[.pointer (some ⟨b,0,none⟩),.agg #[.int .i64 m.ki,.int .i64 m.fr,.int .i64 m.td,.int .i64 m.tm,.int .i64 m.li,.int .i64 m.lt,.int .i64 m.cm,.int .i64 m.ok,.int .i64 m.hi,.slice ea en ec]] w fun e w'=>e=.returned (.int .i64 (r.preAsk m).code)/\∃ x',Zo w' B b (r.preAsk m) x'/\Tch b w x w' x':=by
 obtain ⟨W,hW⟩:∃ W,W=w.alloc (.cells #[.int .i64 m.ki,.int .i64 m.fr,.int .i64 m.td,.int .i64 m.tm,.int .i64 m.li,.int .i64 m.lt,.int .i64 m.cm,.int .i64 m.ok,.int .i64 m.hi,.slice ea en ec] 43):=⟨_,rfl⟩;have HBW:Hid (Below w.heap.size w W):=by unfold Hid;rw [hW];exact Below.alloc0 _
 have HMW:Hid (Blk W w.heap.size #[.int .i64 m.ki,.int .i64 m.fr,.int .i64 m.td,.int .i64 m.tm,.int .i64 m.li,.int .i64 m.lt,.int .i64 m.cm,.int .i64 m.ok,.int .i64 m.hi,.slice ea en ec] 43):=by unfold Hid;rw [hW];exact Blk.new _ _ _
 have HCW:Hid (Zo W B b r x):=h.below HBW.out;have hll:=hb.ln;have HLo:Hid (Calls Tryz.prog 163 #[.pointer (some ⟨b,0,none⟩)] W fun e w'=>e=.returned (.bool (loyB r.n))/\Below W.heap.size W w'):=loyal_any b r x W B HCW.out hb.nw0 hb.nw1 hb.hd0 hb.hd1;have HC1:Hid (∀ z,Below W.heap.size W z->Zo z B b r x/\Below w.heap.size w z/\Blk z w.heap.size #[.int .i64 m.ki,.int .i64 m.fr,.int .i64 m.td,.int .i64 m.tm,.int .i64 m.li,.int .i64 m.lt,.int .i64 m.cm,.int .i64 m.ok,.int .i64 m.hi,.slice ea en ec] 43):=fun z hz=>⟨HCW.out.below hz,HBW.out.trans (hz.mono HBW.out.size),HMW.out.below hz HMW.out.lt⟩
 have hblt:=h.lt;clear h;cases hly:loyB r.n
 ·rw [hly] at HLo
  have HQ:Hid (r.preAsk m=if r.n.tm<m.tm/\utd r.n.log m=true then r.send ⟨2,0,m.fr,m.tm,0,0,0,1,0,[]⟩ else r.send ⟨2,0,m.fr,r.n.tm,0,0,0,0,0,[]⟩):=by unfold Hid Rn.preAsk;rw [hly,if_neg (by decide)]
  have HK:Hid ((r.preAsk m).code=0):=by unfold Hid;rw [HQ.out];split <;> exact hc
  have HSe:Hid (∀ z t k,Zo z B b r x->Calls Tryz.prog 165 #[.pointer (some ⟨b,0,none⟩),.int .i64 m.fr,.agg #[.int .i64 2,.int .i64 0,.int .i64 0,.int .i64 t,.int .i64 0,.int .i64 0,.int .i64 0,.int .i64 k,.int .i64 0,.slice none 0 0]] z fun e w'=>e=.returned (.tuple #[])/\∃ v y,Zo w' B b (r.send ⟨2,0,m.fr,t,0,0,0,k,0,[]⟩) (x.sent v y)/\Tch b z x w' (x.sent v y)):=fun z t k hz=>send_any b r x ⟨2,0,0,t,0,0,0,k,0,[]⟩ m.fr none 0 z B hz (Zv.nil _ _) (fun k e=>by cases e) (by omega)
  rw [HK.out];clear HK;generalize r.preAsk m=RP at *;go_enter Tryz.func130,Tryz.ntmps130
  go_upto_region 1 with fail
  rw [<-hW];clear hW
  go_upto_region 3 with (first
   |(go_at_call 163;refine Calls.mono HLo.out ?_;rintro e w1 ⟨rfl,hb1⟩;have H1:Hid _:=HC1.out w1 hb1;have HB1:Hid _:=hb1;have d4:w1.cell? ⟨b,4,none⟩=some (.int .i64 r.n.tm):=H1.out.1.blk.cell 4;clear hb1))
  go_upto_region 4 with fail
  obtain ⟨V,hV⟩:∃ V,V=w1.alloc (.cells #[.int .i64 2,.int .i64 0,.int .i64 0,.int .i64 r.n.tm,.int .i64 0,.int .i64 0,.int .i64 0,.int .i64 0,.int .i64 0,.slice none 0 0] 43):=⟨_,rfl⟩;rw [<-hV];have HBV:Hid (Below w1.heap.size w1 V):=by unfold Hid;rw [hV];exact Below.alloc0 _
  have HRV:Hid (Blk V w1.heap.size #[.int .i64 2,.int .i64 0,.int .i64 0,.int .i64 r.n.tm,.int .i64 0,.int .i64 0,.int .i64 0,.int .i64 0,.int .i64 0,.slice none 0 0] 43):=by unfold Hid;rw [hV];exact Blk.new _ _ _
  clear hV;have HCV:Hid (Zo V B b r x):=H1.out.1.below HBV.out;have HMV:Hid (Blk V w.heap.size _ 43):=H1.out.2.2.below HBV.out H1.out.2.2.lt;have hzz:w.heap.size<w1.heap.size:=H1.out.2.2.lt;have q3:∀ u:BW V,u.w.cell? ⟨w.heap.size,3,none⟩=some (.int .i64 m.tm):=fun u=>(HMV.out.below u.h HMV.out.lt).cell 3
  have q4:∀ u:BW V,u.w.cell? ⟨b,4,none⟩=some (.int .i64 r.n.tm):=fun u=>(HCV.out.below u.h).blk.cell 4
  have qm:∀ u:BW V,Sem.run Tryz.prog (loadVar 43 ⟨w.heap.size,0,none⟩) u.w=.ok (.agg #[.int .i64 m.ki,.int .i64 m.fr,.int .i64 m.td,.int .i64 m.tm,.int .i64 m.li,.int .i64 m.lt,.int .i64 m.cm,.int .i64 m.ok,.int .i64 m.hi,.slice ea en ec]) u.w:=fun u=>Z12 (HMV.out.below u.h HMV.out.lt) 43 Tryz.underlying43 rfl Z0m
  have NEV:Nonempty (BW V):=⟨⟨V,Below.refl _ _⟩⟩;have HUt:Hid (∀ z,Below V.heap.size V z->Calls Tryz.prog 164 #[.pointer (some ⟨b,0,none⟩),.agg #[.int .i64 m.ki,.int .i64 m.fr,.int .i64 m.td,.int .i64 m.tm,.int .i64 m.li,.int .i64 m.lt,.int .i64 m.cm,.int .i64 m.ok,.int .i64 m.hi,.slice ea en ec]] z fun e w'=>e=.returned (.bool (utd r.n.log m))/\Below z.heap.size z w'):=fun z hz=>Z2b b r x m ea en ec z B (HCV.out.below hz) hll
  clear d4
  (try go_frame)
  obtain ⟨VB,hVB⟩:∃ VB,VB=(decide (r.n.tm<m.tm) && utd r.n.log m):=⟨_,rfl⟩;have HVB:Hid (VB=(decide (r.n.tm<m.tm) && utd r.n.log m)):=hVB;clear hVB
  go_cut [26] (fun s z=>s=.bool VB/\Below V.heap.size V z)
  case first=>
   by_cases h1:r.n.tm<m.tm
   ·have h1d:decide (r.n.tm<m.tm)=true:=decide_eq_true h1
    refine wp_region_quiet (C:=fun w'=>∃ u:BW V,w'=u.w) (by kernel_rfl) (by kernel_rfl) ⟨⟨_,(Below.refl _ _).drew⟩,rfl⟩ ?_;rw [List.toList_toArray]
    repeat (first | (go_big_quiet_want;refine Z35 (W:=V) 43 (.tmp 3) rfl rfl qm ?_;go_big_quiet_on;simp only [Act.put,List.setIfInBounds_toArray,List.set_cons_zero,List.set_cons_succ]) | go_big_quiet_step ((go_at_call 164;refine Calls.mono (HUt.out _ (BW.h _)) ?_;rintro e w9 ⟨rfl,hb9⟩;exact ⟨rfl,⟨⟨w9,(BW.h _).trans (hb9.mono (BW.h _).size)⟩,rfl⟩⟩)))
    refine wpQuiet_nil ?_;intro w5 hww5;have hb_w5:Below V.heap.size V w5:=(by obtain ⟨u,rfl⟩:=hww5;exact u.h);clear hww5
    go_wp2_with fail
    go_meet;exact ⟨by rw [HVB.out,h1d];simp,hb_w5⟩
   ·have h1d:decide (r.n.tm<m.tm)=false:=decide_eq_false h1
    refine wp_region_quiet (C:=fun w'=>∃ u:BW V,w'=u.w) (by kernel_rfl) (by kernel_rfl) ⟨⟨_,(Below.refl _ _).drew⟩,rfl⟩ ?_;rw [List.toList_toArray]
    repeat (first | go_big_quiet_step ((fail)))
    refine wpQuiet_nil ?_;intro w5 hww5;have hb_w5:Below V.heap.size V w5:=(by obtain ⟨u,rfl⟩:=hww5;exact u.h);clear hww5
    go_wp2_with fail
    go_meet;exact ⟨by rw [HVB.out,h1d];simp,hb_w5⟩
  case rest=>
   obtain ⟨rfl,hB6⟩:=hcut;obtain ⟨w6,hw6⟩:∃ z,z=wc:=⟨_,rfl⟩;rw [<-hw6] at hB6;subst hw6;have HB6:Hid _:=hB6;have HC6:Hid (Zo w6 B b r x):=HCV.out.below hB6;have HM6:Hid (Blk w6 w.heap.size _ 43):=HMV.out.below hB6 HMV.out.lt;have HR6:Hid (Blk w6 w1.heap.size _ 43):=HRV.out.below hB6 HRV.out.lt;have HT6:Hid (Tch b w x w6 x):=Tch.below0 _ _ ((H1.out.2.1.trans (HBV.out.mono H1.out.2.1.size)).trans (hB6.mono (by have:=HBV.out.size;omega)));have p1:w6.cell? ⟨w.heap.size,1,none⟩=some (.int .i64 m.fr):=HM6.out.cell 1;have p3:w6.cell? ⟨w.heap.size,3,none⟩=some (.int .i64 m.tm):=HM6.out.cell 3;have r3:w6.cell? ⟨w1.heap.size,3,none⟩=some (.int .i64 r.n.tm):=HR6.out.cell 3;have r7:w6.cell? ⟨w1.heap.size,7,none⟩=some (.int .i64 0):=HR6.out.cell 7;have rf3:w6.frozen? ⟨w1.heap.size,3,none⟩=false:=HR6.out.free 3;have rf7:w6.frozen? ⟨w1.heap.size,7,none⟩=false:=HR6.out.free 7;have hnn:¬ w.heap.size=w1.heap.size:=by omega
   have hnn2:¬ w1.heap.size=w.heap.size:=by omega
   clear q3 q4 qm NEV HUt hB6;have G1:Hid True:=trivial;by_cases hv:VB=true
   ·have HQ2:Hid (RP=r.send ⟨2,0,m.fr,m.tm,0,0,0,1,0,[]⟩):=HQ.out.trans (if_pos (by have h9:=HVB.out;rw [hv] at h9;simpa using h9.symm))
    rw [hv];have HRn:Hid (Blk ((w6.setCell ⟨w1.heap.size,3,none⟩ (.int .i64 m.tm)).setCell ⟨w1.heap.size,7,none⟩ (.int .i64 1)) w1.heap.size #[.int .i64 2,.int .i64 0,.int .i64 0,.int .i64 m.tm,.int .i64 0,.int .i64 0,.int .i64 0,.int .i64 1,.int .i64 0,.slice none 0 0] 43):=(HR6.out.set 3 _).set 7 _;have HMn:Hid (Blk ((w6.setCell ⟨w1.heap.size,3,none⟩ (.int .i64 m.tm)).setCell ⟨w1.heap.size,7,none⟩ (.int .i64 1)) w.heap.size #[.int .i64 m.ki,.int .i64 m.fr,.int .i64 m.td,.int .i64 m.tm,.int .i64 m.li,.int .i64 m.lt,.int .i64 m.cm,.int .i64 m.ok,.int .i64 m.hi,.slice ea en ec] 43):=(HM6.out.set_other _ hnn).set_other _ hnn;have hnh:¬ x.has b w1.heap.size:=H1.out.1.hasnt_new (Nat.le_refl _)
    have HCn:Hid (Zo ((w6.setCell ⟨w1.heap.size,3,none⟩ (.int .i64 m.tm)).setCell ⟨w1.heap.size,7,none⟩ (.int .i64 1)) B b r x/\Tch b w x ((w6.setCell ⟨w1.heap.size,3,none⟩ (.int .i64 m.tm)).setCell ⟨w1.heap.size,7,none⟩ (.int .i64 1)) x):=by
     have hs1:=H1.out.2.1.size;have hkk:∀ k,k≠w1.heap.size->((w6.setCell ⟨w1.heap.size,3,none⟩ (.int .i64 m.tm)).setCell ⟨w1.heap.size,7,none⟩ (.int .i64 1)).heap[k]? = w6.heap[k]?:=fun k hk=>(Below.heap_setCell _ _ _ _ hk).trans (Below.heap_setCell _ _ _ _ hk)
     refine ⟨HC6.out.keepAll (fun k hk=>hkk k (fun e=>hnh (e ▸ hk))) (fun p hp k e=>hkk k (fun e2=>by have:=(World.ownsRow.lt (H1.out.1.ents p hp).2 k e).2;omega)),⟨HT6.out.os,HT6.out.tape,HT6.out.output,by have:=HT6.out.size;simp [World.setCell];omega,fun k hk hn=>(hkk k (by omega)).trans (HT6.out.block k hk hn),HT6.out.at'⟩⟩
    clear HQ hv hnh HVB
    go_upto_region 6 with fail
    generalize (w6.setCell ⟨w1.heap.size,3,none⟩ (.int .i64 m.tm)).setCell ⟨w1.heap.size,7,none⟩ (.int .i64 1)=w7 at *;have s1:w7.cell? ⟨w.heap.size,1,none⟩=some (.int .i64 m.fr):=HMn.out.cell 1
    go_wp2_with (first
     |(have hBA:=G1;refine Zw 43 (.tmp 5) rfl ?_;clear hBA;refine Zk rfl 43 (.tmp 5) rfl w1.heap.size rfl HRn.out Tryz.underlying43 rfl Z0m rfl ?_;clear G1)
     |(go_at_call 165;refine Calls.mono (HSe.out _ _ _ HCn.out.1) ?_;rintro e w8 ⟨rfl,v8,y8,h8,t8⟩;have H8:Hid (Zo w8 B b RP (x.sent v8 y8)):=(by unfold Hid;rw [HQ2.out];exact h8);have T8:Hid _:=HCn.out.2.trans t8;clear h8 t8))
    go_ret;exact ⟨rfl,_,H8.out,T8.out⟩
   ·have hvf:VB=false:=by simpa using hv
    have HQ2:Hid (RP=r.send ⟨2,0,m.fr,r.n.tm,0,0,0,0,0,[]⟩):=HQ.out.trans (if_neg (by have h9:=HVB.out;rw [hvf] at h9;simpa using h9.symm));rw [hvf];clear HQ hv hvf HVB
    go_wp2_with (first
     |(have hBA:=G1;refine Zw 43 (.tmp 5) rfl ?_;clear hBA;refine Zk rfl 43 (.tmp 5) rfl w1.heap.size rfl HR6.out Tryz.underlying43 rfl Z0m rfl ?_;clear G1)
     |(go_at_call 165;refine Calls.mono (HSe.out _ _ _ HC6.out) ?_;rintro e w8 ⟨rfl,v8,y8,h8,t8⟩;have H8:Hid (Zo w8 B b RP (x.sent v8 y8)):=(by unfold Hid;rw [HQ2.out];exact h8);have T8:Hid _:=HT6.out.trans t8;clear h8 t8))
    go_ret;exact ⟨rfl,_,H8.out,T8.out⟩
 ·rw [hly] at HLo
  have HQ:Hid (r.preAsk m={ r with code:=2 }):=by unfold Hid Rn.preAsk;rw [hly,if_pos rfl]
  rw [HQ.out];go_enter Tryz.func130,Tryz.ntmps130
  go_upto_region 1 with fail
  rw [<-hW];clear hW
  go_wp2_with (first
   |(go_at_call 163;refine Calls.mono HLo.out ?_;rintro e w1 ⟨rfl,hb1⟩;have H1:Hid _:=HC1.out w1 hb1;clear hb1))
  go_ret;exact ⟨rfl,x,H1.out.1.codeQ 2,Tch.below0 _ _ H1.out.2.1⟩
end Go.Proofs.YtmmpoppgabadmaaGreat
namespace Go.Proofs.YtmmpoppgabadmaaGreat
open Go.RowKit Go.Maps
structure PreK (w:World) (B b:Nat) (C:Array Value) (n:Nd) (vl:Value) (g p:Nat) (gl:List Int) (f:Int->Option Nat) (ks:List Int):Prop where
 blk:Blk w b C 80
 lo:B<=b
 log:Zv w B vl n.log
 gm:IM unV w g (grF gl)
 gml:B<=g
 pm:IM ptV w p f
 pml:B<=p
 gp:g≠p
 pf:∀ y q,f y=some q->Blk w q (pgC n y) 124/\B<=q
 pi:∀ y z q,f y=some q->f z=some q->y=z
 pk:∀ y,y∈ks↔(f y).isSome=true
section
variable {w w':World} {B b:Nat} {C:Array Value} {n:Nd} {vl:Value} {g p:Nat} {gl:List Int} {f:Int->Option Nat} {ks:List Int}
theorem PreK.below (h:PreK w B b C n vl g p gl f ks)(hb:Below w.heap.size w w'):PreK w' B b C n vl g p gl f ks:=
 ⟨h.blk.keep (hb.block _ h.blk.lt),h.lo,h.log.block fun k e=>hb.block k (World.ownsRow.lt h.log.2 k e).2,h.gm.keep (hb.block _ h.gm.lt),h.gml,h.pm.keep (hb.block _ h.pm.lt),h.pml,h.gp,fun y q e=>⟨(h.pf y q e).1.keep (hb.block _ (h.pf y q e).1.lt),(h.pf y q e).2⟩,h.pi,h.pk⟩
theorem PreK.row {C':Array Value}(h:PreK w B b C n vl g p gl f ks)(hB:Blk w' b C' 80)(hk:∀ k,k≠b->w'.heap[k]? = w.heap[k]?):PreK w' B b C' n vl g p gl f ks:=by
 refine ⟨hB,h.lo,h.log.block fun k e=>hk k ?_,h.gm.keep (hk _ (h.gm.ne_blk h.blk).symm),h.gml,h.pm.keep (hk _ (h.pm.ne_blk h.blk).symm),h.pml,h.gp,fun y q e=>⟨(h.pf y q e).1.keep (hk _ ?_),(h.pf y q e).2⟩,h.pi,h.pk⟩
 ·rintro rfl
  obtain ⟨cur,s,h9⟩:=Z0i h.log e;have:=Xa h9 h.blk;cases this
 ·rintro rfl
  have:=Xa (h.pf y _ e).1 h.blk;cases this
theorem grF_app (gl:List Int)(y:Int):(fun d=>if d=y then some () else grF gl d)=grF (gl ++ [y]):=by
 funext d
 unfold grF;by_cases h:d=y
 ·simp [h]
 ·simp [h]
theorem PreK.gput {y:Int}(h:PreK w B b C n vl g p gl f ks)(hg:w.grownBy w' (some g))(hp:IM unV w' g (fun d=>if d=y then some () else grF gl d)):PreK w' B b C n vl g p (gl ++ [y]) f ks:=by
 rw [grF_app] at hp;have hk2:∀ k,k<w.heap.size->k≠g->w'.heap[k]? = w.heap[k]?:=fun k hk hn=>hg.block k hk (fun e=>hn (by injection e with e))
 obtain ⟨pe,pc,hpo⟩:=h.gm.obj;refine ⟨h.blk.keep (hk2 b h.blk.lt (h.gm.ne_blk h.blk)),h.lo,h.log.block fun k e=>hk2 k (World.ownsRow.lt h.log.2 k e).2 ?_,hp,h.gml,h.pm.keep (hk2 _ h.pm.lt h.gp.symm),h.pml,h.gp,fun y q e=>⟨(h.pf y q e).1.keep (hk2 _ (h.pf y q e).1.lt (h.gm.ne_blk (h.pf y q e).1)),(h.pf y q e).2⟩,h.pi,h.pk⟩;rintro rfl;obtain ⟨cur,s,hk⟩:=Z0i h.log e;exact hmap hk hpo
theorem PreK.put {w2 w3:World}{y:Int}{q:Nat}(h:PreK w B b C n vl g p gl f ks)(h2:Below w.heap.size w w2)(hq:Blk w2 q (pgC n y) 124)(hqw:w.heap.size<=q)(hBq:B<=w.heap.size)(hg:w2.grownBy w3 (some p))(hp:IM ptV w3 p (fun d=>if d=y then some q else f d))(hy:y ∉ ks) :
  PreK w3 B b C n vl g p gl (fun d=>if d=y then some q else f d) (ks ++ [y]):=by
 have hk2:∀ k,k<w.heap.size->k≠p->w3.heap[k]? = w.heap[k]?:=fun k hk hn=>(hg.block k (Nat.lt_of_lt_of_le hk h2.size) (fun e=>hn (by injection e with e))).trans (h2.block k hk)
 have hpm:=h.pm.lt;obtain ⟨pe,pc,hpo⟩:=h.pm.obj;have nb:b≠p:=h.pm.ne_blk h.blk;refine ⟨h.blk.keep (hk2 b h.blk.lt nb),h.lo,h.log.block fun k e=>hk2 k (World.ownsRow.lt h.log.2 k e).2 ?_,h.gm.keep (hk2 _ h.gm.lt h.gp),h.gml,hp,h.pml,h.gp,?_,?_,?_⟩
 ·rintro rfl
  obtain ⟨cur,s,hk⟩:=Z0i h.log e;exact hmap hk hpo
 ·intro z q' e
  by_cases hz:z=y
  ·subst hz
   rw [if_pos rfl] at e;injection e with e;subst e;exact ⟨hq.keep (hg.block q hq.lt (fun e=>by injection e with e;omega)),by omega⟩
  ·rw [if_neg hz] at e
   have h9:=h.pf z q' e;exact ⟨h9.1.keep (hk2 q' h9.1.lt (h.pm.ne_blk h9.1)),h9.2⟩
 ·intro z1 z2 q' e1 e2
  by_cases h1:z1=y
  ·by_cases h3:z2=y
   ·omega
   ·rw [if_pos h1] at e1
    rw [if_neg h3] at e2;injection e1 with e1;have:=(h.pf z2 q' e2).1.lt;omega
  ·by_cases h3:z2=y
   ·rw [if_neg h1] at e1
    rw [if_pos h3] at e2;injection e2 with e2;have:=(h.pf z1 q' e1).1.lt;omega
   ·rw [if_neg h1] at e1
    rw [if_neg h3] at e2;exact h.pi z1 z2 q' e1 e2
 ·intro z
  simp only [List.mem_append,List.mem_singleton];by_cases hz:z=y
  ·simp [hz]
  ·simp only [hz,or_false,if_false]
   exact h.pk z
def rn0 (n:Nd):Rn:=⟨n,[],0,0,0⟩
theorem PreK.fin (h:PreK w B b (crC (rn0 n) ⟨vl,.slice none 0 0,[],g,p,f,0⟩) n vl g p n.gr f ks)(hk:∀ y,y∈ks↔(n.ro=3/\1<=y/\y<=n.sz/\y≠n.id))(hc:CI n):Zo w B b (rn0 n) ⟨vl,.slice none 0 0,[],g,p,f,0⟩:=
 ⟨h.blk,h.lo,h.log,h.gm,h.gml,h.pm,h.pml,h.gp,h.pf,h.pi,fun y=>(h.pk y).symm.trans (hk y),Zs.nil _ _ _ _ _,rfl,(fun p hp=>by cases hp),(by simp),hc⟩
end
end Go.Proofs.YtmmpoppgabadmaaGreat
