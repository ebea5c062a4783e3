import Derived.Test.YtmmpoppgabadmaaGreatG47
import Derived.Test.YtmmpoppgabadmaaGreatG48
import Derived.Test.YtmmpoppgabadmaaGreatG41
set_option linter.unusedVariables false
set_option linter.unusedSimpArgs false
set_option maxRecDepth 100000
set_option maxHeartbeats 16000000
namespace Go.Proofs.YtmmpoppgabadmaaGreat
open Go.RowKit Go.Maps
theorem Z5u (b:Nat)(r:Rn)(x:CV)(m:Mg)(ea:Option Addr)(ec LI:Nat)(w:World)(B:Nat)(h:Z0 w B b r x)(hc:r.code=0)(hl:x.L.length<=900)(hb:NdB r.n)(hd : -(2^63)<=r.draw)(hD:r.draw<2^63)(he:Es w (.slice ea m.es.length ec) m.es)(hlo:∀ k,(Value.slice ea m.es.length ec).ownBlock=some k->k<B)(hec:m.es.length<=ec)(hel:m.es.length<=1048576)(hLI:m.li=(LI:Int))(hLI2:LI<=4096)(hlt0:m.li=0->m.lt=0) :
  Calls Tryz.prog 134 #[.pointer (some ⟨b,0,none⟩),.agg #[.int .i64 m.ki,.int .i64 m.fr,.int .i64 m.td,.int .i64 m.tm,.int .i64 m.li,.int .i64 m.lt,.int .i64 m.cm,.int .i64 m.ok,.int .i64 m.hi,.slice ea m.es.length ec]] w fun e w'=>e=.returned (.int .i64 (r.append m).code)/\∃ x',Z0 w' B b (r.append m) x'/\Tch b w x w' x':=by
 have hBw:B<=w.heap.size:=Nat.le_trans h.lo (Nat.le_of_lt h.lt);have HJn:Hid (∀ z R X,Z0 z B b R X->R.code=0->X.L.length<=900->R.n.log.length<=4096->Below B w z->Calls Tryz.prog 172 #[.pointer (some ⟨b,0,none⟩),.agg #[.int .i64 m.ki,.int .i64 m.fr,.int .i64 m.td,.int .i64 m.tm,.int .i64 m.li,.int .i64 m.lt,.int .i64 m.cm,.int .i64 m.ok,.int .i64 m.hi,.slice ea m.es.length ec]] z fun e w'=>e=.returned (.int .i64 (R.join m).code)/\∃ x',Z0 w' B b (R.join m) x'/\Tch b z X w' x'):=fun z R X hz h1 h2 h3 h4=>join_any b R X m ea ec LI z B hz h1 h2 h3 (he.elder hlo h4) hlo hec hel hLI hLI2 hlt0
 obtain ⟨EN,hEN⟩:∃ EN,EN=m.es.length:=⟨_,rfl⟩;rw [<-hEN] at HJn ⊢;obtain ⟨W,hW⟩:∃ W,W=w.alloc (.cells #[.int .i64 m.ki,.int .i64 m.fr,.int .i64 m.td,.int .i64 m.tm,.int .i64 m.li,.int .i64 m.lt,.int .i64 m.cm,.int .i64 m.ok,.int .i64 m.hi,.slice ea EN ec] 43):=⟨_,rfl⟩;have HBW:Hid (Below w.heap.size w W):=by unfold Hid;rw [hW];exact Below.alloc0 _
 have HMW:Hid (Blk W w.heap.size #[.int .i64 m.ki,.int .i64 m.fr,.int .i64 m.td,.int .i64 m.tm,.int .i64 m.li,.int .i64 m.lt,.int .i64 m.cm,.int .i64 m.ok,.int .i64 m.hi,.slice ea EN ec] 43):=by unfold Hid;rw [hW];exact Blk.new _ _ _
 have HCW:Hid (Z0 W B b r x):=h.below HBW.out;have HnW:Hid (¬ x.has b w.heap.size):=h.hasnt_new (Nat.le_refl _);have HC1:Hid (∀ z,Below W.heap.size W z->Z0 z B b r x/\Tch b W x z x/\Blk z w.heap.size #[.int .i64 m.ki,.int .i64 m.fr,.int .i64 m.td,.int .i64 m.tm,.int .i64 m.li,.int .i64 m.lt,.int .i64 m.cm,.int .i64 m.ok,.int .i64 m.hi,.slice ea EN ec] 43):=fun z hz=>⟨HCW.out.below hz,Tch.below0 _ _ hz,HMW.out.below hz HMW.out.lt⟩
 have HMt:Hid (∀ z x',Tch b W x z x'->Blk z w.heap.size #[.int .i64 m.ki,.int .i64 m.fr,.int .i64 m.td,.int .i64 m.tm,.int .i64 m.li,.int .i64 m.lt,.int .i64 m.cm,.int .i64 m.ok,.int .i64 m.hi,.slice ea EN ec] 43):=fun z x' ht=>ht.blk HMW.out HnW.out
 have HBl:Hid (∀ z x',Tch b W x z x'->Below B w z):=fun z x' ht=>(HBW.out.mono hBw).trans (HCW.out.below_of ht)
 have q3:∀ u:BW W,u.w.cell? ⟨w.heap.size,3,none⟩=some (.int .i64 m.tm):=fun u=>(HMW.out.below u.h HMW.out.lt).cell 3
 have q1:∀ u:BW W,u.w.cell? ⟨w.heap.size,1,none⟩=some (.int .i64 m.fr):=fun u=>(HMW.out.below u.h HMW.out.lt).cell 1
 have qi:∀ u:BW W,u.w.cell? ⟨w.heap.size,4,none⟩=some (.int .i64 m.li):=fun u=>(HMW.out.below u.h HMW.out.lt).cell 4
 have q4:∀ u:BW W,u.w.cell? ⟨b,4,none⟩=some (.int .i64 r.n.tm):=fun u=>(HCW.out.below u.h).blk.cell 4
 have NEW:Nonempty (BW W):=⟨⟨W,Below.refl _ _⟩⟩;have HAj:Hid _:=append_join r m;clear he hlo hEN hLI hlt0;by_cases h1:m.tm<r.n.tm
 ·have HQ:Hid (r.append m=r.send ⟨6,0,m.fr,r.n.tm,m.li,0,0,0,0,[]⟩):=HAj.out.trans (if_pos h1)
  have HK:Hid ((r.append m).code=0):=by unfold Hid;rw [HQ.out];exact hc
  have h1d:decide (m.tm<r.n.tm)=true:=decide_eq_true h1
  have HSe:Hid (∀ z,Below W.heap.size W z->Calls Tryz.prog 165 #[.pointer (some ⟨b,0,none⟩),.int .i64 m.fr,.agg #[.int .i64 6,.int .i64 0,.int .i64 0,.int .i64 r.n.tm,.int .i64 m.li,.int .i64 0,.int .i64 0,.int .i64 0,.int .i64 0,.slice none 0 0]] z fun e w'=>e=.returned (.tuple #[])/\∃ v y,Z0 w' B b (r.append m) (x.sent v y)/\Tch b z x w' (x.sent v y)):=fun z hz=>by
   rw [HQ.out];exact Z1g b r x ⟨6,0,0,r.n.tm,m.li,0,0,0,0,[]⟩ m.fr none 0 z B (HCW.out.below hz) (Zd.nil _ _) (fun k e=>by cases e) (by omega)
  rw [HK.out];generalize r.append m=RP at *;clear h HAj h1;go_enter Tryz.func134,Tryz.ntmps134
  go_upto_region 1 with fail
  rw [<-hW];clear hW
  go_cut [12] (fun s z=>s=.bool true/\Below W.heap.size W z)
  case first=>
   refine wp_region_quiet (C:=fun w'=>∃ u:BW W,w'=u.w) (by kernel_rfl) (by kernel_rfl) ⟨⟨_,(Below.refl _ _).drew⟩,rfl⟩ ?_;rw [List.toList_toArray]
   repeat (first | go_big_quiet_step ((fail)))
   refine wpQuiet_nil ?_;intro w5 hww5;have hb_w5:Below W.heap.size W w5:=(by obtain ⟨u,rfl⟩:=hww5;exact u.h);clear hww5
   go_wp2_with fail
   go_meet;exact ⟨rfl,hb_w5⟩
  case rest=>
   obtain ⟨rfl,hB6⟩:=hcut;obtain ⟨w6,hw6⟩:∃ z,z=wc:=⟨_,rfl⟩;rw [<-hw6] at hB6;subst hw6;have HB6:Hid _:=hB6;have s1:∀ u:BW w6,u.w.cell? ⟨w.heap.size,1,none⟩=some (.int .i64 m.fr):=fun u=>q1 ⟨u.w,HB6.out.trans (u.h.mono HB6.out.size)⟩
   have si:∀ u:BW w6,u.w.cell? ⟨w.heap.size,4,none⟩=some (.int .i64 m.li):=fun u=>qi ⟨u.w,HB6.out.trans (u.h.mono HB6.out.size)⟩
   have s4:∀ u:BW w6,u.w.cell? ⟨b,4,none⟩=some (.int .i64 r.n.tm):=fun u=>q4 ⟨u.w,HB6.out.trans (u.h.mono HB6.out.size)⟩
   have NE6:Nonempty (BW w6):=⟨⟨w6,Below.refl _ _⟩⟩;clear q3 q1 qi q4 NEW hB6
   go_upto_region 2 with fail
   refine Zn (C:=fun w'=>∃ u:BW w6,w'=u.w) _ (by kernel_rfl) rfl (by kernel_rfl) ⟨⟨_,(Below.refl _ _).drew⟩,rfl⟩ ?_;simp only [List.dropLast_cons_cons,List.dropLast_singleton]
   repeat (first | go_big_quiet_step ((fail)))
   refine wpQuiet_nil ?_;intro w7 hww7;have hb_w7:Below w6.heap.size w6 w7:=(by obtain ⟨u,rfl⟩:=hww7;exact u.h);clear hww7;refine Ya (N:=165) rfl (fun _ _=>by go_simp) #[.pointer (some ⟨b,0,none⟩),.int .i64 m.fr,.agg #[.int .i64 6,.int .i64 0,.int .i64 0,.int .i64 r.n.tm,.int .i64 m.li,.int .i64 0,.int .i64 0,.int .i64 0,.int .i64 0,.slice none 0 0]] (by simp only [List.map_toArray,List.map_cons,List.map_nil];rfl) ?_;have HB7:Hid (Below W.heap.size W w7):=HB6.out.trans (hb_w7.mono HB6.out.size);refine Calls.mono (HSe.out w7 HB7.out) ?_;rintro e w8 ⟨rfl,v8,m8,h8,t8⟩;refine ⟨_,rfl,?_⟩;have H8:Hid _:=h8;have T8:Hid (Tch b w x w8 (x.sent v8 m8)):=Tch.head HBW.out (Tch.head HB7.out t8);clear h8 t8
   go_wp2_with fail
   go_ret;exact ⟨rfl,_,H8.out,T8.out⟩
 ·have HAj2:Hid _:=HAj.out.trans (if_neg h1)
  have h1d:decide (m.tm<r.n.tm)=false:=decide_eq_false h1;obtain ⟨R1,hR1⟩:∃ R1,R1=r.higher m.tm:=⟨_,rfl⟩;rw [<-hR1] at HAj2;have HHi:Hid (R1=if r.n.tm<m.tm then r.adopt m.tm else r):=hR1;have HNb:Hid (NdB R1.n):=by unfold Hid;rw [hR1];exact hb.higher _
  have HDr:Hid (R1.draw=r.draw):=by unfold Hid;rw [hR1];exact Z16 _ _
  have HK1:Hid (R1.code=0):=by unfold Hid;rw [hR1,Z4o];exact hc
  have HAd:Hid (∀ z,Below W.heap.size W z->Calls Tryz.prog 170 #[.pointer (some ⟨b,0,none⟩),.int .i64 m.tm] z fun e w'=>e=.returned (.tuple #[])/\Z0 w' B b (r.adopt m.tm) x.lone/\Tch b z x w' x.lone):=fun z hz=>Z40 b r x m.tm z B (HCW.out.below hz) hd hD hb.nw0 hb.nw1
  obtain ⟨RP,hRP⟩:∃ RP,RP=r.append m:=⟨_,rfl⟩;rw [<-hRP] at HAj2 ⊢;clear h HAj h1 hR1 hRP;go_enter Tryz.func134,Tryz.ntmps134
  go_upto_region 1 with fail
  rw [<-hW];clear hW
  go_cut [12] (fun s z=>s=.bool false/\Below W.heap.size W z)
  case first=>
   refine wp_region_quiet (C:=fun w'=>∃ u:BW W,w'=u.w) (by kernel_rfl) (by kernel_rfl) ⟨⟨_,(Below.refl _ _).drew⟩,rfl⟩ ?_;rw [List.toList_toArray]
   repeat (first | go_big_quiet_step ((fail)))
   refine wpQuiet_nil ?_;intro w5 hww5;have hb_w5:Below W.heap.size W w5:=(by obtain ⟨u,rfl⟩:=hww5;exact u.h);clear hww5
   go_wp2_with fail
   go_meet;exact ⟨rfl,hb_w5⟩
  case rest=>
   obtain ⟨rfl,hB6⟩:=hcut;obtain ⟨w6,hw6⟩:∃ z,z=wc:=⟨_,rfl⟩;rw [<-hw6] at hB6;subst hw6;have HB6:Hid _:=hB6;have s3:∀ u:BW w6,u.w.cell? ⟨w.heap.size,3,none⟩=some (.int .i64 m.tm):=fun u=>q3 ⟨u.w,HB6.out.trans (u.h.mono HB6.out.size)⟩
   have s4:∀ u:BW w6,u.w.cell? ⟨b,4,none⟩=some (.int .i64 r.n.tm):=fun u=>q4 ⟨u.w,HB6.out.trans (u.h.mono HB6.out.size)⟩
   have NE6:Nonempty (BW w6):=⟨⟨w6,Below.refl _ _⟩⟩;clear q3 q1 qi q4 NEW hB6
   go_upto_region 4 with fail
   refine wp_region_quiet (C:=fun w'=>∃ u:BW w6,w'=u.w) (by kernel_rfl) (by kernel_rfl) ⟨⟨_,(Below.refl _ _).drew⟩,rfl⟩ ?_;rw [List.toList_toArray]
   repeat (first | go_big_quiet_step ((fail)))
   refine wpQuiet_nil ?_;intro w7 hww7;have hb_w7:Below w6.heap.size w6 w7:=(by obtain ⟨u,rfl⟩:=hww7;exact u.h);clear hww7;have HB7:Hid (Below W.heap.size W w7):=HB6.out.trans (hb_w7.mono HB6.out.size);have n3:w7.cell? ⟨w.heap.size,3,none⟩=some (.int .i64 m.tm):=(HC1.out w7 HB7.out).2.2.cell 3;clear s3 s4 NE6 hb_w7
   go_upto_if 32 with fail
   go_cut [] (fun z=>∃ X1,Z0 z B b R1 X1/\Tch b W x z X1/\X1.L=x.L)
   case first=>
    by_cases ht:r.n.tm<m.tm
    ·have htd:decide (r.n.tm<m.tm)=true:=decide_eq_true ht
     have HH2:Hid (R1=r.adopt m.tm):=HHi.out.trans (if_pos ht);rw [htd];clear ht htd HHi
     go_wp2_with (first
      |(go_at_call 170;refine Calls.mono (HAd.out _ HB7.out) ?_;rintro e w3 ⟨rfl,h2,t2⟩;have H2:Hid _:=h2;have T2:Hid (Tch b W x w3 x.lone):=Tch.head HB7.out t2;clear h2 t2))
     go_meet;exact ⟨x.lone,by rw [HH2.out];exact H2.out,T2.out,rfl⟩
    ·have htd:decide (r.n.tm<m.tm)=false:=decide_eq_false ht
     have HH2:Hid (R1=r):=HHi.out.trans (if_neg ht);rw [htd];clear ht htd HHi
     go_wp2_with fail
     go_meet;exact ⟨x,by rw [HH2.out];exact (HC1.out w7 HB7.out).1,Tch.below0 _ _ HB7.out,rfl⟩
   case rest=>
    obtain ⟨X1,hC,hT,hX⟩:=hcut;obtain ⟨w8,hw8⟩:∃ z,z=wc:=⟨_,rfl⟩;rw [<-hw8] at hC hT;subst hw8;have HC8:Hid _:=hC;have HT8:Hid _:=hT;have HX9:Hid (X1.L.length<=900):=by unfold Hid;rw [hX];exact hl
    have HM8:Hid (Blk w8 w.heap.size _ 43):=HMt.out w8 X1 hT;have d6:w8.cell? ⟨b,6,none⟩=some (.int .i64 R1.n.ro):=hC.blk.cell 6;have n1:w8.cell? ⟨w.heap.size,1,none⟩=some (.int .i64 m.fr):=HM8.out.cell 1;clear hC hT hX n3;by_cases hro:R1.n.ro=3
    ·have HR:Hid (RP=R1.stale):=HAj2.out.trans (if_pos hro)
     have hrb:(R1.n.ro == 3)=true:=by simpa using hro
     clear HAj2 hro
     go_wp2_with fail
     go_ret;exact ⟨by rw [HR.out];rfl,X1,by rw [HR.out];exact HC8.out.codeQ 3,Tch.head HBW.out HT8.out⟩
    ·obtain ⟨R2,hR2⟩:∃ R2:Rn,R2={ R1.lone with n:={ R1.lone.n with ld:=m.fr } }:=⟨_,rfl⟩
     obtain ⟨R3,hR3⟩:∃ R3:Rn,R3={ R1.lone with n:={ R1.lone.n with ld:=m.fr,hd:=R1.n.nw } }:=⟨_,rfl⟩;have HR:Hid (RP=R3.timer.join m):=by unfold Hid;rw [hR3];exact HAj2.out.trans (if_neg hro)
     have hrb:(R1.n.ro == 3)=false:=by simpa using hro
     have HFo:Hid (Calls Tryz.prog 155 #[.pointer (some ⟨b,0,none⟩),.int .i64 m.fr] w8 fun e w'=>e=.returned (.tuple #[])/\Z0 w' B b R2 X1.lone/\Tch b w8 X1 w' X1.lone):=by unfold Hid;rw [hR2];exact Z0v b R1 X1 m.fr w8 B HC8.out
     have HS9:Hid (∀ z,Z0 z B b R2 X1.lone->z.cell? ⟨b,9,none⟩=some (.int .i64 R1.n.nw)/\(∃ u,z.cell? ⟨b,11,none⟩=some u)/\z.frozen? ⟨b,11,none⟩=false/\Z0 (z.setCell ⟨b,11,none⟩ (.int .i64 R1.n.nw)) B b R3 X1.lone/\Tch b z X1.lone (z.setCell ⟨b,11,none⟩ (.int .i64 R1.n.nw)) X1.lone):=fun z hz=>by
      have e9:=hz.blk.cell 9;rw [hR2] at e9 hz;refine ⟨e9,⟨_,hz.blk.cell 11⟩,hz.blk.free 11,?_,Tch.set _ _ _ _ _⟩;rw [hR3];exact hz.set 11 _ rfl rfl rfl rfl rfl rfl rfl rfl rfl rfl Iff.rfl
     have HTm:Hid (∀ z,Z0 z B b R3 X1.lone->Calls Tryz.prog 156 #[.pointer (some ⟨b,0,none⟩)] z fun e w'=>e=.returned (.tuple #[])/\Z0 w' B b R3.timer X1.lone/\Tch b z X1.lone w' X1.lone):=fun z hz=>Jg b R3 X1.lone z B hz (by rw [hR3];show _<=R1.draw;rw [HDr.out];exact hd) (by rw [hR3];show R1.draw<_;rw [HDr.out];exact hD) (by rw [hR3];exact HNb.out.nw0) (by rw [hR3];exact HNb.out.nw1)
     have HR3e:Hid (R3.timer.code=0/\R3.timer.n.log.length<=4096):=by unfold Hid;rw [hR3];exact ⟨HK1.out,HNb.out.ln⟩
     clear HAj2 hro hR2 hR3;have G1:Hid True:=trivial
     go_wp2_with (first
      |(go_at_call 155;refine Calls.mono HFo.out ?_;rintro e w9 ⟨rfl,h9,t9⟩;obtain ⟨e9,⟨ev,e11⟩,ef,hC9,hT9⟩:=HS9.out w9 h9;have HC9:Hid _:=hC9;have HT9:Hid (Tch b W x _ X1.lone):=(HT8.out.trans t9).trans hT9;clear h9 t9 hC9 hT9)
      |(go_at_call 156;refine Calls.mono (HTm.out _ HC9.out) ?_;rintro e wa ⟨rfl,ha,ta⟩;have HCa:Hid _:=ha;have HTa:Hid (Tch b W x wa X1.lone):=HT9.out.trans ta;have HMa:Hid (Blk wa w.heap.size _ 43):=HMt.out wa _ HTa.out;have HBa:Hid (Below B w wa):=HBl.out wa _ HTa.out;clear ha ta)
      |(have hBA:=HMa;have hG:=G1;refine Z7 43 (.tmp 3) rfl ?_;clear hBA hG;refine Z3 rfl 43 (.tmp 3) rfl w.heap.size rfl HMa.out Tryz.underlying43 rfl Zy rfl ?_;clear G1)
      |(go_at_call 172;refine Calls.mono (HJn.out _ _ _ HCa.out HR3e.out.1 HX9.out HR3e.out.2 HBa.out) ?_;rintro e wb ⟨rfl,xb,hb',tb⟩;have HZ:Hid _:=hb';have TZ:Hid _:=Tch.head HBW.out (HTa.out.trans tb);clear hb' tb))
     go_ret;exact ⟨by rw [HR.out];rfl,_,by rw [HR.out];exact HZ.out,TZ.out⟩
end Go.Proofs.YtmmpoppgabadmaaGreat
namespace Go.Proofs.YtmmpoppgabadmaaGreat
open Go.RowKit Go.Maps
theorem msB_more (m:Mg)(h:msB m=0):(m.ok=0∨m.ok=1)/\(m.li=0->m.lt=0):=by
 unfold msB Jh at h;split at h
 ·simp at h
 split at h
 ·simp at h
 split at h
 ·simp at h
 rename_i h3;split at h
 ·simp at h
 rename_i h4;split at h
 ·simp at h
 rename_i h5;have k4:Z0y m.ki m.tm m.li m.lt=true:=by simpa using h4
 have k5:Xq m.ki m.cm m.ok m.hi=true:=by simpa using h5
 unfold Xq at k5;simp only [Bool.and_eq_true,Zk] at k5;unfold Z0y at k4;constructor
 ·have h9:(if m.ki=2∨m.ki=4∨m.ki=6 then (1:Int) else 0)<=1:=by split <;> omega
  omega
 ·intro e
  split at k4
  ·simp only [Bool.and_eq_true,beq_iff_eq] at k4
   have h9:=k4.2;rw [e] at h9;simpa using h9
  ·split at k4
   ·simp only [Bool.and_eq_true,beq_iff_eq] at k4
    exact k4.2
   ·simp only [Bool.and_eq_true,beq_iff_eq] at k4
    exact k4.2
theorem take_any (b:Nat)(r:Rn)(x:CV)(m:Mg)(ea:Option Addr)(ec:Nat)(w:World)(B:Nat)(h:Z0 w B b r x)(hc:r.code=0)(hl:x.L.length<=900)(hb:NdB r.n)(hd : -(2^63)<=r.draw)(hD:r.draw<2^63)(ht0:0<=r.n.tm)(ht1:r.n.tm<=1073741824)(he:Es w (.slice ea m.es.length ec) m.es)(hlo:∀ k,(Value.slice ea m.es.length ec).ownBlock=some k->k<B)(hec:m.es.length<=ec)(hel:m.es.length<=1048576)(hLd:r.n.ro=3->LdM r.n r.n.sz.toNat)(hcm0:0<=r.n.cm)(hLR:LogR r.n) :
  Calls Tryz.prog 84 #[.pointer (some ⟨b,0,none⟩),.agg #[.int .i64 m.ki,.int .i64 m.fr,.int .i64 m.td,.int .i64 m.tm,.int .i64 m.li,.int .i64 m.lt,.int .i64 m.cm,.int .i64 m.ok,.int .i64 m.hi,.slice ea m.es.length ec]] w fun e w'=>e=.returned (.int .i64 (r.message (decide (msB m≠0)) m).code)/\∃ x',Z0 w' B b (r.message (decide (msB m≠0)) m) x'/\Tch b w x w' x':=by
 have hBw:B<=w.heap.size:=Nat.le_trans h.lo (Nat.le_of_lt h.lt);have HQ:Hid (r.message (decide (msB m≠0)) m=_):=Z5k r m;have HEe:Hid (∀ z,Below B w z->Es z (.slice ea m.es.length ec) m.es):=fun z hz=>he.elder hlo hz
 have HLo:Hid (∀ k,(Value.slice ea m.es.length ec).ownBlock=some k->k<B):=hlo;obtain ⟨EN,hEN⟩:∃ EN,EN=m.es.length:=⟨_,rfl⟩;have HEN:Hid (EN=m.es.length):=hEN;rw [<-hEN] at hec hel ⊢;obtain ⟨W,hW⟩:∃ W,W=w.alloc (.cells #[.int .i64 m.ki,.int .i64 m.fr,.int .i64 m.td,.int .i64 m.tm,.int .i64 m.li,.int .i64 m.lt,.int .i64 m.cm,.int .i64 m.ok,.int .i64 m.hi,.slice ea EN ec] 43):=⟨_,rfl⟩;have HBW:Hid (Below w.heap.size w W):=by unfold Hid;rw [hW];exact Below.alloc0 _
 have HMW:Hid (Blk W w.heap.size #[.int .i64 m.ki,.int .i64 m.fr,.int .i64 m.td,.int .i64 m.tm,.int .i64 m.li,.int .i64 m.lt,.int .i64 m.cm,.int .i64 m.ok,.int .i64 m.hi,.slice ea EN ec] 43):=by unfold Hid;rw [hW];exact Blk.new _ _ _
 have HCW:Hid (Z0 W B b r x):=h.below HBW.out;have HMf:Hid (∀ z,Below W.heap.size W z->Calls Tryz.prog 129 #[.agg #[.int .i64 m.ki,.int .i64 m.fr,.int .i64 m.td,.int .i64 m.tm,.int .i64 m.li,.int .i64 m.lt,.int .i64 m.cm,.int .i64 m.ok,.int .i64 m.hi,.slice ea EN ec]] z fun e w'=>e=.returned (.int .i64 (msB m))/\Below z.heap.size z w'):=fun z hz=>Z45 m.ki m.fr m.td m.tm m.li m.lt m.cm m.ok m.hi _ m.es z (by have h9:=HEe.out z ((HBW.out.mono hBw).trans (hz.mono (by have:=HBW.out.size;omega)));rw [<-HEN.out] at h9;exact h9) (by rw [<-HEN.out];exact hel)
 have q2:∀ u:BW W,u.w.cell? ⟨w.heap.size,2,none⟩=some (.int .i64 m.td):=fun u=>(HMW.out.below u.h HMW.out.lt).cell 2
 have q1:∀ u:BW W,u.w.cell? ⟨w.heap.size,1,none⟩=some (.int .i64 m.fr):=fun u=>(HMW.out.below u.h HMW.out.lt).cell 1
 have p0:∀ u:BW W,u.w.cell? ⟨b,0,none⟩=some (.int .i64 r.n.id):=fun u=>(HCW.out.below u.h).blk.cell 0
 have p1:∀ u:BW W,u.w.cell? ⟨b,1,none⟩=some (.int .i64 r.n.sz):=fun u=>(HCW.out.below u.h).blk.cell 1
 have qm:∀ u:BW W,Sem.run Tryz.prog (loadVar 43 ⟨w.heap.size,0,none⟩) u.w=.ok (.agg #[.int .i64 m.ki,.int .i64 m.fr,.int .i64 m.td,.int .i64 m.tm,.int .i64 m.li,.int .i64 m.lt,.int .i64 m.cm,.int .i64 m.ok,.int .i64 m.hi,.slice ea EN ec]) u.w:=fun u=>Ja (HMW.out.below u.h HMW.out.lt) 43 Tryz.underlying43 rfl Zy
 have NEW:Nonempty (BW W):=⟨⟨W,Below.refl _ _⟩⟩;obtain ⟨RP,hRP⟩:∃ RP,RP=r.message (decide (msB m≠0)) m:=⟨_,rfl⟩;rw [<-hRP] at HQ ⊢;obtain ⟨VB,hVB⟩:∃ VB,VB=mgB r.n m:=⟨_,rfl⟩;rw [<-hVB] at HQ;have HVB:Hid (VB=((msB m != 0) || (m.td != r.n.id) || decide (r.n.sz<m.fr))):=hVB;obtain ⟨MS,hMS⟩:∃ MS,MS=msB m:=⟨_,rfl⟩;have HMS:Hid (MS=msB m):=hMS;rw [<-hMS] at HMf HVB;clear h he hlo hEN hRP hVB hMS;go_enter Tryz.func84,Tryz.ntmps84
 go_upto_region 1 with fail
 rw [<-hW];clear hW
 go_cut [27] (fun s z=>s=.bool VB/\Below W.heap.size W z)
 case first=>
  cases h1:(MS != 0)
  ·cases h2:(m.td != r.n.id)
   ·rw [h1,h2] at HVB
    refine wp_region_quiet (C:=fun w'=>∃ u:BW W,w'=u.w) (by kernel_rfl) (by kernel_rfl) ⟨⟨_,(Below.refl _ _).drew⟩,rfl⟩ ?_;rw [List.toList_toArray]
    repeat (first | (go_big_quiet_want;refine J1 (W:=W) 43 (.tmp 3) rfl rfl qm ?_;go_big_quiet_on;simp only [Act.put,List.setIfInBounds_toArray,List.set_cons_zero,List.set_cons_succ]) | go_big_quiet_step ((go_at_call 129;refine Calls.mono (HMf.out _ (BW.h _)) ?_;rintro e w9 ⟨rfl,hb9⟩;exact ⟨rfl,⟨⟨w9,(BW.h _).trans (hb9.mono (BW.h _).size)⟩,rfl⟩⟩)))
    refine wpQuiet_nil ?_;intro w5 hww5;have hb_w5:Below W.heap.size W w5:=(by obtain ⟨u,rfl⟩:=hww5;exact u.h);clear hww5
    go_wp2_with fail
    go_meet;exact ⟨by rw [HVB.out];simp,hb_w5⟩
   ·rw [h1,h2] at HVB
    refine wp_region_quiet (C:=fun w'=>∃ u:BW W,w'=u.w) (by kernel_rfl) (by kernel_rfl) ⟨⟨_,(Below.refl _ _).drew⟩,rfl⟩ ?_;rw [List.toList_toArray]
    repeat (first | (go_big_quiet_want;refine J1 (W:=W) 43 (.tmp 3) rfl rfl qm ?_;go_big_quiet_on;simp only [Act.put,List.setIfInBounds_toArray,List.set_cons_zero,List.set_cons_succ]) | go_big_quiet_step ((go_at_call 129;refine Calls.mono (HMf.out _ (BW.h _)) ?_;rintro e w9 ⟨rfl,hb9⟩;exact ⟨rfl,⟨⟨w9,(BW.h _).trans (hb9.mono (BW.h _).size)⟩,rfl⟩⟩)))
    refine wpQuiet_nil ?_;intro w5 hww5;have hb_w5:Below W.heap.size W w5:=(by obtain ⟨u,rfl⟩:=hww5;exact u.h);clear hww5
    go_wp2_with fail
    go_meet;exact ⟨by rw [HVB.out];rfl,hb_w5⟩
  ·rw [h1] at HVB
   refine wp_region_quiet (C:=fun w'=>∃ u:BW W,w'=u.w) (by kernel_rfl) (by kernel_rfl) ⟨⟨_,(Below.refl _ _).drew⟩,rfl⟩ ?_;rw [List.toList_toArray]
   repeat (first | (go_big_quiet_want;refine J1 (W:=W) 43 (.tmp 3) rfl rfl qm ?_;go_big_quiet_on;simp only [Act.put,List.setIfInBounds_toArray,List.set_cons_zero,List.set_cons_succ]) | go_big_quiet_step ((go_at_call 129;refine Calls.mono (HMf.out _ (BW.h _)) ?_;rintro e w9 ⟨rfl,hb9⟩;exact ⟨rfl,⟨⟨w9,(BW.h _).trans (hb9.mono (BW.h _).size)⟩,rfl⟩⟩)))
   refine wpQuiet_nil ?_;intro w5 hww5;have hb_w5:Below W.heap.size W w5:=(by obtain ⟨u,rfl⟩:=hww5;exact u.h);clear hww5
   go_wp2_with fail
   go_meet;exact ⟨by rw [HVB.out];rfl,hb_w5⟩
 case rest=>
  obtain ⟨rfl,hB6⟩:=hcut;obtain ⟨w6,hw6⟩:∃ z,z=wc:=⟨_,rfl⟩;rw [<-hw6] at hB6;subst hw6;have HB6:Hid _:=hB6;have HC6:Hid (Z0 w6 B b r x):=HCW.out.below hB6;have HM6:Hid (Blk w6 w.heap.size _ 43):=HMW.out.below hB6 HMW.out.lt;have HT6:Hid (Tch b w x w6 x):=Tch.head HBW.out (Tch.below0 _ _ hB6);have n0:w6.cell? ⟨w.heap.size,0,none⟩=some (.int .i64 m.ki):=HM6.out.cell 0;clear q2 q1 p0 p1 qm NEW hB6;by_cases hv:VB=true
  ·have HR:Hid (RP={ r with code:=1 }):=HQ.out.trans (if_pos hv)
   rw [hv];clear HQ hv HVB
   go_wp2_with fail
   go_ret;exact ⟨by rw [HR.out];rfl,x,by rw [HR.out];exact HC6.out.codeQ 1,HT6.out⟩
  have hvf:VB=false:=by simpa using hv
  have HQ2:Hid _:=HQ.out.trans (if_neg hv);have h9:=HVB.out;rw [hvf] at h9;have h8:=Bool.or_eq_false_iff.1 h9.symm;have h7:=Bool.or_eq_false_iff.1 h8.1;have hms:msB m=0:=by rw [<-HMS.out];simpa using h7.1
  have htd:m.td=r.n.id:=by simpa using h7.2
  have hfs:m.fr<=r.n.sz:=by have:=of_decide_eq_false h8.2;omega
  obtain ⟨hki,hfr,hft,hli0,hli1,hes,hhi0,hhi1⟩:=msB_zero m hms;obtain ⟨hok,hlt0⟩:=msB_more m hms;have HPa:Hid (Calls Tryz.prog 130 #[.pointer (some ⟨b,0,none⟩),.agg #[.int .i64 m.ki,.int .i64 m.fr,.int .i64 m.td,.int .i64 m.tm,.int .i64 m.li,.int .i64 m.lt,.int .i64 m.cm,.int .i64 m.ok,.int .i64 m.hi,.slice ea EN ec]] w6 fun e w'=>e=.returned (.int .i64 (r.preAsk m).code)/\∃ x',Z0 w' B b (r.preAsk m) x'/\Tch b w6 x w' x'):=Z5p b r x m ea EN ec w6 B HC6.out hc hl hb;have HPr:Hid (Calls Tryz.prog 131 #[.pointer (some ⟨b,0,none⟩),.agg #[.int .i64 m.ki,.int .i64 m.fr,.int .i64 m.td,.int .i64 m.tm,.int .i64 m.li,.int .i64 m.lt,.int .i64 m.cm,.int .i64 m.ok,.int .i64 m.hi,.slice ea EN ec]] w6 fun e w'=>e=.returned (.int .i64 (r.preReply m).code)/\∃ x',Z0 w' B b (r.preReply m) x'/\Tch b w6 x w' x'):=Z3z b r x m ea EN ec w6 B HC6.out hc hl hb hd hD ht0 ht1 hfr.1 hfs;have HVa:Hid (Calls Tryz.prog 132 #[.pointer (some ⟨b,0,none⟩),.agg #[.int .i64 m.ki,.int .i64 m.fr,.int .i64 m.td,.int .i64 m.tm,.int .i64 m.li,.int .i64 m.lt,.int .i64 m.cm,.int .i64 m.ok,.int .i64 m.hi,.slice ea EN ec]] w6 fun e w'=>e=.returned (.int .i64 (r.voteAsk m).code)/\∃ x',Z0 w' B b (r.voteAsk m) x'/\Tch b w6 x w' x'):=Z51 b r x m ea EN ec w6 B HC6.out hc hl hb hd hD;have HVr:Hid (Calls Tryz.prog 133 #[.pointer (some ⟨b,0,none⟩),.agg #[.int .i64 m.ki,.int .i64 m.fr,.int .i64 m.td,.int .i64 m.tm,.int .i64 m.li,.int .i64 m.lt,.int .i64 m.cm,.int .i64 m.ok,.int .i64 m.hi,.slice ea EN ec]] w6 fun e w'=>e=.returned (.int .i64 (r.voteReply m).code)/\∃ x',Z0 w' B b (r.voteReply m) x'/\Tch b w6 x w' x'):=Z32 b r x m ea EN ec w6 B HC6.out hc hl hb hd hD ht0 ht1 hfr.1 hfs hok
  have HAp:Hid (Calls Tryz.prog 134 #[.pointer (some ⟨b,0,none⟩),.agg #[.int .i64 m.ki,.int .i64 m.fr,.int .i64 m.td,.int .i64 m.tm,.int .i64 m.li,.int .i64 m.lt,.int .i64 m.cm,.int .i64 m.ok,.int .i64 m.hi,.slice ea EN ec]] w6 fun e w'=>e=.returned (.int .i64 (r.append m).code)/\∃ x',Z0 w' B b (r.append m) x'/\Tch b w6 x w' x'):=by
   have h9:=Z5u b r x m ea ec m.li.toNat w6 B HC6.out hc hl hb hd hD (HEe.out w6 ((HBW.out.mono hBw).trans (HB6.out.mono (by have:=HBW.out.size;omega)))) HLo.out (by rw [<-HEN.out];exact hec) (by rw [<-HEN.out];exact hel) (by omega) (by omega) hlt0;rw [<-HEN.out] at h9;exact h9
  have HAr:Hid (Calls Tryz.prog 135 #[.pointer (some ⟨b,0,none⟩),.agg #[.int .i64 m.ki,.int .i64 m.fr,.int .i64 m.td,.int .i64 m.tm,.int .i64 m.li,.int .i64 m.lt,.int .i64 m.cm,.int .i64 m.ok,.int .i64 m.hi,.slice ea EN ec]] w6 fun e w'=>e=.returned (.int .i64 (r.appReply m).code)/\∃ x',Z0 w' B b (r.appReply m) x'/\Tch b w6 x w' x'):=Z2m b r x m (m.fr-1).toNat ea EN ec w6 B HC6.out hc hl hb hd hD (by omega) (by omega) (by omega) hLd hcm0 hli0 hli1 hhi0 hhi1 hLR;rw [hvf];clear HQ hv hvf HVB h9 h8 h7 hms htd hLd;have G1:Hid True:=trivial;by_cases hk1:m.ki=1
  ·have HR:Hid (RP=r.preAsk m):=HQ2.out.trans (if_pos hk1)
   have hkb:(m.ki == 1)=true:=by simpa using hk1
   rw [<-HR.out] at HPa;clear HQ2 hk1
   go_wp2_with (first
    |(have hBA:=G1;refine Z7 43 (.tmp 3) rfl ?_;clear hBA;refine Z3 rfl 43 (.tmp 3) rfl w.heap.size rfl HM6.out Tryz.underlying43 rfl Zy rfl ?_;clear G1)
    |(go_at_call 130;refine Calls.mono HPa.out ?_;rintro e w7 ⟨rfl,x7,h7,t7⟩;have H7:Hid _:=h7;have T7:Hid _:=HT6.out.trans t7;clear h7 t7))
   go_ret;exact ⟨rfl,_,H7.out,T7.out⟩
  have hkb1:(m.ki == 1)=false:=by simpa using hk1
  have HQ3:Hid _:=HQ2.out.trans (if_neg hk1);clear HQ2;by_cases hk2:m.ki=2
  ·have HR:Hid (RP=r.preReply m):=HQ3.out.trans (if_pos hk2)
   have hkb:(m.ki == 2)=true:=by simpa using hk2
   rw [<-HR.out] at HPr;clear HQ3 hk2
   go_wp2_with (first
    |(have hBA:=G1;refine Z7 43 (.tmp 3) rfl ?_;clear hBA;refine Z3 rfl 43 (.tmp 3) rfl w.heap.size rfl HM6.out Tryz.underlying43 rfl Zy rfl ?_;clear G1)
    |(go_at_call 131;refine Calls.mono HPr.out ?_;rintro e w7 ⟨rfl,x7,h7,t7⟩;have H7:Hid _:=h7;have T7:Hid _:=HT6.out.trans t7;clear h7 t7))
   go_ret;exact ⟨rfl,_,H7.out,T7.out⟩
  have hkb2:(m.ki == 2)=false:=by simpa using hk2
  have HQ4:Hid _:=HQ3.out.trans (if_neg hk2);clear HQ3;by_cases hk3:m.ki=3
  ·have HR:Hid (RP=r.voteAsk m):=HQ4.out.trans (if_pos hk3)
   have hkb:(m.ki == 3)=true:=by simpa using hk3
   rw [<-HR.out] at HVa;clear HQ4 hk3
   go_wp2_with (first
    |(have hBA:=G1;refine Z7 43 (.tmp 3) rfl ?_;clear hBA;refine Z3 rfl 43 (.tmp 3) rfl w.heap.size rfl HM6.out Tryz.underlying43 rfl Zy rfl ?_;clear G1)
    |(go_at_call 132;refine Calls.mono HVa.out ?_;rintro e w7 ⟨rfl,x7,h7,t7⟩;have H7:Hid _:=h7;have T7:Hid _:=HT6.out.trans t7;clear h7 t7))
   go_ret;exact ⟨rfl,_,H7.out,T7.out⟩
  have hkb3:(m.ki == 3)=false:=by simpa using hk3
  have HQ5:Hid _:=HQ4.out.trans (if_neg hk3);clear HQ4;by_cases hk4:m.ki=4
  ·have HR:Hid (RP=r.voteReply m):=HQ5.out.trans (if_pos hk4)
   have hkb:(m.ki == 4)=true:=by simpa using hk4
   rw [<-HR.out] at HVr;clear HQ5 hk4
   go_wp2_with (first
    |(have hBA:=G1;refine Z7 43 (.tmp 3) rfl ?_;clear hBA;refine Z3 rfl 43 (.tmp 3) rfl w.heap.size rfl HM6.out Tryz.underlying43 rfl Zy rfl ?_;clear G1)
    |(go_at_call 133;refine Calls.mono HVr.out ?_;rintro e w7 ⟨rfl,x7,h7,t7⟩;have H7:Hid _:=h7;have T7:Hid _:=HT6.out.trans t7;clear h7 t7))
   go_ret;exact ⟨rfl,_,H7.out,T7.out⟩
  have hkb4:(m.ki == 4)=false:=by simpa using hk4
  have HQ6:Hid _:=HQ5.out.trans (if_neg hk4);clear HQ5;by_cases hk5:m.ki=5
  ·have HR:Hid (RP=r.append m):=HQ6.out.trans (if_pos hk5)
   have hkb:(m.ki == 5)=true:=by simpa using hk5
   rw [<-HR.out] at HAp;clear HQ6 hk5
   go_wp2_with (first
    |(have hBA:=G1;refine Z7 43 (.tmp 3) rfl ?_;clear hBA;refine Z3 rfl 43 (.tmp 3) rfl w.heap.size rfl HM6.out Tryz.underlying43 rfl Zy rfl ?_;clear G1)
    |(go_at_call 134;refine Calls.mono HAp.out ?_;rintro e w7 ⟨rfl,x7,h7,t7⟩;have H7:Hid _:=h7;have T7:Hid _:=HT6.out.trans t7;clear h7 t7))
   go_ret;exact ⟨rfl,_,H7.out,T7.out⟩
  have hkb5:(m.ki == 5)=false:=by simpa using hk5
  have HQ7:Hid _:=HQ6.out.trans (if_neg hk5);clear HQ6;have HR:Hid (RP=r.appReply m):=HQ7.out;rw [<-HR.out] at HAr
  go_wp2_with (first
   |(have hBA:=G1;refine Z7 43 (.tmp 3) rfl ?_;clear hBA;refine Z3 rfl 43 (.tmp 3) rfl w.heap.size rfl HM6.out Tryz.underlying43 rfl Zy rfl ?_;clear G1)
   |(go_at_call 135;refine Calls.mono HAr.out ?_;rintro e w7 ⟨rfl,x7,h7,t7⟩;have H7:Hid _:=h7;have T7:Hid _:=HT6.out.trans t7;clear h7 t7))
  go_ret;exact ⟨rfl,_,H7.out,T7.out⟩
end Go.Proofs.YtmmpoppgabadmaaGreat
namespace Go.Proofs.YtmmpoppgabadmaaGreat
open Go.RowKit Go.Maps
def Rn.begin (r:Rn)(dr:Int):Rn:=⟨r.n,[],r.code,0,dr⟩
def CV.begin (x:CV)(k:Int):CV:={ x with vo:=.slice none 0 0,L:=[],kp:=k }
theorem Z0.beginAt {w w':World}{B b:Nat}{r:Rn}{x:CV}{dr k:Int}(h:Z0 w B b r x)(hb:Blk w' b (crC (r.begin dr) (x.begin k)) 80)(hk:∀ j,j≠b->j<w.heap.size->w'.heap[j]? = w.heap[j]?):Z0 w' B b (r.begin dr) (x.begin k):=by
 obtain ⟨f1,f2,f3,f4,f5⟩:=h.bf;refine ⟨hb,h.lo,h.log.block fun j e=>hk j (f4 j e).1 (World.ownsRow.lt h.log.2 j e).2,h.gm.keep (hk _ f1 h.gm.lt),h.gml,h.pm.keep (hk _ f2 h.pm.lt),h.pml,h.gp,fun y q e=>⟨(h.pf y q e).1.keep (hk q (f3 y q e).1 (h.pf y q e).1.lt),(h.pf y q e).2⟩,h.pi,h.pk,Z6.nil _ _ _ _ _,rfl,?_,?_,h.ci⟩
 ·intro p hp;cases hp
 ·exact List.pairwise_singleton _ _
def Rn.step (r:Rn)(ki:Int)(m:Mg)(cl sq op:Int)(k v o:ByteArray):Rn:=
 if ki=1 then r.tick else if ki=2 then r.message (decide (msB m≠0)) m else if ki=3 then r.propose (decide (Jk cl sq op k.size v.size o.size≠0∨op=0)) cl sq op k v o else { r with code:=8 }
theorem step_any (b:Nat)(r:Rn)(x:CV)(ki dr:Int)(m:Mg)(cl sq op:Int)(k v o:ByteArray)(ea:Option Addr)(ec:Nat)(w:World)(B:Nat)(h:Z0 w B b r x)(hc:r.code=0)(hb:NdB r.n)(hd : -(2^63)<=dr)(hD:dr<2^63)(ht0:0<=r.n.tm)(ht1:r.n.tm<=1073741824)(he:Es w (.slice ea m.es.length ec) m.es)(hlo:∀ k,(Value.slice ea m.es.length ec).ownBlock=some k->k<B)(hec:m.es.length<=ec)(hel:m.es.length<=1048576)(hLm:r.n.ro=3->LdM r.n r.n.sz.toNat)(hLt:r.n.ro=3->LdT r.n r.n.sz.toNat)(hcm0:0<=r.n.cm)(hLR:LogR r.n)(hk:k.size<=maxLen)(hv:v.size<=maxLen)(ho:o.size<=maxLen) :
  Calls Tryz.prog 38 #[.pointer (some ⟨b,0,none⟩),.agg #[.int .i64 ki,.int .i64 dr,.int .i64 m.ki,.int .i64 m.fr,.int .i64 m.td,.int .i64 m.tm,.int .i64 m.li,.int .i64 m.lt,.int .i64 m.cm,.int .i64 m.ok,.int .i64 m.hi,.slice ea m.es.length ec,.int .i64 cl,.int .i64 sq,.int .i64 op,.string k,.string v,.string o]] w fun e w'=>e=.returned (.int .i64 ((r.begin dr).step ki m cl sq op k v o).code)/\∃ x',Z0 w' B b ((r.begin dr).step ki m cl sq op k v o) x'/\Tch b w x w' x':=by
 have hBw:B<=w.heap.size:=Nat.le_trans h.lo (Nat.le_of_lt h.lt);have HEe:Hid (∀ z,Below B w z->Es z (.slice ea m.es.length ec) m.es):=fun z hz=>he.elder hlo hz
 have HLo:Hid (∀ k,(Value.slice ea m.es.length ec).ownBlock=some k->k<B):=hlo;obtain ⟨EN,hEN⟩:∃ EN,EN=m.es.length:=⟨_,rfl⟩;have HEN:Hid (EN=m.es.length):=hEN;rw [<-hEN] at hec hel ⊢;obtain ⟨la,lc,hvl⟩:=h.log.shape;obtain ⟨LN,hLN⟩:∃ LN,LN=r.n.log.length:=⟨_,rfl⟩;rw [<-hLN] at hvl;obtain ⟨W,hW⟩:∃ W,W=w.alloc (.cells #[.int .i64 ki,.int .i64 dr,.int .i64 m.ki,.int .i64 m.fr,.int .i64 m.td,.int .i64 m.tm,.int .i64 m.li,.int .i64 m.lt,.int .i64 m.cm,.int .i64 m.ok,.int .i64 m.hi,.slice ea EN ec,.int .i64 cl,.int .i64 sq,.int .i64 op,.string k,.string v,.string o] 46):=⟨_,rfl⟩;have HBW:Hid (Below w.heap.size w W):=by unfold Hid;rw [hW];exact Below.alloc0 _
 have HIW:Hid (Blk W w.heap.size #[.int .i64 ki,.int .i64 dr,.int .i64 m.ki,.int .i64 m.fr,.int .i64 m.td,.int .i64 m.tm,.int .i64 m.li,.int .i64 m.lt,.int .i64 m.cm,.int .i64 m.ok,.int .i64 m.hi,.slice ea EN ec,.int .i64 cl,.int .i64 sq,.int .i64 op,.string k,.string v,.string o] 46):=by unfold Hid;rw [hW];exact Blk.new _ _ _
 have HCW:Hid (Z0 W B b r x):=h.below HBW.out;have HnW:Hid (¬ x.has b w.heap.size):=h.hasnt_new (Nat.le_refl _);have m1:W.cell? ⟨w.heap.size,1,none⟩=some (.int .i64 dr):=HIW.out.cell 1;have d12:W.cell? ⟨b,12,none⟩=some (.slice la LN lc):=by rw [<-hvl];exact HCW.out.blk.cell 12
 have d20:W.cell? ⟨b,20,none⟩=some (.int .i64 r.draw):=HCW.out.blk.cell 20;have d21:W.cell? ⟨b,21,none⟩=some (.int .i64 r.drew):=HCW.out.blk.cell 21;have d22:W.cell? ⟨b,22,none⟩=some (.int .i64 x.kp):=HCW.out.blk.cell 22;obtain ⟨oa,oc,hvo⟩:=h.out.shape;obtain ⟨ON,hON⟩:∃ ON,ON=x.L.length:=⟨_,rfl⟩;rw [<-hON] at hvo;have d23:W.cell? ⟨b,23,none⟩=some (.slice oa ON oc):=by rw [<-hvo];exact HCW.out.blk.cell 23
 have df:∀ j,W.frozen? ⟨b,j,none⟩=false:=fun j=>HCW.out.blk.free j
 have hblt:=h.lt;have hne:¬ w.heap.size=b:=by omega
 have hne2:¬ b=w.heap.size:=by omega
 obtain ⟨R1,hR1⟩:∃ R1,R1=r.begin dr:=⟨_,rfl⟩;obtain ⟨X1,hX1⟩:∃ X1,X1=x.begin (LN:Int):=⟨_,rfl⟩
 have HF:Hid (∀ z,Below W.heap.size W z->Z0 ((((z.setCell ⟨b,20,none⟩ (.int .i64 dr)).setCell ⟨b,21,none⟩ (.int .i64 0)).setCell ⟨b,22,none⟩ (.int .i64 (LN:Int))).setCell ⟨b,23,none⟩ (.slice none 0 0)) B b R1 X1/\Tch b W x ((((z.setCell ⟨b,20,none⟩ (.int .i64 dr)).setCell ⟨b,21,none⟩ (.int .i64 0)).setCell ⟨b,22,none⟩ (.int .i64 (LN:Int))).setCell ⟨b,23,none⟩ (.slice none 0 0)) X1/\Blk ((((z.setCell ⟨b,20,none⟩ (.int .i64 dr)).setCell ⟨b,21,none⟩ (.int .i64 0)).setCell ⟨b,22,none⟩ (.int .i64 (LN:Int))).setCell ⟨b,23,none⟩ (.slice none 0 0)) w.heap.size #[.int .i64 ki,.int .i64 dr,.int .i64 m.ki,.int .i64 m.fr,.int .i64 m.td,.int .i64 m.tm,.int .i64 m.li,.int .i64 m.lt,.int .i64 m.cm,.int .i64 m.ok,.int .i64 m.hi,.slice ea EN ec,.int .i64 cl,.int .i64 sq,.int .i64 op,.string k,.string v,.string o] 46):=fun z hz=>by
  rw [hR1,hX1];have hC:=HCW.out.below hz;refine ⟨hC.beginAt ((((hC.blk.set 20 _).set 21 _).set 22 _).set 23 _) (X8 (b:=b) (X8 (b:=b) (X8 (b:=b) (X8 (b:=b) (Z2e z b) 20 _) 21 _) 22 _) 23 _),?_,((((HIW.out.below hz HIW.out.lt).set_other _ hne).set_other _ hne).set_other _ hne).set_other _ hne⟩;have hT:=((((Tch.below0 b x hz).trans (Tch.set b z x 20 (.int .i64 dr))).trans (Tch.set b _ x 21 (.int .i64 0))).trans (Tch.set b _ x 22 (.int .i64 (LN:Int)))).trans (Tch.set b _ x 23 (.slice none 0 0));refine ⟨hT.os,hT.tape,hT.output,hT.size,hT.block,fun j hj=>.inl ?_⟩;rcases hj with e | e | e | e | e | e
  ·exact .inl e
  ·exact .inr (.inl e)
  ·exact .inr (.inr (.inl e))
  ·exact .inr (.inr (.inr (.inl e)))
  ·exact .inr (.inr (.inr (.inr (.inl e))))
  ·cases e
 have HR1e:Hid (R1.n=r.n/\R1.code=0/\R1.draw=dr/\X1.L = []):=by unfold Hid;rw [hR1,hX1];exact ⟨rfl,hc,rfl,rfl⟩
 rw [<-hR1];obtain ⟨RP,hRP⟩:∃ RP,RP=R1.step ki m cl sq op k v o:=⟨_,rfl⟩;have HRP:Hid (RP=if ki=1 then R1.tick else if ki=2 then R1.message (decide (msB m≠0)) m else if ki=3 then R1.propose (decide (Jk cl sq op k.size v.size o.size≠0∨op=0)) cl sq op k v o else { R1 with code:=8 }):=hRP;rw [<-hRP];have hX0:X1.L.length<=900:=by rw [HR1e.out.2.2.2];simp
 have HTk:Hid (∀ z,Z0 z B b R1 X1->Calls Tryz.prog 83 #[.pointer (some ⟨b,0,none⟩)] z fun e w'=>e=.returned (.int .i64 R1.tick.code)/\∃ x',Z0 w' B b R1.tick x'/\Tch b z X1 w' x'):=fun z hz=>tick_any b R1 X1 z B hz HR1e.out.2.1 (by rw [HR1e.out.1];exact ht0) (by rw [HR1e.out.1];exact ht1) (by rw [HR1e.out.2.2.1];exact hd) (by rw [HR1e.out.2.2.1];exact hD) (by rw [HR1e.out.1];exact hb.nw0) (by rw [HR1e.out.1];exact hb.nw1) (by rw [HR1e.out.1];exact hLt) (by rw [HR1e.out.1];exact hb.ln) hX0
 have HMg:Hid (∀ z,Z0 z B b R1 X1->Below B w z->Calls Tryz.prog 84 #[.pointer (some ⟨b,0,none⟩),.agg #[.int .i64 m.ki,.int .i64 m.fr,.int .i64 m.td,.int .i64 m.tm,.int .i64 m.li,.int .i64 m.lt,.int .i64 m.cm,.int .i64 m.ok,.int .i64 m.hi,.slice ea EN ec]] z fun e w'=>e=.returned (.int .i64 (R1.message (decide (msB m≠0)) m).code)/\∃ x',Z0 w' B b (R1.message (decide (msB m≠0)) m) x'/\Tch b z X1 w' x'):=fun z hz hw=>by
  have h9:=take_any b R1 X1 m ea ec z B hz HR1e.out.2.1 hX0 (by rw [HR1e.out.1];exact hb) (by rw [HR1e.out.2.2.1];exact hd) (by rw [HR1e.out.2.2.1];exact hD) (by rw [HR1e.out.1];exact ht0) (by rw [HR1e.out.1];exact ht1) (HEe.out z hw) HLo.out (by rw [<-HEN.out];exact hec) (by rw [<-HEN.out];exact hel) (by rw [HR1e.out.1];exact hLm) (by rw [HR1e.out.1];exact hcm0) (by rw [HR1e.out.1];exact hLR);rw [<-HEN.out] at h9;exact h9
 have HPr:Hid (∀ z,Z0 z B b R1 X1->Calls Tryz.prog 85 #[.pointer (some ⟨b,0,none⟩),.agg #[.int .i64 cl,.int .i64 sq,.int .i64 op,.string k,.string v,.string o]] z fun e w'=>e=.returned (.int .i64 (R1.propose (decide (Jk cl sq op k.size v.size o.size≠0∨op=0)) cl sq op k v o).code)/\∃ x',Z0 w' B b (R1.propose (decide (Jk cl sq op k.size v.size o.size≠0∨op=0)) cl sq op k v o) x'/\Tch b z X1 w' x'):=fun z hz=>propose_any b R1 X1 cl sq op k v o z B hz HR1e.out.2.1 hX0 (by rw [HR1e.out.1];exact hb.ln) (by rw [HR1e.out.1];exact fun e=>(hLm e).ldb) hk hv ho
 have HBl:Hid (∀ z x',Tch b W x z x'->Below B w z):=fun z x' ht=>(HBW.out.mono hBw).trans (HCW.out.below_of ht)
 clear h hvl hvo he hlo hEN hLN hON hR1 hX1 hRP hLm hLt;go_enter Tryz.func38,Tryz.ntmps38
 go_upto_region 1 with fail
 rw [<-hW];clear hW
 go_cut [] (fun z=>Z0 z B b R1 X1/\Tch b W x z X1/\Blk z w.heap.size #[.int .i64 ki,.int .i64 dr,.int .i64 m.ki,.int .i64 m.fr,.int .i64 m.td,.int .i64 m.tm,.int .i64 m.li,.int .i64 m.lt,.int .i64 m.cm,.int .i64 m.ok,.int .i64 m.hi,.slice ea EN ec,.int .i64 cl,.int .i64 sq,.int .i64 op,.string k,.string v,.string o] 46)
 case first=>
  go_region
  all_goals go_wp2_with fail
  all_goals (
   go_meet
   first
    | exact HF.out _ (Below.refl _ _)
    | exact HF.out _ ((Below.refl _ _).drew))
 case rest=>
  obtain ⟨hC,hT,hI⟩:=hcut;obtain ⟨w2,hw2⟩:∃ z,z=wc:=⟨_,rfl⟩;rw [<-hw2] at hC hT hI;subst hw2;have HC2:Hid _:=hC;have HT2:Hid _:=hT;have HI2:Hid (Blk w2 w.heap.size _ 46):=hI;have n0:w2.cell? ⟨w.heap.size,0,none⟩=some (.int .i64 ki):=hI.cell 0;have HBw2:Hid (Below B w w2):=HBl.out w2 X1 hT;clear hC hT hI m1 d12 d20 d21 d22 d23 df;have G1:Hid True:=trivial;by_cases h1:ki=1
  ·have HR:Hid (RP=R1.tick):=HRP.out.trans (if_pos h1)
   have HT9:Hid _:=HTk.out w2 HC2.out;rw [<-HR.out] at HT9;have hkb:(ki == 1)=true:=by simpa using h1
   clear HRP h1 HR
   go_wp2_with (first
    |(go_at_call 83;refine Calls.mono HT9.out ?_;rintro e w7 ⟨rfl,x7,h7,t7⟩;have H7:Hid _:=h7;have T7:Hid _:=Tch.head HBW.out (HT2.out.trans t7);clear h7 t7))
   go_ret;exact ⟨rfl,_,H7.out,T7.out⟩
  have hk1:(ki == 1)=false:=by simpa using h1
  have HRP2:Hid _:=HRP.out.trans (if_neg h1);clear HRP;by_cases h2:ki=2
  ·have HR:Hid (RP=R1.message (decide (msB m≠0)) m):=HRP2.out.trans (if_pos h2)
   have HT9:Hid _:=HMg.out w2 HC2.out HBw2.out;rw [<-HR.out] at HT9;have hkb:(ki == 2)=true:=by simpa using h2
   clear HRP2 h1 h2 HR
   go_wp2_with (first
    |(have hBA:=G1;refine Z7 43 (.tmp 34) rfl ?_;clear hBA;refine wpList_load_mid rfl 43 (.tmp 34) rfl w.heap.size 2 rfl [.int .i64 m.ki,.int .i64 m.fr,.int .i64 m.td,.int .i64 m.tm,.int .i64 m.li,.int .i64 m.lt,.int .i64 m.cm,.int .i64 m.ok,.int .i64 m.hi,.slice ea EN ec] _ (Y5 HI2.out 2 [.int .i64 m.ki,.int .i64 m.fr,.int .i64 m.td,.int .i64 m.tm,.int .i64 m.li,.int .i64 m.lt,.int .i64 m.cm,.int .i64 m.ok,.int .i64 m.hi,.slice ea EN ec] rfl) Tryz.underlying43 rfl (by rw [Zy];rfl) ?_;clear G1)
    |(go_at_call 84;refine Calls.mono HT9.out ?_;rintro e w7 ⟨rfl,x7,h7,t7⟩;have H7:Hid _:=h7;have T7:Hid _:=Tch.head HBW.out (HT2.out.trans t7);clear h7 t7))
   go_ret;exact ⟨rfl,_,H7.out,T7.out⟩
  have hk2:(ki == 2)=false:=by simpa using h2
  have HRP3:Hid _:=HRP2.out.trans (if_neg h2);clear HRP2;by_cases h3:ki=3
  ·have HR:Hid (RP=R1.propose (decide (Jk cl sq op k.size v.size o.size≠0∨op=0)) cl sq op k v o):=HRP3.out.trans (if_pos h3)
   have HT9:Hid _:=HPr.out w2 HC2.out;rw [<-HR.out] at HT9;have hkb:(ki == 3)=true:=by simpa using h3
   clear HRP3 h1 h2 h3 HR
   go_wp2_with (first
    |(have hBA:=G1;refine Z7 44 (.tmp 40) rfl ?_;clear hBA;refine wpList_load_mid rfl 44 (.tmp 40) rfl w.heap.size 12 rfl [.int .i64 cl,.int .i64 sq,.int .i64 op,.string k,.string v,.string o] _ (Y5 HI2.out 12 [.int .i64 cl,.int .i64 sq,.int .i64 op,.string k,.string v,.string o] rfl) Tryz.underlying44 rfl (by rw [sizeCm];rfl) ?_;clear G1)
    |(go_at_call 85;refine Calls.mono HT9.out ?_;rintro e w7 ⟨rfl,x7,h7,t7⟩;have H7:Hid _:=h7;have T7:Hid _:=Tch.head HBW.out (HT2.out.trans t7);clear h7 t7))
   go_ret;exact ⟨rfl,_,H7.out,T7.out⟩
  have hk3:(ki == 3)=false:=by simpa using h3
  have HR:Hid (RP={ R1 with code:=8 }):=HRP3.out.trans (if_neg h3);clear HRP3 h1 h2 h3
  go_wp2_with fail
  go_ret;exact ⟨by rw [HR.out];rfl,X1,by rw [HR.out];exact HC2.out.codeQ 8,Tch.head HBW.out HT2.out⟩
end Go.Proofs.YtmmpoppgabadmaaGreat
