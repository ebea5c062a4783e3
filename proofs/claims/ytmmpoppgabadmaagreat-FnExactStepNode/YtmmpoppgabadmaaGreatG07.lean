import Derived.Test.YtmmpoppgabadmaaGreatG06
set_option linter.unusedVariables false
set_option linter.unusedSimpArgs false
set_option maxRecDepth 100000
set_option maxHeartbeats 16000000
namespace Go.Proofs.YtmmpoppgabadmaaGreat
open Go.RowKit
def vaB (n:Nd)(m:Mg):Bool:=(m.tm == n.tm) && ((n.vo == 0) || (n.vo == m.fr)) && utd n.log m
theorem vaB_iff (n:Nd)(m:Mg):vaB n m=true↔m.tm=n.tm/\(n.vo=0∨n.vo=m.fr)/\utd n.log m=true:=by
 unfold vaB;simp [and_assoc]
theorem l4voteAsk_any (b:Nat)(r:Rn)(x:RV)(m:Mg)(ea:Option Addr)(en ec:Nat)(w:World)(B:Nat)(h:Z4 w B b r x)(hb:NdB r.n)(hd : -(2^63)<=r.draw)(hD:r.draw<2^63)(hl:x.L.length<=1000) :
  Calls Tryz.prog 121 #[.pointer (some ⟨b,0,none⟩),.agg #[.int .i64 m.ki,.int .i64 m.fr,.int .i64 m.td,.int .i64 m.tm,.int .i64 m.li,.int .i64 m.lt,.int .i64 m.cm,.int .i64 m.ok,.int .i64 m.hi,.slice ea en ec]] w fun e w'=>∃ x',e=.returned (.tuple #[])/\Z4 w' B b (r.voteAsk m) x'/\Below B w w':=by
 have HRw:Hid (∀ z,Below w.heap.size w z->Z4 z B b r x):=fun z hz=>h.below hz
 have hBw:B<=w.heap.size:=Nat.le_trans h.lo (Nat.le_of_lt h.lt);have hbl:=h.lt;have HLo:Hid (∀ z,Calls Tryz.prog 147 #[.agg (ndC r.n x)] z fun e w'=>e=.returned (.bool (Z19 r.n))/\Below z.heap.size z w'):=fun z=>Z4k h hb z
 have HQ:Hid (r.voteAsk m=if Z19 r.n=true then { r with code:=2 } else if m.tm=(r.higher m.tm).n.tm/\((r.higher m.tm).n.vo=0∨(r.higher m.tm).n.vo=m.fr)/\utd (r.higher m.tm).n.log m=true then Rn.send (Rn.timer { (r.higher m.tm).lone with n:={ (r.higher m.tm).lone.n with vo:=m.fr } }) ⟨4,0,m.fr,(r.higher m.tm).n.tm,0,0,0,1,0,[]⟩ else (r.higher m.tm).send ⟨4,0,m.fr,(r.higher m.tm).n.tm,0,0,0,0,0,[]⟩):=rfl;have HAd:Hid (∀ z,Z4 z B b r x->Calls Tryz.prog 149 #[.pointer (some ⟨b,0,none⟩),.int .i64 m.tm] z fun e w'=>e=.returned (.tuple #[])/\Z4 w' B b (r.adopt m.tm) x.lone/\Below B z w'/\z.grownBy w' (some b)):=fun z hz=>Z0n b r x m.tm z B hz hd hD hb.nw0 hb.nw1
 have HHi:Hid (r.higher m.tm=if r.n.tm<m.tm then r.adopt m.tm else r):=rfl;obtain ⟨R1,hR1⟩:∃ R1,R1=r.higher m.tm:=⟨_,rfl⟩;have HB1:Hid (NdB R1.n):=by rw [hR1];exact hb.higher m.tm
 have HD1:Hid (-(2^63)<=R1.draw/\R1.draw<2^63):=by rw [hR1,Z16];exact ⟨hd,hD⟩
 rw [<-hR1] at HQ HHi;generalize r.voteAsk m=RP at *;have HB0:Hid (Below w.heap.size w (w.alloc (.cells #[.int .i64 m.ki,.int .i64 m.fr,.int .i64 m.td,.int .i64 m.tm,.int .i64 m.li,.int .i64 m.lt,.int .i64 m.cm,.int .i64 m.ok,.int .i64 m.hi,.slice ea en ec] 43))):=(Below.refl _ _).alloc (Nat.le_refl _) _;have BM1:Hid (Blk (w.alloc (.cells #[.int .i64 m.ki,.int .i64 m.fr,.int .i64 m.td,.int .i64 m.tm,.int .i64 m.li,.int .i64 m.lt,.int .i64 m.cm,.int .i64 m.ok,.int .i64 m.hi,.slice ea en ec] 43)) w.heap.size #[.int .i64 m.ki,.int .i64 m.fr,.int .i64 m.td,.int .i64 m.tm,.int .i64 m.li,.int .i64 m.lt,.int .i64 m.cm,.int .i64 m.ok,.int .i64 m.hi,.slice ea en ec] 43):=Blk.new _ _ _;have hz1:w.heap.size<(w.alloc (.cells #[.int .i64 m.ki,.int .i64 m.fr,.int .i64 m.td,.int .i64 m.tm,.int .i64 m.li,.int .i64 m.lt,.int .i64 m.cm,.int .i64 m.ok,.int .i64 m.hi,.slice ea en ec] 43)).heap.size:=by simp
 clear h hR1;have G1:Hid True:=trivial;go_enter Tryz.func121,Tryz.ntmps121
 go_upto_region 1 with fail
 generalize w.alloc (.cells #[.int .i64 m.ki,.int .i64 m.fr,.int .i64 m.td,.int .i64 m.tm,.int .i64 m.li,.int .i64 m.lt,.int .i64 m.cm,.int .i64 m.ok,.int .i64 m.hi,.slice ea en ec] 43)=w1 at *;by_cases hly:Z19 r.n=true
 ·have HQ2:Hid (RP={ r with code:=2 }):=HQ.out.trans (if_pos hly)
  rw [hly] at HLo;clear HQ HAd HHi hly
  go_wp2_with (first
   |(have hBA:=G1;refine Z7 36 (.tmp 7) rfl ?_;clear hBA;refine Xj rfl (.tmp 7) rfl rfl (HRw.out w1 HB0.out) ?_;clear G1)
   |(go_at_call 147;refine (HLo.out _).mono ?_;rintro e w3 ⟨rfl,hb3⟩;have HB3:Hid (Below w.heap.size w w3):=HB0.out.trans (hb3.mono (by omega));have k19:w3.cell? ⟨b,19,none⟩=some (.int .i64 r.code):=(HRw.out _ HB3.out).blk.cell 19;have f19:w3.frozen? ⟨b,19,none⟩=false:=(HRw.out _ HB3.out).blk.free 19;clear hb3))
  (try simp only [Exit.inBlock,Exit.then])
  refine bodyPost_ret (results_none rfl _ _ _) rfl ⟨x,rfl,?_,(HB3.out.mono hBw).trans ((HRw.out _ HB3.out).setB 19 _)⟩;rw [HQ2.out];exact (HRw.out _ HB3.out).set 19 _ rfl rfl rfl rfl rfl rfl rfl rfl
 have hlf:Z19 r.n=false:=by simpa using hly
 rw [hlf] at HLo;have HQ2:Hid (RP=if m.tm=R1.n.tm/\(R1.n.vo=0∨R1.n.vo=m.fr)/\utd R1.n.log m=true then Rn.send (Rn.timer { R1.lone with n:={ R1.lone.n with vo:=m.fr } }) ⟨4,0,m.fr,R1.n.tm,0,0,0,1,0,[]⟩ else R1.send ⟨4,0,m.fr,R1.n.tm,0,0,0,0,0,[]⟩):=HQ.out.trans (if_neg hly);clear HQ hly hlf
 go_upto_region 4 with (first
  |(have hBA:=G1;refine Z7 36 (.tmp 7) rfl ?_;clear hBA;refine Xj rfl (.tmp 7) rfl rfl (HRw.out w1 HB0.out) ?_;clear G1)
  |(go_at_call 147;refine (HLo.out _).mono ?_;rintro e w3 ⟨rfl,hb3⟩;have HB3:Hid (Below w.heap.size w w3):=HB0.out.trans (hb3.mono (by omega));have BM3:Hid (Blk w3 w.heap.size _ 43):=BM1.out.below hb3 hz1;have k4:w3.cell? ⟨b,4,none⟩=some (.int .i64 r.n.tm):=(HRw.out _ HB3.out).blk.cell 4;have n3:w3.cell? ⟨w.heap.size,3,none⟩=some (.int .i64 m.tm):=BM3.out.cell 3;have hz3:w.heap.size<w3.heap.size:=BM3.out.lt;clear hb3))
 clear HLo HB0 BM1 hz1;go_quiet (fail)
 obtain ⟨w4,hw4⟩:∃ z,z=w3.drewN nq:=⟨_,rfl⟩;have hb4:Below w3.heap.size w3 w4:=by rw [hw4];exact ⟨rfl,rfl,rfl,Nat.le_refl _,fun _ _=>rfl⟩
 rw [<-hw4];clear hw4 k4 n3;have HB4:Hid (Below w.heap.size w w4):=HB3.out.trans (hb4.mono (by omega));have BM4:Hid (Blk w4 w.heap.size _ 43):=BM3.out.below hb4 hz3;have n3:w4.cell? ⟨w.heap.size,3,none⟩=some (.int .i64 m.tm):=BM4.out.cell 3;have hz4:w.heap.size<w4.heap.size:=BM4.out.lt;clear hb4 BM3 HB3 hz3
 go_upto_if 20 with fail
 go_cut [] (fun wx=>∃ x1:RV,Z4 wx B b R1 x1/\x1.L=x.L/\Below B w wx/\Blk wx w.heap.size #[.int .i64 m.ki,.int .i64 m.fr,.int .i64 m.td,.int .i64 m.tm,.int .i64 m.li,.int .i64 m.lt,.int .i64 m.cm,.int .i64 m.ok,.int .i64 m.hi,.slice ea en ec] 43)
 case first=>
  by_cases ht:r.n.tm<m.tm
  ·have hdt:decide (r.n.tm<m.tm)=true:=decide_eq_true ht
   have HHi2:Hid (R1=r.adopt m.tm):=HHi.out.trans (if_pos ht);rw [hdt];clear HHi ht hdt
   go_wp2_with (first
    |(go_at_call 149;refine (HAd.out _ (HRw.out _ HB4.out)).mono ?_;rintro e w5 ⟨rfl,h5,b5,g5⟩;have H5:Hid _:=h5;have B5:Hid (Below B w w5):=(HB4.out.mono hBw).trans b5;have M5:Hid (Blk w5 w.heap.size _ 43):=BM4.out.grown g5 (by omega);clear h5 b5 g5))
   go_meet;exact ⟨x.lone,by rw [HHi2.out];exact H5.out,rfl,B5.out,M5.out⟩
  ·have hdt:decide (r.n.tm<m.tm)=false:=decide_eq_false ht
   have HHi2:Hid (R1=r):=HHi.out.trans (if_neg ht);rw [hdt];clear HHi ht hdt
   go_wp2_with (fail)
   go_meet;exact ⟨x,by rw [HHi2.out];exact HRw.out _ HB4.out,rfl,HB4.out.mono hBw,BM4.out⟩
 case rest=>
  obtain ⟨x1,hR,hxL,hBc,hMc⟩:=hcut;obtain ⟨w5,hw5⟩:∃ z,z=wc:=⟨_,rfl⟩;rw [<-hw5] at hR hBc hMc;subst hw5;have HR5:Hid _:=hR;have HB5:Hid _:=hBc;have BM5:Hid (Blk w5 w.heap.size _ 43):=hMc;have HxL:Hid (x1.L.length<=1000):=by unfold Hid;rw [hxL];exact hl
  have hz5:w.heap.size<w5.heap.size:=hMc.lt;have HUt:Hid (∀ z,Below w5.heap.size w5 z->Calls Tryz.prog 148 #[.agg (ndC R1.n x1),.agg #[.int .i64 m.ki,.int .i64 m.fr,.int .i64 m.td,.int .i64 m.tm,.int .i64 m.li,.int .i64 m.lt,.int .i64 m.cm,.int .i64 m.ok,.int .i64 m.hi,.slice ea en ec]] z fun e w'=>e=.returned (.bool (utd R1.n.log m))/\Below z.heap.size z w'):=fun z hz=>Z2a hR HB1.out m ea en ec z hz
  have q4:∀ u:BW w5,u.w.cell? ⟨b,4,none⟩=some (.int .i64 R1.n.tm):=fun u=>(HR5.out.below u.h).blk.cell 4
  have q5:∀ u:BW w5,u.w.cell? ⟨b,5,none⟩=some (.int .i64 R1.n.vo):=fun u=>(HR5.out.below u.h).blk.cell 5
  have p3:∀ u:BW w5,u.w.cell? ⟨w.heap.size,3,none⟩=some (.int .i64 m.tm):=fun u=>(BM5.out.below u.h hz5).cell 3
  have p1:∀ u:BW w5,u.w.cell? ⟨w.heap.size,1,none⟩=some (.int .i64 m.fr):=fun u=>(BM5.out.below u.h hz5).cell 1
  have qn:∀ u:BW w5,Sem.run Tryz.prog (loadVar 36 ⟨b,0,none⟩) u.w=.ok (.agg (ndC R1.n x1)) u.w:=fun u=>Z0g (HR5.out.below u.h)
  have pn:∀ u:BW w5,Sem.run Tryz.prog (loadVar 43 ⟨w.heap.size,0,none⟩) u.w=.ok (.agg #[.int .i64 m.ki,.int .i64 m.fr,.int .i64 m.td,.int .i64 m.tm,.int .i64 m.li,.int .i64 m.lt,.int .i64 m.cm,.int .i64 m.ok,.int .i64 m.hi,.slice ea en ec]) u.w:=fun u=>Ja (BM5.out.below u.h hz5) 43 Tryz.underlying43 rfl (by rw [Zy];rfl)
  have NE5:Nonempty (BW w5):=⟨⟨w5,Below.refl _ _⟩⟩;clear hR hBc hMc hxL hl n3 HB4 BM4 HRw HAd HHi hb hz4
  go_upto_region 6 with fail
  go_cut [58] (fun s wx=>s=.bool (vaB R1.n m)/\Below w5.heap.size w5 wx)
  case first=>
   have HV:Hid (vaB R1.n m=((m.tm == R1.n.tm) && ((R1.n.vo == 0) || (R1.n.vo == m.fr)) && utd R1.n.log m)):=rfl;generalize vaB R1.n m=VB at *;cases hc1:(m.tm == R1.n.tm)
   ·rw [hc1] at HV
    clear qn pn HUt;refine wp_region_quiet (C:=fun w'=>∃ u:BW w5,w'=u.w) (by kernel_rfl) (by kernel_rfl) ⟨⟨_,(Below.refl _ _).drew⟩,rfl⟩ ?_;rw [List.toList_toArray]
    repeat (first | go_big_quiet_step ((fail)))
    refine wpQuiet_nil ?_;intro w6 hww6;have hb_w6:Below w5.heap.size w5 w6:=(by obtain ⟨u,rfl⟩:=hww6;exact u.h);clear hww6
    go_wp2_with fail
    go_meet;exact ⟨by rw [HV.out];rfl,hb_w6⟩
   cases hc2:(R1.n.vo == 0)
   ·cases hc3:(R1.n.vo == m.fr)
    ·rw [hc1,hc2,hc3] at HV
     clear qn pn HUt;refine wp_region_quiet (C:=fun w'=>∃ u:BW w5,w'=u.w) (by kernel_rfl) (by kernel_rfl) ⟨⟨_,(Below.refl _ _).drew⟩,rfl⟩ ?_;rw [List.toList_toArray]
     repeat (first | go_big_quiet_step ((fail)))
     refine wpQuiet_nil ?_;intro w6 hww6;have hb_w6:Below w5.heap.size w5 w6:=(by obtain ⟨u,rfl⟩:=hww6;exact u.h);clear hww6
     go_wp2_with fail
     go_meet;exact ⟨by rw [HV.out];rfl,hb_w6⟩
    ·rw [hc1,hc2,hc3] at HV
     refine wp_region_quiet (C:=fun w'=>∃ u:BW w5,w'=u.w) (by kernel_rfl) (by kernel_rfl) ⟨⟨_,(Below.refl _ _).drew⟩,rfl⟩ ?_;rw [List.toList_toArray]
     repeat (first | (go_big_quiet_want;refine J1 (W:=w5) 36 (.tmp 54) rfl rfl qn ?_;go_big_quiet_on;simp only [Act.put,List.setIfInBounds_toArray,List.set_cons_zero,List.set_cons_succ]) | (go_big_quiet_want;refine J1 (W:=w5) 43 (.tmp 3) rfl rfl pn ?_;go_big_quiet_on;simp only [Act.put,List.setIfInBounds_toArray,List.set_cons_zero,List.set_cons_succ]) | go_big_quiet_step ((refine (HUt.out _ (BW.h _)).mono ?_;rintro e w9 ⟨rfl,hb9⟩;exact ⟨rfl,⟨⟨w9,(BW.h _).trans (hb9.mono (BW.h _).size)⟩,rfl⟩⟩)))
     refine wpQuiet_nil ?_;intro w6 hww6;have hb_w6:Below w5.heap.size w5 w6:=(by obtain ⟨u,rfl⟩:=hww6;exact u.h);clear hww6
     go_wp2_with fail
     go_meet;exact ⟨by rw [HV.out];rfl,hb_w6⟩
   ·rw [hc1,hc2] at HV
    refine wp_region_quiet (C:=fun w'=>∃ u:BW w5,w'=u.w) (by kernel_rfl) (by kernel_rfl) ⟨⟨_,(Below.refl _ _).drew⟩,rfl⟩ ?_;rw [List.toList_toArray]
    repeat (first | (go_big_quiet_want;refine J1 (W:=w5) 36 (.tmp 54) rfl rfl qn ?_;go_big_quiet_on;simp only [Act.put,List.setIfInBounds_toArray,List.set_cons_zero,List.set_cons_succ]) | (go_big_quiet_want;refine J1 (W:=w5) 43 (.tmp 3) rfl rfl pn ?_;go_big_quiet_on;simp only [Act.put,List.setIfInBounds_toArray,List.set_cons_zero,List.set_cons_succ]) | go_big_quiet_step ((refine (HUt.out _ (BW.h _)).mono ?_;rintro e w9 ⟨rfl,hb9⟩;exact ⟨rfl,⟨⟨w9,(BW.h _).trans (hb9.mono (BW.h _).size)⟩,rfl⟩⟩)))
    refine wpQuiet_nil ?_;intro w6 hww6;have hb_w6:Below w5.heap.size w5 w6:=(by obtain ⟨u,rfl⟩:=hww6;exact u.h);clear hww6
    go_wp2_with fail
    go_meet;exact ⟨by rw [HV.out];rfl,hb_w6⟩
  case rest=>
   obtain ⟨rfl,hB6⟩:=hcut;obtain ⟨w6,hw6⟩:∃ z,z=wc:=⟨_,rfl⟩;rw [<-hw6] at hB6;subst hw6;have HR6:Hid (Z4 w6 B b R1 x1):=HR5.out.below hB6;have HB6:Hid (Below B w w6):=HB5.out.trans (hB6.mono (Nat.le_trans hBw (Nat.le_of_lt hz5)));have BM6:Hid (Blk w6 w.heap.size _ 43):=BM5.out.below hB6 hz5;have hz6:w.heap.size<w6.heap.size:=BM6.out.lt;clear q4 q5 p3 p1 qn pn HUt HR5 HB5 BM5 hB6 NE5 hz5
   go_upto_if 58 with fail
   go_cut [4] (fun s wx=>∃(R2:Rn) (x2:RV) (k:Int),s=.int .i64 k/\Z4 wx B b R2 x2/\x2.L.length<=1000/\Below B w wx/\Blk wx w.heap.size #[.int .i64 m.ki,.int .i64 m.fr,.int .i64 m.td,.int .i64 m.tm,.int .i64 m.li,.int .i64 m.lt,.int .i64 m.cm,.int .i64 m.ok,.int .i64 m.hi,.slice ea en ec] 43/\RP=R2.send ⟨4,0,m.fr,R2.n.tm,0,0,0,k,0,[]⟩)
   case first=>
    by_cases hv:vaB R1.n m=true
    ·have HQ3:Hid (RP=Rn.send (Rn.timer { R1.lone with n:={ R1.lone.n with vo:=m.fr } }) ⟨4,0,m.fr,R1.n.tm,0,0,0,1,0,[]⟩):=HQ2.out.trans (if_pos ((vaB_iff _ _).1 hv))
     rw [hv];clear HQ2 hv
     go_wp2_with (first
      |(go_at_call 114;refine (Z0a b R1 x1 _ B HR6.out).mono ?_;rintro e w7 ⟨rfl,h7,b7,g7⟩;have HR7:Hid _:=h7;have HB7:Hid (Below B w w7):=HB6.out.trans b7;have BM7:Hid (Blk w7 w.heap.size _ 43):=BM6.out.grown g7 (by omega);have n1:w7.cell? ⟨w.heap.size,1,none⟩=some (.int .i64 m.fr):=BM7.out.cell 1;have c5:w7.cell? ⟨b,5,none⟩=some (.int .i64 R1.lone.n.vo):=h7.blk.cell 5;have f5:w7.frozen? ⟨b,5,none⟩=false:=h7.blk.free 5;have HR8:Hid (Z4 (w7.setCell ⟨b,5,none⟩ (.int .i64 m.fr)) B b { R1.lone with n:={ R1.lone.n with vo:=m.fr } } x1.lone):=h7.set 5 _ rfl rfl rfl rfl rfl rfl rfl rfl;clear h7 b7 g7)
      |(go_at_call 115;refine (Jx b _ x1.lone _ B HR8.out HD1.out.1 HD1.out.2 HB1.out.nw0 HB1.out.nw1).mono ?_;rintro e w9 ⟨rfl,h9,b9,g9⟩;have HR9:Hid _:=h9;have HB9:Hid (Below B w w9):=(HB7.out.trans (HR7.out.setB 5 _)).trans b9;have BM9:Hid (Blk w9 w.heap.size _ 43):=(BM7.out.grown (Rd.frame 5 _) (by omega)).grown g9 (by omega);clear h9 b9 g9))
     go_meet;exact ⟨_,_,1,rfl,HR9.out,HxL.out,HB9.out,BM9.out,HQ3.out⟩
    ·have HQ3:Hid (RP=R1.send ⟨4,0,m.fr,R1.n.tm,0,0,0,0,0,[]⟩):=HQ2.out.trans (if_neg fun h=>hv ((vaB_iff _ _).2 h))
     have hv2:vaB R1.n m=false:=by simpa using hv
     rw [hv2];clear HQ2 hv hv2
     go_wp2_with (fail)
     go_meet;exact ⟨R1,x1,0,rfl,HR6.out,HxL.out,HB6.out,BM6.out,HQ3.out⟩
   case rest=>
    obtain ⟨R2,x2,k,rfl,hR,hxL,hBc,hMc,hRP⟩:=hcut;obtain ⟨w7,hw7⟩:∃ z,z=wc:=⟨_,rfl⟩;rw [<-hw7] at hR hBc hMc;subst hw7;have HRP:Hid _:=hRP;have HB7:Hid _:=hBc;have n1:w7.cell? ⟨w.heap.size,1,none⟩=some (.int .i64 m.fr):=hMc.cell 1;have c4:w7.cell? ⟨b,4,none⟩=some (.int .i64 R2.n.tm):=hR.blk.cell 4;have HSd:Hid (∀ z,Below w7.heap.size w7 z->Calls Tryz.prog 146 #[.pointer (some ⟨b,0,none⟩),.agg #[.int .i64 4,.int .i64 0,.int .i64 m.fr,.int .i64 R2.n.tm,.int .i64 0,.int .i64 0,.int .i64 0,.int .i64 k,.int .i64 0,.slice none 0 0]] z fun e w'=>∃ v y,e=.returned (.tuple #[])/\Z4 w' B b (R2.send ⟨4,0,m.fr,R2.n.tm,0,0,0,k,0,[]⟩) (x2.sent v y)/\Below B z w'/\Gr2 z b x2.vo w' v):=fun z hz=>Js b R2 x2 ⟨4,0,m.fr,R2.n.tm,0,0,0,k,0,[]⟩ none 0 z B (hR.below hz) (Zd.nil _ _) (by omega)
    have hB7:B<=w7.heap.size:=Nat.le_trans hR.lo (Nat.le_of_lt hR.lt);clear hRP hBc hMc hR hxL HQ2 HR6 HB6 BM6 HxL HB1 HD1 hz6
    go_upto_region 11 with fail
    go_region_with (first
     |(go_at_call 146;refine (HSd.out w7.drew ((Below.refl _ _).drew)).mono ?_;rintro e w9 ⟨v9,y9,rfl,hR9,hb9,-⟩;have HR9:Hid _:=hR9;have HB9:Hid (Below B w w9):=HB7.out.drew.trans hb9;clear hR9 hb9))
    all_goals go_wp2_with fail
    all_goals (try simp only [Exit.inBlock,Exit.then])
    all_goals exact bodyPost_end (results_none rfl _ _ _) rfl ⟨_,rfl,by rw [HRP.out];exact HR9.out,HB9.out⟩
end Go.Proofs.YtmmpoppgabadmaaGreat
