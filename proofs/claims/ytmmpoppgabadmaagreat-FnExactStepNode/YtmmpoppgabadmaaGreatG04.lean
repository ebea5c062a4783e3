import Derived.Test.YtmmpoppgabadmaaGreatG03
import Derived.Deep.DeepCutAuto
set_option linter.unusedVariables false
set_option linter.unusedSimpArgs false
set_option maxRecDepth 100000
set_option maxHeartbeats 16000000
namespace Go.Proofs.YtmmpoppgabadmaaGreat
open Go.RowKit
theorem l4preAsk_any (b:Nat)(r:Rn)(x:RV)(m:Mg)(ea:Option Addr)(en ec:Nat)(w:World)(B:Nat)(h:Z4 w B b r x)(hb:NdB r.n)(hl:x.L.length<=1000) :
  Calls Tryz.prog 119 #[.pointer (some ⟨b,0,none⟩),.agg #[.int .i64 m.ki,.int .i64 m.fr,.int .i64 m.td,.int .i64 m.tm,.int .i64 m.li,.int .i64 m.lt,.int .i64 m.cm,.int .i64 m.ok,.int .i64 m.hi,.slice ea en ec]] w fun e w'=>∃ x',e=.returned (.tuple #[])/\Z4 w' B b (r.preAsk m) x'/\Below B w w':=by
 have HRw:Hid (∀ z,Below w.heap.size w z->Z4 z B b r x):=fun z hz=>h.below hz
 have hBw:B<=w.heap.size:=Nat.le_trans h.lo (Nat.le_of_lt h.lt);have hbl:=h.lt;have HLo:Hid (∀ z,Calls Tryz.prog 147 #[.agg (ndC r.n x)] z fun e w'=>e=.returned (.bool (Z19 r.n))/\Below z.heap.size z w'):=fun z=>Z4k h hb z
 have HUt:Hid (∀ z,Below w.heap.size w z->Calls Tryz.prog 148 #[.agg (ndC r.n x),.agg #[.int .i64 m.ki,.int .i64 m.fr,.int .i64 m.td,.int .i64 m.tm,.int .i64 m.li,.int .i64 m.lt,.int .i64 m.cm,.int .i64 m.ok,.int .i64 m.hi,.slice ea en ec]] z fun e w'=>e=.returned (.bool (utd r.n.log m))/\Below z.heap.size z w'):=fun z hz=>Z2a h hb m ea en ec z hz
 have HQ:Hid (r.preAsk m=if Z19 r.n=true then { r with code:=2 } else if r.n.tm<m.tm/\utd r.n.log m=true then r.send ⟨2,0,m.fr,m.tm,0,0,0,1,0,[]⟩ else r.send ⟨2,0,m.fr,r.n.tm,0,0,0,0,0,[]⟩):=rfl;have HSd:Hid (∀ z,Below w.heap.size w z->∀ t k:Int,Calls Tryz.prog 146 #[.pointer (some ⟨b,0,none⟩),.agg #[.int .i64 2,.int .i64 0,.int .i64 m.fr,.int .i64 t,.int .i64 0,.int .i64 0,.int .i64 0,.int .i64 k,.int .i64 0,.slice none 0 0]] z fun e w'=>∃ v y,e=.returned (.tuple #[])/\Z4 w' B b (r.send ⟨2,0,m.fr,t,0,0,0,k,0,[]⟩) (x.sent v y)/\Below B z w'/\Gr2 z b x.vo w' v):=fun z hz t k=>Js b r x ⟨2,0,m.fr,t,0,0,0,k,0,[]⟩ none 0 z B (h.below hz) (Zd.nil _ _) (by omega)
 generalize r.preAsk m=RP at *;have HB1:Hid (Below w.heap.size w (w.alloc (.cells #[.int .i64 m.ki,.int .i64 m.fr,.int .i64 m.td,.int .i64 m.tm,.int .i64 m.li,.int .i64 m.lt,.int .i64 m.cm,.int .i64 m.ok,.int .i64 m.hi,.slice ea en ec] 43))):=(Below.refl _ _).alloc (Nat.le_refl _) _;have BM1:Hid (Blk (w.alloc (.cells #[.int .i64 m.ki,.int .i64 m.fr,.int .i64 m.td,.int .i64 m.tm,.int .i64 m.li,.int .i64 m.lt,.int .i64 m.cm,.int .i64 m.ok,.int .i64 m.hi,.slice ea en ec] 43)) w.heap.size #[.int .i64 m.ki,.int .i64 m.fr,.int .i64 m.td,.int .i64 m.tm,.int .i64 m.li,.int .i64 m.lt,.int .i64 m.cm,.int .i64 m.ok,.int .i64 m.hi,.slice ea en ec] 43):=Blk.new _ _ _;have hz1:w.heap.size<(w.alloc (.cells #[.int .i64 m.ki,.int .i64 m.fr,.int .i64 m.td,.int .i64 m.tm,.int .i64 m.li,.int .i64 m.lt,.int .i64 m.cm,.int .i64 m.ok,.int .i64 m.hi,.slice ea en ec] 43)).heap.size:=by simp
 clear h;have G1:Hid True:=trivial;go_enter Tryz.func119,Tryz.ntmps119
 go_upto_region 1 with fail
 generalize w.alloc (.cells #[.int .i64 m.ki,.int .i64 m.fr,.int .i64 m.td,.int .i64 m.tm,.int .i64 m.li,.int .i64 m.lt,.int .i64 m.cm,.int .i64 m.ok,.int .i64 m.hi,.slice ea en ec] 43)=w1 at *;by_cases hly:Z19 r.n=true
 ·have hq:=HQ.out.trans (if_pos hly)
  rw [hly] at HLo;have HQ2:Hid _:=hq;clear hq HQ HUt HSd hly
  go_wp2_with (first
   |(have hBA:=G1;refine Z7 36 (.tmp 7) rfl ?_;clear hBA;refine Xj rfl (.tmp 7) rfl rfl (HRw.out w1 HB1.out) ?_;clear G1)
   |(go_at_call 147;refine (HLo.out _).mono ?_;rintro e w3 ⟨rfl,hb3⟩;have HB3:Hid (Below w.heap.size w w3):=HB1.out.trans (hb3.mono (by omega));have k19:w3.cell? ⟨b,19,none⟩=some (.int .i64 r.code):=(HRw.out _ HB3.out).blk.cell 19;have f19:w3.frozen? ⟨b,19,none⟩=false:=(HRw.out _ HB3.out).blk.free 19;clear hb3))
  (try simp only [Exit.inBlock,Exit.then])
  refine bodyPost_ret (results_none rfl _ _ _) rfl ⟨x,rfl,?_,(HB3.out.mono hBw).trans ((HRw.out _ HB3.out).setB 19 _)⟩;rw [HQ2.out];exact (HRw.out _ HB3.out).set 19 _ rfl rfl rfl rfl rfl rfl rfl rfl
 have hlf:Z19 r.n=false:=by simpa using hly
 rw [hlf] at HLo;have HQ2:Hid (RP=if r.n.tm<m.tm/\utd r.n.log m=true then r.send ⟨2,0,m.fr,m.tm,0,0,0,1,0,[]⟩ else r.send ⟨2,0,m.fr,r.n.tm,0,0,0,0,0,[]⟩):=HQ.out.trans (if_neg hly);clear HQ hly hlf
 go_upto_region 3 with (first
  |(have hBA:=G1;refine Z7 36 (.tmp 7) rfl ?_;clear hBA;refine Xj rfl (.tmp 7) rfl rfl (HRw.out w1 HB1.out) ?_;clear G1)
  |(go_at_call 147;refine (HLo.out _).mono ?_;rintro e w3 ⟨rfl,hb3⟩;have HB3:Hid (Below w.heap.size w w3):=HB1.out.trans (hb3.mono (by omega));have BM3:Hid (Blk w3 w.heap.size _ 43):=BM1.out.below hb3 hz1;have k4:w3.cell? ⟨b,4,none⟩=some (.int .i64 r.n.tm):=(HRw.out _ HB3.out).blk.cell 4;have n1:w3.cell? ⟨w.heap.size,1,none⟩=some (.int .i64 m.fr):=BM3.out.cell 1;have hz3:w.heap.size<w3.heap.size:=BM3.out.lt;clear hb3))
 have hb3l:b<w3.heap.size:=by omega
 go_cut [4] (fun s wx=>s=.pointer (some ⟨w3.heap.size,0,none⟩)/\Blk wx w3.heap.size #[.int .i64 2,.int .i64 0,.int .i64 m.fr,.int .i64 r.n.tm,.int .i64 0,.int .i64 0,.int .i64 0,.int .i64 0,.int .i64 0,.slice none 0 0] 43/\Below w3.heap.size w3 wx)
 case first=>
  go_region_held3 (fun w'=>w'.cell? ⟨b,4,none⟩=some (.int .i64 r.n.tm)/\w'.cell? ⟨w.heap.size,1,none⟩=some (.int .i64 m.fr)) (simp [*,go_sem]) (fail)
  all_goals go_wp2_with fail
  all_goals go_meet
  all_goals exact ⟨rfl,by first | exact Blk.new _ _ _ | exact (Blk.new _ _ _).drew,by first | exact (Below.refl _ _).alloc (Nat.le_refl _) _ | exact ((Below.refl _ _).alloc (Nat.le_refl _) _).drew | exact (Below.refl _ _).drew.alloc (Nat.le_refl _) _⟩
 case rest=>
  obtain ⟨rfl,hA4,hB4⟩:=hcut;obtain ⟨w4,hw4⟩:∃ z,z=wc:=⟨_,rfl⟩;rw [<-hw4] at hA4 hB4;subst hw4;have HA4:Hid (Blk w4 w3.heap.size _ 43):=hA4;have HB34:Hid _:=hB4;have HB4:Hid (Below w.heap.size w w4):=HB3.out.trans (hB4.mono (by omega));have BM4:Hid (Blk w4 w.heap.size _ 43):=BM3.out.below hB4 hz3;have hz4:w3.heap.size<w4.heap.size:=hA4.lt;have R4:=HRw.out w4 HB4.out;have c0:w4.cell? ⟨b,0,none⟩=some (.int .i64 r.n.id):=R4.blk.cell 0;have c1:w4.cell? ⟨b,1,none⟩=some (.int .i64 r.n.sz):=R4.blk.cell 1;have c2:w4.cell? ⟨b,2,none⟩=some (.int .i64 r.n.el):=R4.blk.cell 2;have c3:w4.cell? ⟨b,3,none⟩=some (.int .i64 r.n.bt):=R4.blk.cell 3;have c4:w4.cell? ⟨b,4,none⟩=some (.int .i64 r.n.tm):=R4.blk.cell 4;have c5:w4.cell? ⟨b,5,none⟩=some (.int .i64 r.n.vo):=R4.blk.cell 5;have c6:w4.cell? ⟨b,6,none⟩=some (.int .i64 r.n.ro):=R4.blk.cell 6;have c7:w4.cell? ⟨b,7,none⟩=some (.int .i64 r.n.ld):=R4.blk.cell 7;have c8:w4.cell? ⟨b,8,none⟩=some (.int .i64 r.n.cm):=R4.blk.cell 8;have c9:w4.cell? ⟨b,9,none⟩=some (.int .i64 r.n.nw):=R4.blk.cell 9;have c10:w4.cell? ⟨b,10,none⟩=some (.int .i64 r.n.dl):=R4.blk.cell 10;have c11:w4.cell? ⟨b,11,none⟩=some (.int .i64 r.n.hd):=R4.blk.cell 11;have c12:w4.cell? ⟨b,12,none⟩=some (x.vl):=R4.blk.cell 12;have c13:w4.cell? ⟨b,13,none⟩=some (x.vg):=R4.blk.cell 13;have c14:w4.cell? ⟨b,14,none⟩=some (x.vn):=R4.blk.cell 14;have c15:w4.cell? ⟨b,15,none⟩=some (x.vm):=R4.blk.cell 15;have c16:w4.cell? ⟨b,16,none⟩=some (x.vs):=R4.blk.cell 16;have c17:w4.cell? ⟨b,17,none⟩=some (x.vt):=R4.blk.cell 17;have m0:w4.cell? ⟨w.heap.size,0,none⟩=some (.int .i64 m.ki):=BM4.out.cell 0;have m1:w4.cell? ⟨w.heap.size,1,none⟩=some (.int .i64 m.fr):=BM4.out.cell 1;have m2:w4.cell? ⟨w.heap.size,2,none⟩=some (.int .i64 m.td):=BM4.out.cell 2;have m3:w4.cell? ⟨w.heap.size,3,none⟩=some (.int .i64 m.tm):=BM4.out.cell 3;have m4:w4.cell? ⟨w.heap.size,4,none⟩=some (.int .i64 m.li):=BM4.out.cell 4;have m5:w4.cell? ⟨w.heap.size,5,none⟩=some (.int .i64 m.lt):=BM4.out.cell 5;have m6:w4.cell? ⟨w.heap.size,6,none⟩=some (.int .i64 m.cm):=BM4.out.cell 6;have m7:w4.cell? ⟨w.heap.size,7,none⟩=some (.int .i64 m.ok):=BM4.out.cell 7;have m8:w4.cell? ⟨w.heap.size,8,none⟩=some (.int .i64 m.hi):=BM4.out.cell 8;have m9:w4.cell? ⟨w.heap.size,9,none⟩=some (.slice ea en ec):=BM4.out.cell 9;clear R4 hA4 hB4 k4 BM3 BM1 HB1 HLo
  go_upto_region 4 with fail
  go_cut [36] (fun s wx=>s=.bool (decide (r.n.tm<m.tm) && utd r.n.log m)/\Below w4.heap.size w4 wx)
  case first=>
   by_cases ht:r.n.tm<m.tm
   ·have hd1:decide (r.n.tm<m.tm)=true:=decide_eq_true ht
    have HT:Hid (decide (r.n.tm<m.tm)=true):=hd1;clear hd1
    go_region_held3 (fun w'=>w'.cell? ⟨b,0,none⟩=some (.int .i64 r.n.id)/\w'.cell? ⟨b,1,none⟩=some (.int .i64 r.n.sz)/\w'.cell? ⟨b,2,none⟩=some (.int .i64 r.n.el)/\w'.cell? ⟨b,3,none⟩=some (.int .i64 r.n.bt)/\w'.cell? ⟨b,4,none⟩=some (.int .i64 r.n.tm)/\w'.cell? ⟨b,5,none⟩=some (.int .i64 r.n.vo)/\w'.cell? ⟨b,6,none⟩=some (.int .i64 r.n.ro)/\w'.cell? ⟨b,7,none⟩=some (.int .i64 r.n.ld)/\w'.cell? ⟨b,8,none⟩=some (.int .i64 r.n.cm)/\w'.cell? ⟨b,9,none⟩=some (.int .i64 r.n.nw)/\w'.cell? ⟨b,10,none⟩=some (.int .i64 r.n.dl)/\w'.cell? ⟨b,11,none⟩=some (.int .i64 r.n.hd)/\w'.cell? ⟨b,12,none⟩=some (x.vl)/\w'.cell? ⟨b,13,none⟩=some (x.vg)/\w'.cell? ⟨b,14,none⟩=some (x.vn)/\w'.cell? ⟨b,15,none⟩=some (x.vm)/\w'.cell? ⟨b,16,none⟩=some (x.vs)/\w'.cell? ⟨b,17,none⟩=some (x.vt)/\w'.cell? ⟨w.heap.size,0,none⟩=some (.int .i64 m.ki)/\w'.cell? ⟨w.heap.size,1,none⟩=some (.int .i64 m.fr)/\w'.cell? ⟨w.heap.size,2,none⟩=some (.int .i64 m.td)/\w'.cell? ⟨w.heap.size,3,none⟩=some (.int .i64 m.tm)/\w'.cell? ⟨w.heap.size,4,none⟩=some (.int .i64 m.li)/\w'.cell? ⟨w.heap.size,5,none⟩=some (.int .i64 m.lt)/\w'.cell? ⟨w.heap.size,6,none⟩=some (.int .i64 m.cm)/\w'.cell? ⟨w.heap.size,7,none⟩=some (.int .i64 m.ok)/\w'.cell? ⟨w.heap.size,8,none⟩=some (.int .i64 m.hi)/\w'.cell? ⟨w.heap.size,9,none⟩=some (.slice ea en ec)) (simp [*,go_sem])
     (first
      |(go_at_call 148;refine (HUt.out w4.drew (HB4.out.drew)).mono ?_;rintro e w5 ⟨rfl,hb5⟩;have HB5:Hid (Below w4.heap.size w4 w5):=(Below.refl _ _).drew.trans hb5;have z1:=fun (j:Nat)=>HB5.out.cell (p:=⟨b,j,none⟩) (show b<w4.heap.size by omega);have z2:=fun (j:Nat)=>HB5.out.cell (p:=⟨w.heap.size,j,none⟩) (show w.heap.size<w4.heap.size by omega);clear hb5))
    all_goals go_wp2_with fail
    all_goals go_meet
    all_goals exact ⟨by rw [HT.out];rfl,HB5.out⟩
   ·have hd1:decide (r.n.tm<m.tm)=false:=decide_eq_false ht
    have HT:Hid (decide (r.n.tm<m.tm)=false):=hd1;clear hd1
    go_region
    all_goals go_wp2_with fail
    all_goals go_meet
    all_goals exact ⟨by rw [HT.out];rfl,(Below.refl _ _).drew⟩
  case rest=>
   obtain ⟨rfl,hB5⟩:=hcut;obtain ⟨w5,hw5⟩:∃ z,z=wc:=⟨_,rfl⟩;rw [<-hw5] at hB5;subst hw5;have HA5:Hid (Blk w5 w3.heap.size _ 43):=HA4.out.below hB5 hz4;have BM5:Hid (Blk w5 w.heap.size _ 43):=BM4.out.below hB5 (by omega);have HB5:Hid (Below w.heap.size w w5):=HB4.out.trans (hB5.mono (by omega));have G2:Hid True:=trivial;clear c0 c1 c2 c3 c4 c5 c6 c7 c8 c9 c10 c11 c12 c13 c14 c15 c16 c17 m0 m1 m2 m3 m4 m5 m6 m7 m8 m9 HUt HA4 BM4 hB5;by_cases hc:r.n.tm<m.tm/\utd r.n.log m=true
   ·have HQ3:Hid (RP=r.send ⟨2,0,m.fr,m.tm,0,0,0,1,0,[]⟩):=HQ2.out.trans (if_pos hc)
    have hbv:(decide (r.n.tm<m.tm) && utd r.n.log m)=true:=by rw [hc.2,decide_eq_true hc.1];rfl
    rw [hbv];have m3:w5.cell? ⟨w.heap.size,3,none⟩=some (.int .i64 m.tm):=BM5.out.cell 3;have a7:w5.cell? ⟨w3.heap.size,7,none⟩=some (.int .i64 0):=HA5.out.cell 7;have g7:w5.frozen? ⟨w3.heap.size,7,none⟩=false:=HA5.out.free 7;have a3:w5.cell? ⟨w3.heap.size,3,none⟩=some (.int .i64 r.n.tm):=HA5.out.cell 3;have g3:w5.frozen? ⟨w3.heap.size,3,none⟩=false:=HA5.out.free 3;have hne:¬ w.heap.size=w3.heap.size:=by omega
    have hne':¬ w3.heap.size=w.heap.size:=by omega
    obtain ⟨w6,hw6⟩:∃ z,z=(w5.setCell ⟨w3.heap.size,7,none⟩ (.int .i64 1)).setCell ⟨w3.heap.size,3,none⟩ (.int .i64 m.tm):=⟨_,rfl⟩;have HA6:Hid (Blk w6 w3.heap.size #[.int .i64 2,.int .i64 0,.int .i64 m.fr,.int .i64 m.tm,.int .i64 0,.int .i64 0,.int .i64 0,.int .i64 1,.int .i64 0,.slice none 0 0] 43):=by rw [hw6];exact (HA5.out.set 7 _).set 3 _
    have HB6:Hid (Below w.heap.size w w6):=by rw [hw6];exact (HB5.out.setCell (p:=⟨w3.heap.size,7,none⟩) (by show _<=w3.heap.size;omega) _).setCell (p:=⟨w3.heap.size,3,none⟩) (by show _<=w3.heap.size;omega) _
    have HS6:Hid _:=HSd.out w6 HB6.out m.tm 1;have Hw6:Hid _:=hw6;clear hw6 hc hbv HQ2
    go_wp2_with (first
     |(have hBA:=G2;refine Z7 43 (.tmp 4) rfl ?_;clear hBA;rw [<-Hw6.out];refine Z3 rfl 43 (.tmp 4) rfl w3.heap.size rfl HA6.out Tryz.underlying43 rfl Zy rfl ?_;clear G2)
     |(go_at_call 146;refine Calls.mono HS6.out ?_;rintro e w9 ⟨v9,y9,rfl,hR9,hb9,-⟩;have HR9:Hid _:=hR9;have HB9:Hid (Below B w w9):=(HB6.out.mono hBw).trans hb9;clear hR9 hb9))
    (try simp only [Exit.inBlock,Exit.then])
    exact bodyPost_end (results_none rfl _ _ _) rfl ⟨_,rfl,by rw [HQ3.out];exact HR9.out,HB9.out⟩
   ·have HQ3:Hid (RP=r.send ⟨2,0,m.fr,r.n.tm,0,0,0,0,0,[]⟩):=HQ2.out.trans (if_neg hc)
    have hbv:(decide (r.n.tm<m.tm) && utd r.n.log m)=false:=by
     rw [Bool.and_eq_false_iff];by_cases h1:r.n.tm<m.tm
     ·right
      have h2:¬ utd r.n.log m=true:=fun h2=>hc ⟨h1,h2⟩
      simpa using h2
     ·left
      exact decide_eq_false h1
    rw [hbv];have HS6:Hid _:=HSd.out w5 HB5.out r.n.tm 0;clear hc hbv HQ2
    go_wp2_with (first
     |(have hBA:=G2;refine Z7 43 (.tmp 4) rfl ?_;clear hBA;refine Z3 rfl 43 (.tmp 4) rfl w3.heap.size rfl HA5.out Tryz.underlying43 rfl Zy rfl ?_;clear G2)
     |(go_at_call 146;refine Calls.mono HS6.out ?_;rintro e w9 ⟨v9,y9,rfl,hR9,hb9,-⟩;have HR9:Hid _:=hR9;have HB9:Hid (Below B w w9):=(HB5.out.mono hBw).trans hb9;clear hR9 hb9))
    (try simp only [Exit.inBlock,Exit.then])
    exact bodyPost_end (results_none rfl _ _ _) rfl ⟨_,rfl,by rw [HQ3.out];exact HR9.out,HB9.out⟩
end Go.Proofs.YtmmpoppgabadmaaGreat
