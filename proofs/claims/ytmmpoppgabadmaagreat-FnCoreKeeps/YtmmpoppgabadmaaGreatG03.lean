import Derived.Test.YtmmpoppgabadmaaGreatG02
import Derived.Deep.DeepCutAuto
set_option linter.unusedVariables false
set_option linter.unusedSimpArgs false
set_option maxRecDepth 100000
set_option maxHeartbeats 16000000
open Go.Value renaming slice → I,int → Aa
open Go.IntKind renaming i64 → O
open _root_.Option renaming none → Ab,some → Ac
namespace Go.Proofs.YtmmpoppgabadmaaGreat
open Go.RowKit
theorem l4preAsk_any (b:Nat)(r:Rn)(x:RV)(m:Mg)(ea:Option Addr)(en ec:Nat)(w:World)(B:Nat)(h:Ze w B b r x)(hb:NdB r.n)(hl:x.L.length<=1000) :
  Calls Tryz.prog 119 #[.pointer (Ac ⟨b,0,Ab⟩),.agg (m.arrC (I ea en ec))] w λe w'=>∃ x',e=.returned (.tuple #[])/\Ze w' B b (r.preAsk m) x'/\Below B w w':=by
 have i:=Z0 λz (hz:Below w.heap.size w z)=>h.below hz
 have an:=Nat.le_trans h.lo (Nat.le_of_lt h.lt);have bg:=h.lt;have ac:=Z0 λz=>Z79 h hb z
 have al:=Z0 λz hz=>Z45 h hb m ea en ec z hz
 have HQ:Hid (r.preAsk m=if Z8u r.n=true then { r with code:=2 } else if r.n.tm<m.tm/\utd r.n.log m=true then r.send ⟨2,0,m.fr,m.tm,0,0,0,1,0,[]⟩ else r.send ⟨2,0,m.fr,r.n.tm,0,0,0,0,0,[]⟩):=rfl;have au:=Z0 λz (hz:Below w.heap.size w z) (t:Int) (k:Int)=>Z0t b r x ⟨2,0,m.fr,t,0,0,0,k,0,[]⟩ Ab 0 z B (h.below hz) (Zh.nil _ _)
 generalize r.preAsk m=RP at *;have ag:Hid (Below w.heap.size w (w.alloc (.cells (m.arrC (I ea en ec)) 43))):=baq;have a1:Hid (Blk (w.alloc (.cells (m.arrC (I ea en ec)) 43)) w.heap.size (m.arrC (I ea en ec)) 43):=Blk.new _ _ _;have bb:w.heap.size<(w.alloc (.cells (m.arrC (I ea en ec)) 43)).heap.size:=by simp
 clear h;have G1:=Z0 trivial;go_enter Tryz.func119,Tryz.ntmps119
 go_upto_region 1 with fail
 generalize w.alloc (.cells (m.arrC (I ea en ec)) 43)=w1 at *;by_cases v:Z8u r.n=true
 ·have hq:=HQ.trans (if_pos v)
  rw [v] at ac;have u:=Z0 hq;clear hq HQ al au v
  go_wp2_with (first
   |(have o:=G1;refine Zd 36 _ rfl ?_;clear o;refine Xz rfl _ rfl rfl (i w1 ag) ?_;clear G1)
   |(go_at_call 147;refine (ac _).mono ?_;rintro e d ⟨rfl,q⟩;have g:=Z0 (ag.trans (q.mono (by omega)));have bh:=(i _ g).c19;have bi:=(i _ g).blk.free 19;clear q))
  (try simp only [Exit.inBlock,Exit.then])
  refine bodyPost_ret (results_none rfl _ _ _) rfl ⟨x,rfl,?_,(g.mono an).trans ((i _ g).setB 19 _)⟩;rw [u.out];exact (i _ g).set 19 _
 have aw:Z8u r.n=false:=by simpa using v
 rw [aw] at ac;have u:=Z0 (HQ.trans (if_neg v));clear HQ v aw
 go_upto_region 3 with (first
  |(have o:=G1;refine Zd 36 (.tmp 7) rfl ?_;clear o;refine Xz rfl _ rfl rfl (i w1 ag) ?_;clear G1)
  |(go_at_call 147;refine (ac _).mono ?_;rintro e d ⟨rfl,q⟩;have g:=Z0 (ag.trans (q.mono (by omega)));have ai:=Z0 (a1.out.below q bb);have k4:=(i _ g).c4;have n1:d.cell? ⟨w.heap.size,1,Ab⟩=Ac (Aa O m.fr):=ai.out.cell 1;have ba:=ai.out.lt;clear q))
 have bc:b<d.heap.size:=by omega
 go_cut [4] (λs wx=>s=.pointer (Ac ⟨d.heap.size,0,Ab⟩)/\Blk wx d.heap.size (mqN 2 0 m.fr r.n.tm 0 0 0 0 0 (I Ab 0 0)) 43/\Below d.heap.size d wx)
 case first=>
  go_region_held3 (λw'=>w'.cell? ⟨b,4,Ab⟩=Ac (Aa O r.n.tm)/\w'.cell? ⟨w.heap.size,1,Ab⟩=Ac (Aa O m.fr)) (simp [*,go_sem]) (fail)
  all_goals go_wp2_with fail
  all_goals go_meet
  all_goals exact ⟨rfl,by first | exact Blk.new _ _ _ | exact (Blk.new _ _ _).drew,by first | exact baq | exact baq.drew | exact (Below.refl _ _).drew.alloc (Nat.le_refl _) _⟩
 case rest=>
  obtain ⟨rfl,ah,ad⟩:=hcut;obtain ⟨a,ax⟩:=exq (wc);rw [<-ax] at ah ad;subst ax;have az:=Z0 ah;have aq:=Z0 (g.trans (ad.mono (by omega)));have c:=Z0 (ai.out.below ad ba);have a9:=ah.lt;have f:=i.out a aq;have c0:=f.c0;have c1:=f.c1;have c2:=f.c2;have c3:=f.c3;have c4:=f.c4;have c5:=f.c5;have c6:=f.c6;have c7:=f.c7;have c8:=f.c8;have c9:=f.c9;have a2:=f.c10;have a6:=f.c11;have c12:a.cell? ⟨b,12,Ab⟩=Ac (x.vl):=f.blk.cell 12;have c13:a.cell? ⟨b,13,Ab⟩=Ac (x.vg):=f.blk.cell 13;have c14:a.cell? ⟨b,14,Ab⟩=Ac (x.vn):=f.blk.cell 14;have c15:a.cell? ⟨b,15,Ab⟩=Ac (x.vm):=f.blk.cell 15;have c16:a.cell? ⟨b,16,Ab⟩=Ac (x.vs):=f.blk.cell 16;have c17:a.cell? ⟨b,17,Ab⟩=Ac (x.vt):=f.blk.cell 17;have m0:a.cell? ⟨w.heap.size,0,Ab⟩=Ac (Aa O m.ki):=c.out.cell 0;have m1:a.cell? ⟨w.heap.size,1,Ab⟩=Ac (Aa O m.fr):=c.out.cell 1;have m2:a.cell? ⟨w.heap.size,2,Ab⟩=Ac (Aa O m.td):=c.out.cell 2;have m3:a.cell? ⟨w.heap.size,3,Ab⟩=Ac (Aa O m.tm):=c.out.cell 3;have m4:a.cell? ⟨w.heap.size,4,Ab⟩=Ac (Aa O m.li):=c.out.cell 4;have m5:a.cell? ⟨w.heap.size,5,Ab⟩=Ac (Aa O m.lt):=c.out.cell 5;have m6:a.cell? ⟨w.heap.size,6,Ab⟩=Ac (Aa O m.cm):=c.out.cell 6;have m7:a.cell? ⟨w.heap.size,7,Ab⟩=Ac (Aa O m.ok):=c.out.cell 7;have m8:a.cell? ⟨w.heap.size,8,Ab⟩=Ac (Aa O m.hi):=c.out.cell 8;have m9:a.cell? ⟨w.heap.size,9,Ab⟩=Ac (I ea en ec):=c.out.cell 9;clear f ah ad k4 ai a1 ag ac
  go_upto_region 4 with fail
  go_cut [36] (λs wx=>s=.bool (decide (r.n.tm<m.tm) && utd r.n.log m)/\Below a.heap.size a wx)
  case first=>
   by_cases ht:r.n.tm<m.tm
   ·have hd1:=decide_eq_true ht
    have HT:=Z0 hd1;clear hd1
    go_region_held3 (λw'=>w'.cell? ⟨b,0,Ab⟩=Ac (Aa O r.n.id)/\w'.cell? ⟨b,1,Ab⟩=Ac (Aa O r.n.sz)/\w'.cell? ⟨b,2,Ab⟩=Ac (Aa O r.n.el)/\w'.cell? ⟨b,3,Ab⟩=Ac (Aa O r.n.bt)/\w'.cell? ⟨b,4,Ab⟩=Ac (Aa O r.n.tm)/\w'.cell? ⟨b,5,Ab⟩=Ac (Aa O r.n.vo)/\w'.cell? ⟨b,6,Ab⟩=Ac (Aa O r.n.ro)/\w'.cell? ⟨b,7,Ab⟩=Ac (Aa O r.n.ld)/\w'.cell? ⟨b,8,Ab⟩=Ac (Aa O r.n.cm)/\w'.cell? ⟨b,9,Ab⟩=Ac (Aa O r.n.nw)/\w'.cell? ⟨b,10,Ab⟩=Ac (Aa O r.n.dl)/\w'.cell? ⟨b,11,Ab⟩=Ac (Aa O r.n.hd)/\w'.cell? ⟨b,12,Ab⟩=Ac (x.vl)/\w'.cell? ⟨b,13,Ab⟩=Ac (x.vg)/\w'.cell? ⟨b,14,Ab⟩=Ac (x.vn)/\w'.cell? ⟨b,15,Ab⟩=Ac (x.vm)/\w'.cell? ⟨b,16,Ab⟩=Ac (x.vs)/\w'.cell? ⟨b,17,Ab⟩=Ac (x.vt)/\w'.cell? ⟨w.heap.size,0,Ab⟩=Ac (Aa O m.ki)/\w'.cell? ⟨w.heap.size,1,Ab⟩=Ac (Aa O m.fr)/\w'.cell? ⟨w.heap.size,2,Ab⟩=Ac (Aa O m.td)/\w'.cell? ⟨w.heap.size,3,Ab⟩=Ac (Aa O m.tm)/\w'.cell? ⟨w.heap.size,4,Ab⟩=Ac (Aa O m.li)/\w'.cell? ⟨w.heap.size,5,Ab⟩=Ac (Aa O m.lt)/\w'.cell? ⟨w.heap.size,6,Ab⟩=Ac (Aa O m.cm)/\w'.cell? ⟨w.heap.size,7,Ab⟩=Ac (Aa O m.ok)/\w'.cell? ⟨w.heap.size,8,Ab⟩=Ac (Aa O m.hi)/\w'.cell? ⟨w.heap.size,9,Ab⟩=Ac (I ea en ec)) (simp [*,go_sem])
     (first
      |(go_at_call 148;refine (al _ (aq.drew)).mono ?_;rintro e w5 ⟨rfl,ay⟩;have l:Hid (Below a.heap.size a w5):=(Below.refl _ _).drew.trans ay;have z1:=λ(j:Nat)=>l.cell (p:=⟨b,j,Ab⟩) (show b<a.heap.size by omega);have z2:=λ(j:Nat)=>l.cell (p:=⟨w.heap.size,j,Ab⟩) (show w.heap.size<a.heap.size by omega);clear ay))
    all_goals go_wp2_with fail
    all_goals go_meet
    all_goals exact ⟨by rw [HT.out];rfl,l.out⟩
   ·have hd1:=decide_eq_false ht
    have HT:=Z0 hd1;clear hd1
    go_region
    all_goals go_wp2_with fail
    all_goals go_meet
    all_goals exact ⟨by rw [HT.out];rfl,(Below.refl _ _).drew⟩
  case rest=>
   obtain ⟨rfl,aa⟩:=hcut;obtain ⟨w5,a0⟩:=exq (wc);rw [<-a0] at aa;subst a0;have y:=Z0 (az.below aa a9);have a5:=Z0 (c.out.below aa);have l:=Z0 (aq.trans (aa.mono (by omega)));have G2:=Z0 trivial;clear c0 c1 c2 c3 c4 c5 c6 c7 c8 c9 a2 a6 c12 c13 c14 c15 c16 c17 m0 m1 m2 m3 m4 m5 m6 m7 m8 m9 al az c aa;by_cases hc:r.n.tm<m.tm/\utd r.n.log m=true
   ·have ak:=Z0 (u.trans (if_pos hc))
    have ab:(decide (r.n.tm<m.tm) && utd r.n.log m)=true:=by rw [hc.2,decide_eq_true hc.1];rfl
    rw [ab];have m3:w5.cell? ⟨w.heap.size,3,Ab⟩=Ac (Aa O m.tm):=a5.out.cell 3;have a7:w5.cell? ⟨d.heap.size,7,Ab⟩=Ac (Aa O 0):=y.cell 7;have g7:=y.free 7;have a3:w5.cell? ⟨d.heap.size,3,Ab⟩=Ac (Aa O r.n.tm):=y.cell 3;have g3:=y.free 3
    obtain ⟨w6,aj⟩:=exq ((w5.setCell ⟨d.heap.size,7,Ab⟩ (Aa O 1)).setCell ⟨d.heap.size,3,Ab⟩ (Aa O m.tm));have a8:Hid (Blk w6 d.heap.size (mqN 2 0 m.fr m.tm 0 0 0 1 0 (I Ab 0 0)) 43):=aj▸(y.set 7 _).set 3 _
    have av:Hid (Below w.heap.size w w6):=aj▸(l.setCell (p:=⟨d.heap.size,7,Ab⟩) (by show _<=d.heap.size;omega) _).setCell (p:=⟨d.heap.size,3,Ab⟩) (by show _<=d.heap.size;omega) _
    have ao:Hid _:=au.out w6 av m.tm 1;have a4:=Z0 aj;clear aj hc ab u
    go_wp2_with (first
     |(have o:=G2;refine Zd 43 (.tmp 4) rfl ?_;clear o;rw [<-a4.out];refine Z7 rfl 43 _ rfl _ rfl a8 Tryz.underlying43 rfl Yc rfl ?_;clear G2)
     |(go_at_call 146;refine Calls.mono ao ?_;rintro e w9 ⟨v9,y9,rfl,af,ae,-⟩;have ar:Hid _:=af;have am:=Z0 ((av.mono an).trans ae);clear af ae))
    (try simp only [Exit.inBlock,Exit.then])
    exact bodyPost_end (results_none rfl _ _ _) rfl ⟨_,rfl,ak.out▸ar,am.out⟩
   ·have ak:=Z0 (u.trans (if_neg hc))
    have ab:(decide (r.n.tm<m.tm) && utd r.n.log m)=false:=by
     rw [Bool.and_eq_false_iff];by_cases h1:r.n.tm<m.tm
     ·right
      have h2:¬ utd r.n.log m=true:=λh2=>hc ⟨h1,h2⟩
      simpa using h2
     ·left
      exact decide_eq_false h1
    rw [ab];have ao:Hid _:=au.out w5 l r.n.tm 0;clear hc ab u
    go_wp2_with (first
     |(have o:=G2;refine Zd 43 _ rfl ?_;clear o;refine Z7 rfl 43 _ rfl _ rfl y Tryz.underlying43 rfl Yc rfl ?_;clear G2)
     |(go_at_call 146;refine Calls.mono ao ?_;rintro e w9 ⟨v9,y9,rfl,af,ae,-⟩;have ar:Hid _:=af;have am:=Z0 ((l.mono an).trans ae);clear af ae))
    (try simp only [Exit.inBlock,Exit.then])
    exact bodyPost_end (results_none rfl _ _ _) rfl ⟨_,rfl,ak.out▸ar,am.out⟩
end Go.Proofs.YtmmpoppgabadmaaGreat
