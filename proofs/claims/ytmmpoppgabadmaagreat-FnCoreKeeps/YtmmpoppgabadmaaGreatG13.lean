import Derived.Test.YtmmpoppgabadmaaGreatG12
set_option linter.unusedVariables false
set_option linter.unusedSimpArgs false
set_option maxRecDepth 100000
set_option maxHeartbeats 16000000
open Go.Value renaming slice → I,int → Aa,pointer → Ae,oneCell' → Bh
open Go.IntKind renaming i64 → O
open _root_.Option renaming none → Ab,some → Ac
open _root_.List renaming length_map → B8
namespace Go.Proofs.YtmmpoppgabadmaaGreat
open Go.RowKit
def mgK (l:List Int)(k:Nat):Int:=if Z4 l (k+1+1+1) 3=0 then 5 else 1+((Z4 l k 6:Nat):Int)
def mgFr (l:List Int)(k:Nat):Int:=1+((Z4 l (k+1) 7:Nat):Int)
def mgTo (l:List Int)(k:Nat):Int:=1+(mgFr l k+((Z4 l (k+1+1+1+1) 6:Nat):Int))%7
def mgT (l:List Int)(k:Nat):Int×Nat:=if Z4 l (k+1+1+1+1+1) 10=0 then (1073741824-((Z4 l (k+1+1+1+1+1+1) 2:Nat):Int),k+1+1+1+1+1+1+1) else (1+((Z4 l (k+1+1) 9:Nat):Int),k+1+1+1+1+1+1)
def mgA1 (l:List Int)(k:Nat)(tm:Int):Int×Int×Nat:=if Z4 l k 4=0 then (0,0,k+1) else (1+((Z4 l (k+1) 30:Nat):Int),1+((Z4 l (k+1+1) tm.toNat:Nat):Int),k+1+1+Zf tm.toNat)
def mgA (l:List Int)(k:Nat)(ki tm:Int):Int×Int×Nat:=if ki=1∨ki=3∨ki=5 then (if Z4 l (mgA1 l k tm).2.2 12=0 then (4096,tm,(mgA1 l k tm).2.2+1) else ((mgA1 l k tm).1,(mgA1 l k tm).2.1,(mgA1 l k tm).2.2+1)) else (0,0,k)
def mgN0 (l:List Int)(k:Nat):Nat×Nat:=if Z4 l (k+1) 10=0 then (32-Z4 l (k+1+1) 2,k+1+1+1) else (Z4 l k 5,k+1+1)
def mgN (l:List Int)(k:Nat)(li:Int):Nat:=min (mgN0 l k).1 (4096-li).toNat
def mgBd (l:List Int)(k:Nat)(ki tm li lt:Int):Int×List Ent×Nat:=if ki=5 then (((Z4 l k 40:Nat):Int),(Y0 l (mgN0 l (k+1)).2 (max 1 lt) (mgN l (k+1) li)).1.map (Z2d tm),(Y0 l (mgN0 l (k+1)).2 (max 1 lt) (mgN l (k+1) li)).2.1) else (0,[],k)
def mgCd (l:List Int)(k:Nat)(ki:Int):Int×Nat:=if ki=2∨ki=4∨ki=6 then (((Z4 l k 2:Nat):Int),k+1) else (0,k)
def mgD (l:List Int)(k:Nat)(ki ok li:Int):Int×Int×Nat:=if ki=6 then (((Z4 l k 40:Nat):Int),if ok=0 then ((Z4 l (k+1) 40:Nat):Int) else 0,if ok=0 then k+1+1 else k+1) else (li,0,k)
structure MsgD where
 ki:Int
 fr:Int
 td:Int
 tm:Int
 li:Int
 lt:Int
 cm:Int
 ok:Int
 hi:Int
 es:List Ent
 k:Nat
def X8 (l:List Int)(k:Nat):MsgD:=
 ⟨mgK l k,mgFr l k,mgTo l k,(mgT l k).1,(mgD l (mgCd l (mgBd l (mgA l (mgT l k).2 (mgK l k) (mgT l k).1).2.2 (mgK l k) (mgT l k).1 (mgA l (mgT l k).2 (mgK l k) (mgT l k).1).1 (mgA l (mgT l k).2 (mgK l k) (mgT l k).1).2.1).2.2 (mgK l k)).2 (mgK l k) (mgCd l (mgBd l (mgA l (mgT l k).2 (mgK l k) (mgT l k).1).2.2 (mgK l k) (mgT l k).1 (mgA l (mgT l k).2 (mgK l k) (mgT l k).1).1 (mgA l (mgT l k).2 (mgK l k) (mgT l k).1).2.1).2.2 (mgK l k)).1 (mgA l (mgT l k).2 (mgK l k) (mgT l k).1).1).1,
  (mgA l (mgT l k).2 (mgK l k) (mgT l k).1).2.1,(mgBd l (mgA l (mgT l k).2 (mgK l k) (mgT l k).1).2.2 (mgK l k) (mgT l k).1 (mgA l (mgT l k).2 (mgK l k) (mgT l k).1).1 (mgA l (mgT l k).2 (mgK l k) (mgT l k).1).2.1).1,
  (mgCd l (mgBd l (mgA l (mgT l k).2 (mgK l k) (mgT l k).1).2.2 (mgK l k) (mgT l k).1 (mgA l (mgT l k).2 (mgK l k) (mgT l k).1).1 (mgA l (mgT l k).2 (mgK l k) (mgT l k).1).2.1).2.2 (mgK l k)).1,
  (mgD l (mgCd l (mgBd l (mgA l (mgT l k).2 (mgK l k) (mgT l k).1).2.2 (mgK l k) (mgT l k).1 (mgA l (mgT l k).2 (mgK l k) (mgT l k).1).1 (mgA l (mgT l k).2 (mgK l k) (mgT l k).1).2.1).2.2 (mgK l k)).2 (mgK l k) (mgCd l (mgBd l (mgA l (mgT l k).2 (mgK l k) (mgT l k).1).2.2 (mgK l k) (mgT l k).1 (mgA l (mgT l k).2 (mgK l k) (mgT l k).1).1 (mgA l (mgT l k).2 (mgK l k) (mgT l k).1).2.1).2.2 (mgK l k)).1 (mgA l (mgT l k).2 (mgK l k) (mgT l k).1).1).2.1,
  (mgBd l (mgA l (mgT l k).2 (mgK l k) (mgT l k).1).2.2 (mgK l k) (mgT l k).1 (mgA l (mgT l k).2 (mgK l k) (mgT l k).1).1 (mgA l (mgT l k).2 (mgK l k) (mgT l k).1).2.1).2.1,
  (mgD l (mgCd l (mgBd l (mgA l (mgT l k).2 (mgK l k) (mgT l k).1).2.2 (mgK l k) (mgT l k).1 (mgA l (mgT l k).2 (mgK l k) (mgT l k).1).1 (mgA l (mgT l k).2 (mgK l k) (mgT l k).1).2.1).2.2 (mgK l k)).2 (mgK l k) (mgCd l (mgBd l (mgA l (mgT l k).2 (mgK l k) (mgT l k).1).2.2 (mgK l k) (mgT l k).1 (mgA l (mgT l k).2 (mgK l k) (mgT l k).1).1 (mgA l (mgT l k).2 (mgK l k) (mgT l k).1).2.1).2.2 (mgK l k)).1 (mgA l (mgT l k).2 (mgK l k) (mgT l k).1).1).2.2⟩
theorem mgA1_ok (l:List Int)(k:Nat)(tm:Int)(c:1<=tm)(b:tm<=1073741824):0<=(mgA1 l k tm).1/\(mgA1 l k tm).1<=30/\0<=(mgA1 l k tm).2.1/\(mgA1 l k tm).2.1<=1073741824/\(mgA1 l k tm).2.2<=k+6:=by
 have d:=Z48 tm.toNat;have e:=Z6 l (k+1) 30;have a:=Z6 l (k+1+1) tm.toNat;unfold mgA1;split <;> (dsimp only;omega)
theorem mgA_ok (l:List Int)(k:Nat)(ki tm:Int)(b:1<=tm)(a:tm<=1073741824):0<=(mgA l k ki tm).1/\(mgA l k ki tm).1<=4096/\0<=(mgA l k ki tm).2.1/\(mgA l k ki tm).2.1<=1073741824/\(mgA l k ki tm).2.2<=k+7:=by
 have c:=mgA1_ok l k tm b a;unfold mgA;generalize mgA1 l k tm=x at *;split
 ·split <;> (dsimp only;omega)
 ·dsimp only;omega
theorem mgN0_ok (l:List Int)(k:Nat):(mgN0 l k).1<=32/\(mgN0 l k).2<=k+3:=by
 have a:=Z6 l k 5;unfold mgN0;split <;> (dsimp only;omega)
theorem mgB_k (l:List Int)(k:Nat)(ki tm li lt:Int):(mgBd l k ki tm li lt).2.2<=k+600:=by
 have b:=mgN0_ok l (k+1);have a:=Z2n l (mgN0 l (k+1)).2 (max 1 lt) (mgN l (k+1) li);have c:mgN l (k+1) li<=32:=by unfold mgN;omega
 unfold mgBd;split <;> (dsimp only;omega)
theorem Z27 {w w':World}{B b:Nat}{v:Value}{l:List Ent}{C:Array Value}{t:TypeId}(h:Zh w B v l)(c:Blk w b C t)(a:118≠t)(d:∀ q,q≠b->w'.heap[q]? = w.heap[q]?):Zh w' B v l:=
 h.block λq hq=>d q (λe=>ownsRow.neBlk h.2 c a (by rw [hq,e]))
theorem Z28 (w:World)(b j:Nat)(x:Value):∀ q,q≠b->(w.setCell ⟨b,j,Ab⟩ x).heap[q]? = w.heap[q]?:=λq hq=>Below.heap_setCell _ _ _ _ hq
theorem Z5k:(Tryz.prog.info? 43).map (·.size)=Ac 10:=by kernel_rfl
theorem l1drawMsg_any (g:Nat)(w:World)(v:Value)(l:List Int)(k:Nat)(hL:l.length<=1048576)(hk:k<=500000000)(h:Src w g v l k) :
  Calls Tryz.prog 95 #[Ae (Ac ⟨g,0,Ab⟩)] w λr w'=>∃ ea ec,r=.returned (.agg (mqN ((X8 l k).ki) ((X8 l k).fr) ((X8 l k).td) ((X8 l k).tm) ((X8 l k).li) ((X8 l k).lt) ((X8 l k).cm) ((X8 l k).ok) ((X8 l k).hi) (I ea (X8 l k).es.length ec)))/\Zh w' w.heap.size (I ea (X8 l k).es.length ec) (X8 l k).es/\Src w' g v l (X8 l k).k/\w.grownBy w' (Ac g):=by
 have bp:=h.lt;have dx:Hid (Dr w (w.alloc (.cells zMsg 43)) g v l k [(w.heap.size,zMsg,43)]):=(Dr.start h).new zMsg 43 (Zr);clear h;unfold X8;dsimp only;have af:Hid (mgK l k=if Z4 l (k+1+1+1) 3=0 then 5 else 1+((Z4 l k 6:Nat):Int)):=(rfl:mgK l k=_);have ad:Hid (mgT l k=if Z4 l (k+1+1+1+1+1) 10=0 then (1073741824-((Z4 l (k+1+1+1+1+1+1) 2:Nat):Int),k+1+1+1+1+1+1+1) else (1+((Z4 l (k+1+1) 9:Nat):Int),k+1+1+1+1+1+1)):=(rfl:mgT l k=_);have bi:Hid (mgTo l k=1+(1+((Z4 l (k+1) 7:Nat):Int)+((Z4 l (k+1+1+1+1) 6:Nat):Int))%7):=(rfl:mgTo l k=_);have bz:mgFr l k=1+((Z4 l (k+1) 7:Nat):Int):=rfl;rw [bz];clear bz;generalize mgK l k=ki at *;generalize mgTo l k=td at *;obtain ⟨tm,k2,hT⟩:∃ tm k2,mgT l k=(tm,k2):=⟨_,_,rfl⟩;rw [hT] at ad ⊢;clear hT;dsimp only;obtain ⟨j,lt,k3,hA⟩:∃ j lt k3,mgA l k2 ki tm=(j,lt,k3):=⟨_,_,_,rfl⟩;rw [hA];have HA:=Z0 hA;clear hA;dsimp only;obtain ⟨cm,EN,k4,hB⟩:∃ cm EN k4,mgBd l k3 ki tm j lt=(cm,EN,k4):=⟨_,_,_,rfl⟩;rw [hB];have HB:=Z0 hB;clear hB;dsimp only;obtain ⟨ok,k5,hC⟩:∃ ok k5,mgCd l k4 ki=(ok,k5):=⟨_,_,rfl⟩;rw [hC];have HC:=Z0 hC;clear hC;dsimp only;obtain ⟨li,hi,k6,hD⟩:∃ li hi k6,mgD l k5 ki ok j=(li,hi,k6):=⟨_,_,_,rfl⟩;rw [hD];have HD:=Z0 hD;clear hD;dsimp only;have f1:=Z6 l k 6;obtain ⟨p6,bq⟩:=exq (Z4 l k 6);have fn:=Z0 bq;rw [<-bq] at f1;have go:=Z6 l (k+1) 7;obtain ⟨f,aw⟩:=exq (Z4 l (k+1) 7);have gg:=Z0 aw;rw [<-aw] at go;have gz:=Z6 l (k+1+1) 9;obtain ⟨p9,bg⟩:=exq (Z4 l (k+1+1) 9);have g9:=Z0 bg;rw [<-bg] at gz;have fu:=Z6 l (k+1+1+1) 3;obtain ⟨p3,bk⟩:=exq (Z4 l (k+1+1+1) 3);have fx:=Z0 bk;rw [<-bk] at fu;have g5:=Z6 l (k+1+1+1+1) 6;obtain ⟨q6,bm⟩:=exq (Z4 l (k+1+1+1+1) 6);have f5:=Z0 bm;rw [<-bm] at g5;have ep:=Z6 l (k+1+1+1+1+1) 10;obtain ⟨fe,aj⟩:=exq (Z4 l (k+1+1+1+1+1) 10);have ed:=Z0 aj;rw [<-aj] at ep;have ga:=Z6 l (k+1+1+1+1+1+1) 2;obtain ⟨p2,bn⟩:=exq (Z4 l (k+1+1+1+1+1+1) 2);have gj:=Z0 bn;rw [<-bn] at ga;rw [<-bq,<-bk] at af;rw [<-aw,<-bm] at bi;rw [<-aj,<-bn,<-bg] at ad;rw [<-aw];clear bq aw bg bk bm aj bn;have A1:True:=trivial;have A2:True:=trivial;have A3:True:=trivial;go_enter Tryz.func95,Tryz.ntmps95
 go_upto_region 2 with (first
  |(go_at_call 53;clear A1;refine (dx.pickG 6).mono ?_;rintro e w1 ⟨rfl,a,b⟩;rw [<-fn.out];have bx:=Z0 a;clear a b)
  |(go_at_call 53;clear A2;refine (bx.pickG 7).mono ?_;rintro e w2 ⟨rfl,a,b⟩;rw [<-gg.out];have ca:=Z0 a;clear a b)
  |(go_at_call 53;clear A3;refine (ca.pickG 9).mono ?_;rintro e m ⟨rfl,a,b⟩;rw [<-g9.out];have bb:=Z0 a;clear a b)
  |(have ay:=bb;refine Zn 43 (.tmp 3) _ rfl ?_;clear ay;refine Zt rfl 43 (.tmp 3) _ rfl (m.heap.size) rfl rfl rfl Z5k rfl rfl (by simp [Bh]) ?_;have ao:Hid (Dr w (m.alloc (.cells (mqN (1+(p6:Int)) (1+(f:Int)) 0 (1+(p9:Int)) 0 0 0 0 0 (I Ab 0 0)) 43)) g v l (k+1+1+1) [(w.heap.size,zMsg,43),(m.heap.size,(mqN (1+(p6:Int)) (1+(f:Int)) 0 (1+(p9:Int)) 0 0 0 0 0 (I Ab 0 0)),43)]):=bb.new (mqN (1+(p6:Int)) (1+(f:Int)) 0 (1+(p9:Int)) 0 0 0 0 0 (I Ab 0 0)) 43 (Zr)))
 obtain ⟨W4,dk⟩:=exq (m.alloc (.cells (mqN (1+(p6:Int)) (1+(f:Int)) 0 (1+(p9:Int)) 0 0 0 0 0 (I Ab 0 0)) 43));rw [<-dk] at ao ⊢;clear dk bx ca bb dx
 go_upto_if 19 with (go_at_call 53;refine (ao.pickG 3).mono ?_;rintro e w5 ⟨rfl,a,b⟩;rw [<-fx.out];have b2:=Z0 a;have h6:=(a.blk 1).cell;have hs:=(a.blk 1).free;clear a b)
 go_cut [19] (λ_ wx=>Dr w wx g v l (k+1+1+1+1) [(w.heap.size,zMsg,43),(m.heap.size,(mqN ki (1+(f:Int)) 0 (1+(p9:Int)) 0 0 0 0 0 (I Ab 0 0)),43)])
 case first=>
  as_aux_lemma=>
   by_cases c3:p3=0
   ·subst c3
    rw [if_pos rfl] at af
    go_wp2_with fail
    go_meet;rw [af.out];exact b2.set 1 rfl 0 (by simp) (Aa O 5)
   ·rw [if_neg c3] at af
    have c4:((p3:Int) == 0)=false:=by rw [beq_eq_false_iff_ne];omega
    go_wp2_with fail
    go_meet;rw [af.out];exact b2
 case rest=>
  have bo:=Z0 hcut
  have hc:1<=ki/\ki<=6:=by
   have h:=af.out;split at h <;> omega
  obtain ⟨h4,h9⟩:=hc;clear hcut af ao;have f2:=(bo.blk 1).cell
  go_upto_region 4 with fail
  go_cut [28] (λ_ wx=>Dr w wx g v l (k+1+1+1+1+1) [(w.heap.size,zMsg,43),(m.heap.size,(mqN ki (1+(f:Int)) td (1+(p9:Int)) 0 0 0 0 0 (I Ab 0 0)),43)])
  case first=>
   as_aux_lemma=>
    have ih:IntKind.i64.wrap (1+(f:Int)+(q6:Int))=1+(f:Int)+(q6:Int):=(wry);have i2:(1+(f:Int)+(q6:Int)).tmod 7=(1+(f:Int)+(q6:Int))%7:=Int.tmod_eq_emod_of_nonneg (by omega);have ii:IntKind.i64.wrap (1+(1+(f:Int)+(q6:Int))%7)=1+(1+(f:Int)+(q6:Int))%7:=(wry)
    go_region_with (go_at_call 53;refine (bo.drew.pickG 6).mono ?_;rintro e w6 ⟨rfl,a,b⟩;rw [<-f5.out];have du:=Z0 a;have fc:=(a.blk 1).cell;have eg:=(a.blk 1).free;clear a b)
    all_goals go_wp2_with fail
    all_goals go_meet
    all_goals (rw [bi.out];exact du.set 1 rfl 2 (by simp) (Aa O (1+(1+(f:Int)+(q6:Int))%7)))
  case rest=>
   have bc:=Z0 hcut;have gq:1<=td/\td<=7:=by have h:=bi.out;omega
   obtain ⟨hz,ia⟩:=gq;clear hcut bi bo f2;have fc:=(bc.blk 1).cell;have eg:=(bc.blk 1).free
   go_upto_if 31 with (go_at_call 53;refine (bc.pickG 10).mono ?_;rintro e w7 ⟨rfl,a,b⟩;rw [<-ed.out];have bw:=Z0 a;have h0:=(a.blk 1).cell;have hv:=(a.blk 1).free;clear a b)
   go_cut [31] (λ_ wx=>Dr w wx g v l k2 [(w.heap.size,zMsg,43),(m.heap.size,(mqN ki (1+(f:Int)) td tm 0 0 0 0 0 (I Ab 0 0)),43)])
   case first=>
    as_aux_lemma=>
     by_cases ee:fe=0
     ·subst ee
      rw [if_pos rfl] at ad;have cv:=ad.out;injection cv with d e2;subst d e2
      go_wp2_with (go_at_call 53;refine (bw.pickG 2).mono ?_;rintro e w8 ⟨rfl,a,b⟩;rw [<-gj.out];have al:=Z0 a;have ej:=(a.blk 1).cell;have d8:=(a.blk 1).free;clear a b)
      go_meet;exact al.set 1 rfl 3 (by simp) (Aa O (1073741824-(p2:Int)))
     ·rw [if_neg ee] at ad
      have cv:=ad.out;injection cv with d e2;subst d e2;have ir:((fe:Int) == 0)=false:=by rw [beq_eq_false_iff_ne];omega
      go_wp2_with fail
      go_meet;exact bw
   case rest=>
    have aq:=Z0 hcut
    have fl:1<=tm/\tm<=1073741824/\k2<=k+7:=by
     have h:=ad.out;split at h <;> (injection h with d e2;omega)
    obtain ⟨er,em,i4⟩:=fl;clear hcut ad bc fc eg;have hh:=(aq.blk 1).cell;have gk:=(aq.blk 1).free;obtain ⟨kb,fd⟩:=exq (decide (ki=1∨ki=3∨ki=5));have ac:=Z0 fd;clear fd
    go_upto_region 7 with fail
    go_cut [48] (λs48 wx=>s48=.bool kb/\wx=wc)
    case first=>
     as_aux_lemma=>
      rcases (show ki=1∨ki=2∨ki=3∨ki=4∨ki=5∨ki=6 by omega) with q | q | q | q | q | q
      ·have d:(ki == 1)=true:=by rw [q];rfl
       have e3:(ki == 3)=false:=by rw [q];rfl
       have e5:(ki == 5)=false:=by rw [q];rfl
       have c:kb=true:=by rw [ac.out];simp [q]
       clear q
       go_wp2_with fail
       go_meet;exact ⟨by rw [c],rfl⟩
      ·have d:(ki == 1)=false:=by rw [q];rfl
       have e3:(ki == 3)=false:=by rw [q];rfl
       have e5:(ki == 5)=false:=by rw [q];rfl
       have c:kb=false:=by rw [ac.out];simp [q]
       clear q
       go_wp2_with fail
       go_meet;exact ⟨by rw [c],rfl⟩
      ·have d:(ki == 1)=false:=by rw [q];rfl
       have e3:(ki == 3)=true:=by rw [q];rfl
       have e5:(ki == 5)=false:=by rw [q];rfl
       have c:kb=true:=by rw [ac.out];simp [q]
       clear q
       go_wp2_with fail
       go_meet;exact ⟨by rw [c],rfl⟩
      ·have d:(ki == 1)=false:=by rw [q];rfl
       have e3:(ki == 3)=false:=by rw [q];rfl
       have e5:(ki == 5)=false:=by rw [q];rfl
       have c:kb=false:=by rw [ac.out];simp [q]
       clear q
       go_wp2_with fail
       go_meet;exact ⟨by rw [c],rfl⟩
      ·have d:(ki == 1)=false:=by rw [q];rfl
       have e3:(ki == 3)=false:=by rw [q];rfl
       have e5:(ki == 5)=true:=by rw [q];rfl
       have c:kb=true:=by rw [ac.out];simp [q]
       clear q
       go_wp2_with fail
       go_meet;exact ⟨by rw [c],rfl⟩
      ·have d:(ki == 1)=false:=by rw [q];rfl
       have e3:(ki == 3)=false:=by rw [q];rfl
       have e5:(ki == 5)=false:=by rw [q];rfl
       have c:kb=false:=by rw [ac.out];simp [q]
       clear q
       go_wp2_with fail
       go_meet;exact ⟨by rw [c],rfl⟩
    case rest=>
     obtain ⟨rfl,rfl⟩:=hcut
     go_upto_if 48 with fail
     obtain ⟨W7,fw⟩:=exq (wc);subst fw
     go_cut [48] (λ_ wx=>Dr w wx g v l k3 [(w.heap.size,zMsg,43),(m.heap.size,(mqN ki (1+(f:Int)) td tm j lt 0 0 0 (I Ab 0 0)),43)])
     case first=>
      as_aux_lemma=>
       have hA:=HA.out;unfold mgA at hA;cases an:kb
       ·have p:=of_decide_eq_false (ac.symm.trans an)
        rw [if_neg p] at hA;injection hA with d e2;injection e2 with e2 e3;subst d e2 e3;clear p
        go_wp2_with fail
        go_meet;exact aq
       ·have p:=of_decide_eq_true (ac.symm.trans an)
        rw [if_pos p] at hA;obtain ⟨la,lb,kA,c0⟩:∃ la lb kA,mgA1 l k2 tm=(la,lb,kA):=⟨_,_,_,rfl⟩;rw [c0] at hA;dsimp only at hA;have ey:=Z0 c0;have g3:=Z0 hA;clear hA c0 p HA;have gv:=Z6 l k2 4;obtain ⟨p4,co⟩:=exq (Z4 l k2 4);have eh:=Z0 co;rw [<-co] at gv;have ff:=Z6 l (k2+1) 30;obtain ⟨a6,a2⟩:=exq (Z4 l (k2+1) 30);have bv:=Z0 a2;rw [<-a2] at ff;have fa:=Z6 l kA 12;obtain ⟨d9,ax⟩:=exq (Z4 l kA 12);have au:=Z0 ax;rw [<-ax] at fa;obtain ⟨pt,cj⟩:=exq (Z4 l (k2+1+1) tm.toNat);have ef:=Z0 cj;have g8:=Z6 l (k2+1+1) tm.toNat;rw [<-cj] at g8;have ij:=Z48 tm.toNat
        have hr:kA<=k2+6:=by
         have h:=ey.out;unfold mgA1 at h;split at h <;> (injection h with d e2;injection e2 with e2 e3;omega)
        clear cj co a2 ax
        have hj:Hid (∀ u:World,Dr w u g v l (k2+1+1) [(w.heap.size,zMsg,43),(m.heap.size,(mqN ki (1+(f:Int)) td tm (1+(a6:Int)) 0 0 0 0 (I Ab 0 0)),43)]->Calls Tryz.prog 53 #[Ae (Ac ⟨g,0,Ab⟩),Aa O tm] u λe w'=>e=.returned (Aa O (pt:Nat))/\Dr w w' g v l (k2+1+1+Zf tm.toNat) [(w.heap.size,zMsg,43),(m.heap.size,(mqN ki (1+(f:Int)) td tm (1+(a6:Int)) 0 0 0 0 (I Ab 0 0)),43)]):=λu hu=>by
         rw [ef.out];have hx:=hu.pick tm.toNat;rw [show ((tm.toNat:Nat):Int)=tm by omega] at hx;exact hx
        go_upto_if 51 with (go_at_call 53;refine (aq.pickG 4).mono ?_;rintro e w8 ⟨rfl,a,b⟩;rw [<-eh.out];have al:=Z0 a;have ej:=(a.blk 1).cell;have d8:=(a.blk 1).free;clear a b)
        go_cut [51] (λ_ wx=>Dr w wx g v l kA [(w.heap.size,zMsg,43),(m.heap.size,(mqN ki (1+(f:Int)) td tm la lb 0 0 0 (I Ab 0 0)),43)])
        case first=>
         have h:=ey.out;unfold mgA1 at h;rw [<-eh.out,<-bv.out,<-ef.out] at h;by_cases c4:p4=0
         ·subst c4
          rw [if_pos rfl] at h;injection h with d e2;injection e2 with e2 e3;subst d e2 e3
          go_wp2_with fail
          go_meet;exact al
         ·rw [if_neg c4] at h
          injection h with d e2;injection e2 with e2 e3;subst d e2 e3;have c5:((p4:Int) != 0)=true:=by rw [bne_iff_ne];omega
          have A4:True:=trivial
          go_wp2_with (first
           |(go_at_call 53;clear A4;refine (al.pickG 30).mono ?_;rintro e w9 ⟨rfl,a,b⟩;rw [<-bv.out];have dw:=Z0 a;have h5:=(a.blk 1).cell;have h8:=(a.blk 1).free;clear a b;have di:Hid (Dr w (w9.setCell ⟨m.heap.size,4,Ab⟩ (Aa O (1+(a6:Int)))) g v l (k2+1+1) [(w.heap.size,zMsg,43),(m.heap.size,(mqN ki (1+(f:Int)) td tm (1+(a6:Int)) 0 0 0 0 (I Ab 0 0)),43)]):=dw.set 1 rfl 4 (by simp) (Aa O (1+(a6:Int))))
           |(go_at_call 53;refine (hj _ di).mono ?_;rintro e i0 ⟨rfl,a⟩;have cx:=Z0 a;have b7:=(a.blk 1).cell;have b6:=(a.blk 1).free;clear a))
          go_meet;exact cx.set 1 rfl 5 (by simp) (Aa O (1+(pt:Int)))
        case rest=>
         have dh:=Z0 hcut;clear hcut;have h:=g3.out;rw [<-au.out] at h;by_cases c12:d9=0
         ·subst c12
          rw [if_pos rfl] at h;injection h with d e2;injection e2 with e2 e3;subst d e2 e3
          go_wp2_with (go_at_call 53;refine (dh.pickG 12).mono ?_;rintro e hg ⟨rfl,a,b⟩;rw [<-au.out];have ag:=Z0 a;have cd:=(a.blk 1).cell;have db:=(a.blk 1).free;clear a b)
          go_meet;exact (ag.set 1 rfl 4 (by simp) (Aa O 4096)).set 1 rfl 5 (by simp) (Aa O tm)
         ·rw [if_neg c12] at h
          injection h with d e2;injection e2 with e2 e3;subst d e2 e3;have c13:((d9:Int) == 0)=false:=by rw [beq_eq_false_iff_ne];omega
          go_wp2_with (go_at_call 53;refine (dh.pickG 12).mono ?_;rintro e hg ⟨rfl,a,b⟩;rw [<-au.out];have ag:=Z0 a;have cd:=(a.blk 1).cell;have db:=(a.blk 1).free;clear a b)
          go_meet;exact ag
     case rest=>
      have ae:=Z0 hcut;have dd:=mgA_ok l k2 ki tm er em;rw [HA.out] at dd;dsimp only at dd;obtain ⟨it,iw,i6,iq,i3⟩:=dd;clear hcut HA aq hh gk ac;have eu:=(ae.blk 1).cell
      go_upto_if 71 with fail
      go_cut [71] (λ_ wx=>∃ ea ec,Zh wx w.heap.size (I ea EN.length ec) EN/\Dr w wx g v l k4 [(w.heap.size,zMsg,43),(m.heap.size,(mqN ki (1+(f:Int)) td tm j lt cm 0 0 (I ea EN.length ec)),43)])
      case first=>
       as_aux_lemma=>
        have h:=HB.out;unfold mgBd at h;by_cases c5:ki=5
        ·rw [if_pos c5] at h
         have c6:(ki == 5)=true:=by rw [c5];rfl
         clear c5;have fh:=mgN0_ok l (k3+1);obtain ⟨n0,kN,a1⟩:∃ n0 kN,mgN0 l (k3+1)=(n0,kN):=⟨_,_,rfl⟩;have eb:=Z0 a1;obtain ⟨n,hn⟩:=exq (mgN l (k3+1) j);have dj:n=min n0 (4096-j).toNat:=by rw [hn];unfold mgN;rw [a1]
         rw [<-hn,a1] at h;rw [a1] at fh;dsimp only at h fh;have bd:=Z0 dj;clear hn a1 dj;obtain ⟨a9,a4⟩:=exq (Z4 l k3 40);have dt:=Z0 a4;rw [<-a4] at h;clear a4;obtain ⟨mx,c1⟩:=exq (max 1 lt);have ew:=Z0 c1;have d7:1<=mx/\mx<=1073741824:=by omega
         rw [<-c1] at h;clear c1;obtain ⟨ht,dy⟩:=d7;have ie:n<=32:=by have:=bd.out;omega
         obtain ⟨D,KD,TD,be⟩:∃ D KD TD,Y0 l kN mx n=(D,KD,TD):=⟨_,_,_,rfl⟩;have cr:=J9 l kN mx n;rw [be] at cr;dsimp only at cr
         have dn:Hid (∀(u:World),Src u g v l kN->Calls Tryz.prog 96 #[Ae (Ac ⟨g,0,Ab⟩),Aa O n,Aa O mx] u λr w'=>∃ ev,r=.returned ev/\Zh w' u.heap.size ev D/\Src w' g v l KD/\u.grownBy w' (Ac g)):=λu hu=>by
          have:=Xw g u v l kN n mx hL (by omega) (by omega) ⟨by omega,dy⟩ hu;rw [be] at this;exact this
         rw [be] at h;clear be;injection h with d e2;injection e2 with e2 e3;subst d;have fi:=Z0 e2.symm;have gc:KD=k4:=e3;subst gc;clear e2;have A5:True:=trivial
         go_upto_if 79 with (first
          |(go_at_call 53;clear A5;refine (ae.pickG 40).mono ?_;rintro e f9 ⟨rfl,a,b⟩;rw [<-dt.out];have ce:=Z0 a;have g2:=(a.blk 1).cell;have g6:=(a.blk 1).free;have ct:Hid (Dr w (f9.setCell ⟨m.heap.size,6,Ab⟩ (Aa O (a9:Int))) g v l (k3+1) [(w.heap.size,zMsg,43),(m.heap.size,(mqN ki (1+(f:Int)) td tm j lt (a9:Int) 0 0 (I Ab 0 0)),43)]):=ce.set 1 rfl 6 (by simp) (Aa O (a9:Int));have A6:True:=trivial;obtain ⟨qd,ek⟩:=exq (Z4 l (k3+1) 5);have ez:=Z0 ek;clear ek;clear a b)
          |(go_at_call 53;clear A6;refine (ct.pickG 5).mono ?_;rintro e io ⟨rfl,a,b⟩;rw [<-ez.out];have de:=Z0 a;have fm:=(a.blk 1).cell;have gh:=(a.blk 1).free;obtain ⟨qe,fj⟩:=exq (Z4 l (k3+1+1) 10);have dz:=Z0 fj;clear fj;clear a b)
          |(go_at_call 53;refine (de.pickG 10).mono ?_;rintro e ic ⟨rfl,a,b⟩;rw [<-dz.out];have ar:=Z0 a;have fp:=(a.blk 1).cell;have fo:=(a.blk 1).free;clear a b))
         go_cut [4] (λs4 wx=>s4=Aa O (n0:Int)/\Dr w wx g v l kN [(w.heap.size,zMsg,43),(m.heap.size,(mqN ki (1+(f:Int)) td tm j lt (a9:Int) 0 0 (I Ab 0 0)),43)])
         case first=>
          have h:=eb.out;unfold mgN0 at h;rw [<-dz.out,<-ez.out] at h;by_cases c7:qe=0
          ·subst c7
           rw [if_pos rfl] at h;obtain ⟨qf,dc⟩:=exq (Z4 l (k3+1+1+1) 2);have gd:=Z0 dc;have gf:=Z6 l (k3+1+1+1) 2;rw [<-dc] at h gf;clear dc;injection h with e4 e5;subst e5
           go_wp2_with (go_at_call 53;refine (ar.pickG 2).mono ?_;rintro e iy ⟨rfl,a,b⟩;rw [<-gd.out];have cq:=Z0 a;have hl:=(a.blk 1).cell;have gs:=(a.blk 1).free;clear a b)
           go_meet;exact ⟨by rw [<-e4];congr 1;omega,cq.out⟩
          ·rw [if_neg c7] at h
           have c8:((qe:Int) == 0)=false:=by rw [beq_eq_false_iff_ne];omega
           injection h with e4 e5;subst e4 e5
           go_wp2_with fail
           go_meet;exact ⟨rfl,ar.out⟩
         case rest=>
          obtain ⟨rfl,hcut⟩:=hcut;have ak:=Z0 hcut;have dm:=(hcut.blk 1).cell;have et:=(hcut.blk 1).free;clear hcut;obtain ⟨hf,dp⟩:=exq (wc);subst dp
          go_upto_if 87 with fail
          go_cut [4] (λs4 wx=>s4=Aa O (n:Int)/\wx=hf)
          case first=>
           by_cases c7:4096-j<(n0:Int)
           ·have c8:=decide_eq_true c7
            go_wp2_with fail
            go_meet;exact ⟨by have:=bd.out;congr 1;omega,rfl⟩
           ·have c8:=decide_eq_false c7
            go_wp2_with fail
            go_meet;exact ⟨by have:=bd.out;congr 1;omega,rfl⟩
          case rest=>
           obtain ⟨rfl,rfl⟩:=hcut;have ei:Hid (∀ u:World,Calls Tryz.prog 94 #[Aa O 1,Aa O lt] u λe w'=>e=.returned (Aa O mx)/\w'=u):=λu=>by rw [ew.out];exact Xt 1 lt u
           go_wp2_with (first
            |(go_at_call 94;refine (ei _).mono ?_;rintro e wm ⟨rfl,i1⟩;subst wm)
            |(go_at_call 96;refine (dn _ ak.src).mono ?_;rintro e iz ⟨mv,rfl,b8,b0,br⟩;have b3:=Z0 (ak.call b0 br);have a3:=Z0 (b8.le ak.size);clear b8 b0 br))
           subst cr;obtain ⟨ma,mc,f0⟩:=a3.shape;subst f0;clear dn ak dm et eb bd ei ew ae eu
           go_loopw [6] (λiv wr=>∃ i:Nat,i<=D.length/\iv=Aa O i/\Zh wr w.heap.size (I ma D.length mc) ((D.take i).map (Z2d tm) ++ D.drop i)/\Dr w wr g v l KD [(w.heap.size,zMsg,43),(m.heap.size,(mqN ki (1+(f:Int)) td tm j lt (a9:Int) 0 0 (I Ab 0 0)),43)]) (λi _=>D.length-(intOf i).toNat)
           case atStart=>exact ⟨0,Nat.zero_le _,rfl,by simpa using a3.out,b3.out⟩
           case round=>
            obtain ⟨i,hi,rfl,hm,hd⟩:=hrel;have cp:((D.take i).map (Z2d tm) ++ D.drop i).length=D.length:=by rw [List.length_append,B8,List.length_take,List.length_drop];omega
            have cy:=Z0 hm;have az:=Z0 hd;have hp:=(hd.blk 1).cell;have ho:=(hd.blk 1).free;clear hm hd b3 a3;by_cases a8:i<D.length
            ·have h7:(i:Int)<(D.length:Int):=by omega
             obtain ⟨q,ha,⟨d0,d1,d2,d3,d4,d5,d6⟩,fz⟩:=Z1t cy cp.symm (k:=i) (by omega) (by unfold maxLen;omega)
             have cu:((D.take i).map (Z2d tm) ++ D.drop i)[i]'(by omega)=D[i]:=by
              rw [List.getElem_append_right (by simp;omega)];simp [List.length_take,Nat.min_eq_left (Nat.le_of_lt a8)]
             rw [cu] at d0;clear d1 d2 d3 d4 d5 d6;subst ha
             have f4:Hid (∀ y,((D.take i).map (Z2d tm) ++ D.drop i).set i y=(D.take i).map (Z2d tm) ++ y :: D.drop (i+1)):=λy=>by
              rw [List.set_append,if_neg (by simp;omega)];congr 1;rw [B8,List.length_take,Nat.min_eq_left (Nat.le_of_lt a8),Nat.sub_self,List.drop_eq_getElem_cons a8,List.set_cons_zero]
             have cg:=Z0 ((by rw [List.take_succ_eq_append_getElem a8,List.map_append];rfl:(D.take (i+1)).map (Z2d tm)=(D.take i).map (Z2d tm) ++ [Z2d tm D[i]]));obtain ⟨y,hy⟩:=exq (D[i]);rw [<-hy] at d0 cg;have HY:=Z0 ((by rw [hy];exact List.drop_eq_getElem_cons a8:D.drop i=y :: D.drop (i+1)));have gt:=Z0 ((by rw [cu,hy]:J4 tm (((D.take i).map (Z2d tm) ++ D.drop i)[i]'(by omega))=J4 tm y));clear cu hy
             go_upto_region 25 with fail
             go_cut [110] (λs110 wx=>s110=.bool (decide (tm<y.t))/\∃ nq,wx=wr.drewN nq)
             case first=>
              go_quiet (fail)
              go_wp2;go_meet;exact ⟨rfl,_,rfl⟩
             case rest=>
              obtain ⟨rfl,nq,rfl⟩:=hcut;have ai:Hid (Zh (wr.drewN nq) w.heap.size (I (Ac ⟨q,0,Ab⟩) D.length mc) ((D.take i).map (Z2d tm) ++ D.drop i)):=cy.below bdr;have bh:=Z0 (az.drewN nq);by_cases cT:tm<y.t
              ·have gw:decide (tm<y.t)=true:=by simpa using cT
               have cz:=Z0 ((by unfold Z2d;rw [if_pos cT]:Z2d tm y=J4 tm y))
               go_wp2_with fail
               go_roundw
               case rel=>
                have fb:=ai.setT cp.symm i (by omega) tm;rw [gt.out,f4.out,<-cz.out] at fb;have dq:=ai.2;rw [cp] at dq;have f3:=(dq.stored (i*7) (Aa O tm)).2;refine ⟨i+1,by omega,by go_num,by rw [cg.out,List.append_assoc];exact fb,bh.grew (u:=I (Ac ⟨q,0,Ab⟩) D.length mc) (u':=I (Ac ⟨q,0,Ab⟩) D.length mc) ⟨f3,.inl rfl⟩ (λq' hq'=>(ai.2.lt q' hq').1) ?_⟩;intro x hx;simp only [List.mem_cons,List.not_mem_nil,or_false] at hx;rcases hx with rfl | rfl
                ·exact ownsRow.neBlk ai.2 (bh.blk 0 rfl) (by decide)
                ·exact ownsRow.neBlk ai.2 (bh.blk 1 rfl) (by decide)
               case measure=>simp [intOf];omega
              ·have gw:decide (tm<y.t)=false:=by simpa using cT
               have cz:=Z0 ((by unfold Z2d;rw [if_neg cT]:Z2d tm y=y))
               go_wp2_with fail
               go_roundw
               case rel=>exact ⟨i+1,by omega,by go_num,by rw [cg.out,List.append_assoc,cz.out];rw [HY.out] at ai;exact ai,bh.out⟩
               case measure=>simp [intOf];omega
            ·obtain rfl:i=D.length:=by omega
             have eq:EN.length=D.length:=by rw [fi.out,B8]
             have dv:=Z0 eq;clear eq
             go_wp2_with fail
             go_meet;refine ⟨ma,mc,?_,?_⟩
             ·have hm:=cy.out
              rw [List.take_length,List.drop_length,List.append_nil,<-fi.out] at hm;rw [dv.out];exact Z27 hm (az.blk 1 rfl) (by decide) (Z28 _ _ _ _)
             ·rw [dv.out]
              exact az.set 1 rfl 9 (by simp) (I ma D.length mc)
        ·rw [if_neg c5] at h
         have c6:(ki == 5)=false:=by rw [beq_eq_false_iff_ne];exact c5
         injection h with d e2;injection e2 with e2 e3;subst d e2 e3
         go_wp2_with fail
         go_meet;exact ⟨Ab,0,Zh.nil _ _,ae.out⟩
      case rest=>
       obtain ⟨ea,ec,ab,hcut⟩:=hcut;obtain ⟨en,cw⟩:=exq (EN.length);rw [<-cw] at ab hcut;have fg:=Z0 cw;have da:=Z0 ab;have ba:=Z0 hcut;have ds:=mgB_k l k3 ki tm j lt;rw [HB.out] at ds;dsimp only at ds;clear hcut ab cw HB ae eu;have gn:=(ba.blk 1).cell;have f8:=(ba.blk 1).free;obtain ⟨kc,eo⟩:=exq (decide (ki=2∨ki=4∨ki=6));have aa:=Z0 eo;clear eo
       go_upto_region 28 with fail
       go_cut [131] (λs131 wx=>s131=.bool kc/\wx=wc)
       case first=>
        as_aux_lemma=>
         rcases (show ki=1∨ki=2∨ki=3∨ki=4∨ki=5∨ki=6 by omega) with q | q | q | q | q | q
         ·have e2:(ki == 2)=false:=by rw [q];rfl
          have e4:(ki == 4)=false:=by rw [q];rfl
          have e6:(ki == 6)=false:=by rw [q];rfl
          have c:kc=false:=by rw [aa.out];simp [q]
          clear q
          go_wp2_with fail
          go_meet;exact ⟨by rw [c],rfl⟩
         ·have e2:(ki == 2)=true:=by rw [q];rfl
          have e4:(ki == 4)=false:=by rw [q];rfl
          have e6:(ki == 6)=false:=by rw [q];rfl
          have c:kc=true:=by rw [aa.out];simp [q]
          clear q
          go_wp2_with fail
          go_meet;exact ⟨by rw [c],rfl⟩
         ·have e2:(ki == 2)=false:=by rw [q];rfl
          have e4:(ki == 4)=false:=by rw [q];rfl
          have e6:(ki == 6)=false:=by rw [q];rfl
          have c:kc=false:=by rw [aa.out];simp [q]
          clear q
          go_wp2_with fail
          go_meet;exact ⟨by rw [c],rfl⟩
         ·have e2:(ki == 2)=false:=by rw [q];rfl
          have e4:(ki == 4)=true:=by rw [q];rfl
          have e6:(ki == 6)=false:=by rw [q];rfl
          have c:kc=true:=by rw [aa.out];simp [q]
          clear q
          go_wp2_with fail
          go_meet;exact ⟨by rw [c],rfl⟩
         ·have e2:(ki == 2)=false:=by rw [q];rfl
          have e4:(ki == 4)=false:=by rw [q];rfl
          have e6:(ki == 6)=false:=by rw [q];rfl
          have c:kc=false:=by rw [aa.out];simp [q]
          clear q
          go_wp2_with fail
          go_meet;exact ⟨by rw [c],rfl⟩
         ·have e2:(ki == 2)=false:=by rw [q];rfl
          have e4:(ki == 4)=false:=by rw [q];rfl
          have e6:(ki == 6)=true:=by rw [q];rfl
          have c:kc=true:=by rw [aa.out];simp [q]
          clear q
          go_wp2_with fail
          go_meet;exact ⟨by rw [c],rfl⟩
       case rest=>
        obtain ⟨rfl,rfl⟩:=hcut;obtain ⟨W9,g7⟩:=exq (wc);subst g7
        go_upto_if 131 with fail
        go_cut [131] (λ_ wx=>Zh wx w.heap.size (I ea en ec) EN/\Dr w wx g v l k5 [(w.heap.size,zMsg,43),(m.heap.size,(mqN ki (1+(f:Int)) td tm j lt cm ok 0 (I ea en ec)),43)])
        case first=>
         as_aux_lemma=>
          have h:=HC.out;unfold mgCd at h;cases an:kc
          ·have p:=of_decide_eq_false (aa.symm.trans an)
           rw [if_neg p] at h;injection h with d e2;subst d e2;clear p
           go_wp2_with fail
           go_meet;exact ⟨da,ba.out⟩
          ·have p:=of_decide_eq_true (aa.symm.trans an)
           rw [if_pos p] at h;clear p;obtain ⟨po,ch⟩:=exq (Z4 l k4 2);have fy:=Z0 ch;rw [<-ch] at h;clear ch;injection h with d e2;subst d e2
           go_wp2_with (go_at_call 53;refine (ba.pickG 2).mono ?_;rintro e i5 ⟨rfl,a,b⟩;rw [<-fy.out];have a5:=Z0 a;have g4:=Z0 (da.grown b bp);have he:=(a.blk 1).cell;have gx:=(a.blk 1).free;clear a b)
           go_meet;exact ⟨Z27 g4 (a5.blk 1 rfl) (by decide) (Z28 _ _ _ _),a5.set 1 rfl 7 (by simp) (Aa O (po:Int))⟩
        case rest=>
         obtain ⟨ab,hcut⟩:=hcut;have am:=Z0 ab;have s:=Z0 hcut
         have fv:k5<=k4+1/\0<=ok/\ok<=1:=by
          have h:=HC.out;have h1:=Z6 l k4 2;unfold mgCd at h;split at h <;> (injection h with d e2;omega)
         obtain ⟨h3,h2,hw⟩:=fv;clear hcut ab HC ba da gn f8 aa;have b7:=(s.blk 1).cell;have b6:=(s.blk 1).free
         go_upto_if 137 with fail
         go_cut [137] (λ_ wx=>Zh wx w.heap.size (I ea en ec) EN/\Dr w wx g v l k6 [(w.heap.size,zMsg,43),(m.heap.size,(mqN ki (1+(f:Int)) td tm li lt cm ok hi (I ea en ec)),43)])
         case first=>
          as_aux_lemma=>
           have h:=HD.out;unfold mgD at h;by_cases c6:ki=6
           ·rw [if_pos c6] at h
            have c7:(ki == 6)=true:=by rw [c6];rfl
            clear c6;obtain ⟨pa,c2⟩:=exq (Z4 l k5 40);have dg:=Z0 c2;obtain ⟨pb,cf⟩:=exq (Z4 l (k5+1) 40);have f7:=Z0 cf;rw [<-c2,<-cf] at h;clear c2 cf;have A7:True:=trivial;by_cases c8:ok=0
            ·rw [if_pos c8,if_pos c8] at h
             have c9:(ok == 0)=true:=by rw [c8];rfl
             clear c8;injection h with d e2;injection e2 with e2 e3;subst d e2 e3
             go_wp2_with (first
              |(go_at_call 53;clear A7;refine (s.pickG 40).mono ?_;rintro e av ⟨rfl,a,b⟩;rw [<-dg.out];have o:=Z0 a;have bj:=Z0 (am.grown b bp);have cn:=(a.blk 1).cell;have cc:=(a.blk 1).free;have ah:Hid (Dr w (av.setCell ⟨m.heap.size,4,Ab⟩ (Aa O (pa:Int))) g v l (k5+1) [(w.heap.size,zMsg,43),(m.heap.size,(mqN ki (1+(f:Int)) td tm (pa:Int) lt cm ok 0 (I ea en ec)),43)]):=o.set 1 rfl 4 (by simp) (Aa O (pa:Int));have a0:Hid (Zh (av.setCell ⟨m.heap.size,4,Ab⟩ (Aa O (pa:Int))) w.heap.size (I ea en ec) EN):=Z27 bj (o.blk 1 rfl) (by decide) (Z28 _ _ _ _);clear a b)
              |(go_at_call 53;refine (ah.pickG 40).mono ?_;rintro e ix ⟨rfl,a,b⟩;rw [<-f7.out];have a7:=Z0 a;have gu:=Z0 (a0.grown b bp);have gi:=(a.blk 1).cell;have gy:=(a.blk 1).free;clear a b))
             go_meet;exact ⟨Z27 gu (a7.blk 1 rfl) (by decide) (Z28 _ _ _ _),a7.set 1 rfl 8 (by simp) (Aa O (pb:Int))⟩
            ·rw [if_neg c8,if_neg c8] at h
             have c9:(ok == 0)=false:=by rw [beq_eq_false_iff_ne];exact c8
             injection h with d e2;injection e2 with e2 e3;subst d e2 e3
             go_wp2_with (first
              |(go_at_call 53;clear A7;refine (s.pickG 40).mono ?_;rintro e av ⟨rfl,a,b⟩;rw [<-dg.out];have o:=Z0 a;have bj:=Z0 (am.grown b bp);have cn:=(a.blk 1).cell;have cc:=(a.blk 1).free;have ah:Hid (Dr w (av.setCell ⟨m.heap.size,4,Ab⟩ (Aa O (pa:Int))) g v l (k5+1) [(w.heap.size,zMsg,43),(m.heap.size,(mqN ki (1+(f:Int)) td tm (pa:Int) lt cm ok 0 (I ea en ec)),43)]):=o.set 1 rfl 4 (by simp) (Aa O (pa:Int));have a0:Hid (Zh (av.setCell ⟨m.heap.size,4,Ab⟩ (Aa O (pa:Int))) w.heap.size (I ea en ec) EN):=Z27 bj (o.blk 1 rfl) (by decide) (Z28 _ _ _ _);clear a b))
             go_meet;exact ⟨Z27 bj (o.blk 1 rfl) (by decide) (Z28 _ _ _ _),ah.out⟩
           ·rw [if_neg c6] at h
            have c7:(ki == 6)=false:=by rw [beq_eq_false_iff_ne];exact c6
            injection h with d e2;injection e2 with e2 e3;subst d e2 e3
            go_wp2_with fail
            go_meet;exact ⟨am,s.out⟩
         case rest=>
          obtain ⟨ab,hcut⟩:=hcut;have bu:=Z0 ab;have z:=Z0 hcut;clear hcut ab HD s am b7 b6
          go_wp2_with (first
           |(have ay:=z;refine Zd 43 (.tmp 3) rfl ?_;clear ay;refine Z7 rfl 43 (.tmp 3) rfl (m.heap.size) rfl (z.blk 1 rfl) Tryz.underlying43 rfl Z5k rfl ?_)
           |(have ay:=z;refine Zn 43 (.tmp 2) _ rfl ?_;clear ay;refine Zg rfl 43 (.tmp 2) _ rfl (w.heap.size) rfl rfl (z.blk 0 rfl) Z5k rfl rfl (by simp [Bh]) ?_))
          have hR:=z.row 0 rfl (mqN ki (1+(f:Int)) td tm li lt cm ok hi (I ea en ec)) (Zr);have hO:=bu.block (w':=wc.setRow w.heap.size (mqN ki (1+(f:Int)) td tm li lt cm ok hi (I ea en ec))) (λq hq=>setRow_other wc w.heap.size q (mqN ki (1+(f:Int)) td tm li lt cm ok hi (I ea en ec)) (λe=>ownsRow.neBlk bu.2 (z.blk 0 rfl) (by decide) (by rw [hq,e])));exact bodyPost_ret (Zl Tryz.results95 rfl (hR.blk 0 rfl) Tryz.underlying43 rfl Z5k rfl) rfl ⟨ea,ec,by rw [<-fg.out],by rw [<-fg.out];exact hO,hR.src,hR.grown⟩
end Go.Proofs.YtmmpoppgabadmaaGreat
