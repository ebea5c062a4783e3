import Derived.Test.YtmmpoppgabadmaaGreatG03
set_option linter.unusedVariables false
set_option linter.unusedSimpArgs false
set_option maxRecDepth 100000
set_option maxHeartbeats 16000000
namespace Go.Proofs.YtmmpoppgabadmaaGreat
open Go.RowKit
def mgK (l:List Int)(k:Nat):Int:=if Z5 l (k+1+1+1) 3=0 then 5 else 1+((Z5 l k 6:Nat):Int)
def mgFr (l:List Int)(k:Nat):Int:=1+((Z5 l (k+1) 7:Nat):Int)
def mgTo (l:List Int)(k:Nat):Int:=1+(mgFr l k+((Z5 l (k+1+1+1+1) 6:Nat):Int))%7
def mgT (l:List Int)(k:Nat):Int×Nat:=if Z5 l (k+1+1+1+1+1) 10=0 then (1073741824-((Z5 l (k+1+1+1+1+1+1) 2:Nat):Int),k+1+1+1+1+1+1+1) else (1+((Z5 l (k+1+1) 9:Nat):Int),k+1+1+1+1+1+1)
def mgA1 (l:List Int)(k:Nat)(tm:Int):Int×Int×Nat:=if Z5 l k 4=0 then (0,0,k+1) else (1+((Z5 l (k+1) 30:Nat):Int),1+((Z5 l (k+1+1) tm.toNat:Nat):Int),k+1+1+Zm tm.toNat)
def mgA (l:List Int)(k:Nat)(ki tm:Int):Int×Int×Nat:=if ki=1∨ki=3∨ki=5 then (if Z5 l (mgA1 l k tm).2.2 12=0 then (4096,tm,(mgA1 l k tm).2.2+1) else ((mgA1 l k tm).1,(mgA1 l k tm).2.1,(mgA1 l k tm).2.2+1)) else (0,0,k)
def mgN0 (l:List Int)(k:Nat):Nat×Nat:=if Z5 l (k+1) 10=0 then (32-Z5 l (k+1+1) 2,k+1+1+1) else (Z5 l k 5,k+1+1)
def mgN (l:List Int)(k:Nat)(li:Int):Nat:=min (mgN0 l k).1 (4096-li).toNat
def mgBd (l:List Int)(k:Nat)(ki tm li lt:Int):Int×List Ent×Nat:=if ki=5 then (((Z5 l k 40:Nat):Int),(Y5 l (mgN0 l (k+1)).2 (max 1 lt) (mgN l (k+1) li)).1.map (Ja tm),(Y5 l (mgN0 l (k+1)).2 (max 1 lt) (mgN l (k+1) li)).2.1) else (0,[],k)
def mgCd (l:List Int)(k:Nat)(ki:Int):Int×Nat:=if ki=2∨ki=4∨ki=6 then (((Z5 l k 2:Nat):Int),k+1) else (0,k)
def mgD (l:List Int)(k:Nat)(ki ok li:Int):Int×Int×Nat:=if ki=6 then (((Z5 l k 40:Nat):Int),if ok=0 then ((Z5 l (k+1) 40:Nat):Int) else 0,if ok=0 then k+1+1 else k+1) else (li,0,k)
structure MsgD where
 ki:Int
 fr:Int
 td:Int
 tm:Int
 li:Int
 lt:Int
 cm:Int
 ok:Int
 hi:Int
 es:List Ent
 k:Nat
def Xi (l:List Int)(k:Nat):MsgD:=
 ⟨mgK l k,mgFr l k,mgTo l k,(mgT l k).1,(mgD l (mgCd l (mgBd l (mgA l (mgT l k).2 (mgK l k) (mgT l k).1).2.2 (mgK l k) (mgT l k).1 (mgA l (mgT l k).2 (mgK l k) (mgT l k).1).1 (mgA l (mgT l k).2 (mgK l k) (mgT l k).1).2.1).2.2 (mgK l k)).2 (mgK l k) (mgCd l (mgBd l (mgA l (mgT l k).2 (mgK l k) (mgT l k).1).2.2 (mgK l k) (mgT l k).1 (mgA l (mgT l k).2 (mgK l k) (mgT l k).1).1 (mgA l (mgT l k).2 (mgK l k) (mgT l k).1).2.1).2.2 (mgK l k)).1 (mgA l (mgT l k).2 (mgK l k) (mgT l k).1).1).1,
  (mgA l (mgT l k).2 (mgK l k) (mgT l k).1).2.1,(mgBd l (mgA l (mgT l k).2 (mgK l k) (mgT l k).1).2.2 (mgK l k) (mgT l k).1 (mgA l (mgT l k).2 (mgK l k) (mgT l k).1).1 (mgA l (mgT l k).2 (mgK l k) (mgT l k).1).2.1).1,
  (mgCd l (mgBd l (mgA l (mgT l k).2 (mgK l k) (mgT l k).1).2.2 (mgK l k) (mgT l k).1 (mgA l (mgT l k).2 (mgK l k) (mgT l k).1).1 (mgA l (mgT l k).2 (mgK l k) (mgT l k).1).2.1).2.2 (mgK l k)).1,
  (mgD l (mgCd l (mgBd l (mgA l (mgT l k).2 (mgK l k) (mgT l k).1).2.2 (mgK l k) (mgT l k).1 (mgA l (mgT l k).2 (mgK l k) (mgT l k).1).1 (mgA l (mgT l k).2 (mgK l k) (mgT l k).1).2.1).2.2 (mgK l k)).2 (mgK l k) (mgCd l (mgBd l (mgA l (mgT l k).2 (mgK l k) (mgT l k).1).2.2 (mgK l k) (mgT l k).1 (mgA l (mgT l k).2 (mgK l k) (mgT l k).1).1 (mgA l (mgT l k).2 (mgK l k) (mgT l k).1).2.1).2.2 (mgK l k)).1 (mgA l (mgT l k).2 (mgK l k) (mgT l k).1).1).2.1,
  (mgBd l (mgA l (mgT l k).2 (mgK l k) (mgT l k).1).2.2 (mgK l k) (mgT l k).1 (mgA l (mgT l k).2 (mgK l k) (mgT l k).1).1 (mgA l (mgT l k).2 (mgK l k) (mgT l k).1).2.1).2.1,
  (mgD l (mgCd l (mgBd l (mgA l (mgT l k).2 (mgK l k) (mgT l k).1).2.2 (mgK l k) (mgT l k).1 (mgA l (mgT l k).2 (mgK l k) (mgT l k).1).1 (mgA l (mgT l k).2 (mgK l k) (mgT l k).1).2.1).2.2 (mgK l k)).2 (mgK l k) (mgCd l (mgBd l (mgA l (mgT l k).2 (mgK l k) (mgT l k).1).2.2 (mgK l k) (mgT l k).1 (mgA l (mgT l k).2 (mgK l k) (mgT l k).1).1 (mgA l (mgT l k).2 (mgK l k) (mgT l k).1).2.1).2.2 (mgK l k)).1 (mgA l (mgT l k).2 (mgK l k) (mgT l k).1).1).2.2⟩
theorem mgA1_ok (l:List Int)(k:Nat)(tm:Int)(h1:1<=tm)(h2:tm<=1073741824):0<=(mgA1 l k tm).1/\(mgA1 l k tm).1<=30/\0<=(mgA1 l k tm).2.1/\(mgA1 l k tm).2.1<=1073741824/\(mgA1 l k tm).2.2<=k+6:=by
 have h3:=Z2p tm.toNat;have h4:=Zf l (k+1) 30 (by omega);have h5:=Zf l (k+1+1) tm.toNat (by omega);unfold mgA1;split <;> (dsimp only;omega)
theorem mgA_ok (l:List Int)(k:Nat)(ki tm:Int)(h1:1<=tm)(h2:tm<=1073741824):0<=(mgA l k ki tm).1/\(mgA l k ki tm).1<=4096/\0<=(mgA l k ki tm).2.1/\(mgA l k ki tm).2.1<=1073741824/\(mgA l k ki tm).2.2<=k+7:=by
 have h3:=mgA1_ok l k tm h1 h2;unfold mgA;generalize mgA1 l k tm=x at *;split
 ·split <;> (dsimp only;omega)
 ·dsimp only;omega
theorem mgN0_ok (l:List Int)(k:Nat):(mgN0 l k).1<=32/\(mgN0 l k).2<=k+3:=by
 have h3:=Zf l k 5 (by omega);unfold mgN0;split <;> (dsimp only;omega)
theorem mgB_k (l:List Int)(k:Nat)(ki tm li lt:Int):(mgBd l k ki tm li lt).2.2<=k+600:=by
 have h1:=mgN0_ok l (k+1);have h2:=Z1g l (mgN0 l (k+1)).2 (max 1 lt) (mgN l (k+1) li);have h3:mgN l (k+1) li<=32:=by unfold mgN;omega
 unfold mgBd;split <;> (dsimp only;omega)
theorem Z08 {w w':World}{B b:Nat}{v:Value}{l:List Ent}{C:Array Value}{t:TypeId}(h:Zv w B v l)(hb:Blk w b C t)(hne:118≠t)(hk:∀ q,q≠b->w'.heap[q]? = w.heap[q]?):Zv w' B v l:=
 h.block fun q hq=>hk q (fun e=>ownsRow.neBlk h.2 hb hne (by rw [hq,e]))
theorem Z07 (w:World)(b j:Nat)(x:Value):∀ q,q≠b->(w.setCell ⟨b,j,none⟩ x).heap[q]? = w.heap[q]?:=fun q hq=>Below.heap_setCell _ _ _ _ hq
theorem Z2n:(Tryz.prog.info? 43).map (·.size)=some 10:=by kernel_rfl
theorem l1drawMsg_any (g:Nat)(w:World)(v:Value)(l:List Int)(k:Nat)(hL:l.length<=1048576)(hk:k<=500000000)(h:Src w g v l k) :
  Calls Tryz.prog 95 #[.pointer (some ⟨g,0,none⟩)] w fun r w'=>∃ ea ec,r=.returned (.agg #[.int .i64 (Xi l k).ki,.int .i64 (Xi l k).fr,.int .i64 (Xi l k).td,.int .i64 (Xi l k).tm,.int .i64 (Xi l k).li,.int .i64 (Xi l k).lt,.int .i64 (Xi l k).cm,.int .i64 (Xi l k).ok,.int .i64 (Xi l k).hi,.slice ea (Xi l k).es.length ec])/\Zv w' w.heap.size (.slice ea (Xi l k).es.length ec) (Xi l k).es/\Src w' g v l (Xi l k).k/\w.grownBy w' (some g):=by
 have hg0:g<w.heap.size:=h.lt;have HD0:Hid (Dr w (w.alloc (.cells #[.int .i64 0,.int .i64 0,.int .i64 0,.int .i64 0,.int .i64 0,.int .i64 0,.int .i64 0,.int .i64 0,.int .i64 0,.slice none 0 0] 43)) g v l k [(w.heap.size,#[.int .i64 0,.int .i64 0,.int .i64 0,.int .i64 0,.int .i64 0,.int .i64 0,.int .i64 0,.int .i64 0,.int .i64 0,.slice none 0 0],43)]):=(Dr.start h).new #[.int .i64 0,.int .i64 0,.int .i64 0,.int .i64 0,.int .i64 0,.int .i64 0,.int .i64 0,.int .i64 0,.int .i64 0,.slice none 0 0] 43 (Yd rfl);clear h;unfold Xi;dsimp only;have Hki:Hid (mgK l k=if Z5 l (k+1+1+1) 3=0 then 5 else 1+((Z5 l k 6:Nat):Int)):=(rfl:mgK l k=_);have HmT:Hid (mgT l k=if Z5 l (k+1+1+1+1+1) 10=0 then (1073741824-((Z5 l (k+1+1+1+1+1+1) 2:Nat):Int),k+1+1+1+1+1+1+1) else (1+((Z5 l (k+1+1) 9:Nat):Int),k+1+1+1+1+1+1)):=(rfl:mgT l k=_);have Hto:Hid (mgTo l k=1+(1+((Z5 l (k+1) 7:Nat):Int)+((Z5 l (k+1+1+1+1) 6:Nat):Int))%7):=(rfl:mgTo l k=_);have hfr0:mgFr l k=1+((Z5 l (k+1) 7:Nat):Int):=rfl;rw [hfr0];clear hfr0;generalize mgK l k=ki at *;generalize mgTo l k=td at *;obtain ⟨tm,k2,hT⟩:∃ tm k2,mgT l k=(tm,k2):=⟨_,_,rfl⟩;rw [hT] at HmT ⊢;clear hT;dsimp only;obtain ⟨li1,lt,k3,hA⟩:∃ li1 lt k3,mgA l k2 ki tm=(li1,lt,k3):=⟨_,_,_,rfl⟩;rw [hA];have HA:Hid (mgA l k2 ki tm=(li1,lt,k3)):=hA;clear hA;dsimp only;obtain ⟨cm,EN,k4,hB⟩:∃ cm EN k4,mgBd l k3 ki tm li1 lt=(cm,EN,k4):=⟨_,_,_,rfl⟩;rw [hB];have HB:Hid (mgBd l k3 ki tm li1 lt=(cm,EN,k4)):=hB;clear hB;dsimp only;obtain ⟨ok,k5,hC⟩:∃ ok k5,mgCd l k4 ki=(ok,k5):=⟨_,_,rfl⟩;rw [hC];have HC:Hid (mgCd l k4 ki=(ok,k5)):=hC;clear hC;dsimp only;obtain ⟨li,hi,k6,hD⟩:∃ li hi k6,mgD l k5 ki ok li1=(li,hi,k6):=⟨_,_,_,rfl⟩;rw [hD];have HD:Hid (mgD l k5 ki ok li1=(li,hi,k6)):=hD;clear hD;dsimp only;have bp6:=Zf l k 6 (by decide);obtain ⟨p6,hp6⟩:∃ p6,p6=Z5 l k 6:=⟨_,rfl⟩;have Hp6:Hid (p6=Z5 l k 6):=hp6;rw [<-hp6] at bp6;have bp7:=Zf l (k+1) 7 (by decide);obtain ⟨p7,hp7⟩:∃ p7,p7=Z5 l (k+1) 7:=⟨_,rfl⟩;have Hp7:Hid (p7=Z5 l (k+1) 7):=hp7;rw [<-hp7] at bp7;have bp9:=Zf l (k+1+1) 9 (by decide);obtain ⟨p9,hp9⟩:∃ p9,p9=Z5 l (k+1+1) 9:=⟨_,rfl⟩;have Hp9:Hid (p9=Z5 l (k+1+1) 9):=hp9;rw [<-hp9] at bp9;have bp3:=Zf l (k+1+1+1) 3 (by decide);obtain ⟨p3,hp3⟩:∃ p3,p3=Z5 l (k+1+1+1) 3:=⟨_,rfl⟩;have Hp3:Hid (p3=Z5 l (k+1+1+1) 3):=hp3;rw [<-hp3] at bp3;have bq6:=Zf l (k+1+1+1+1) 6 (by decide);obtain ⟨q6,hq6⟩:∃ q6,q6=Z5 l (k+1+1+1+1) 6:=⟨_,rfl⟩;have Hq6:Hid (q6=Z5 l (k+1+1+1+1) 6):=hq6;rw [<-hq6] at bq6;have bp10:=Zf l (k+1+1+1+1+1) 10 (by decide);obtain ⟨p10,hp10⟩:∃ p10,p10=Z5 l (k+1+1+1+1+1) 10:=⟨_,rfl⟩;have Hp10:Hid (p10=Z5 l (k+1+1+1+1+1) 10):=hp10;rw [<-hp10] at bp10;have bp2:=Zf l (k+1+1+1+1+1+1) 2 (by decide);obtain ⟨p2,hp2⟩:∃ p2,p2=Z5 l (k+1+1+1+1+1+1) 2:=⟨_,rfl⟩;have Hp2:Hid (p2=Z5 l (k+1+1+1+1+1+1) 2):=hp2;rw [<-hp2] at bp2;rw [<-hp6,<-hp3] at Hki;rw [<-hp7,<-hq6] at Hto;rw [<-hp10,<-hp2,<-hp9] at HmT;rw [<-hp7];clear hp6 hp7 hp9 hp3 hq6 hp10 hp2;have A1:True:=trivial;have A2:True:=trivial;have A3:True:=trivial;go_enter Tryz.func95,Tryz.ntmps95
 go_upto_region 2 with (first
  |(go_at_call 53;clear A1;refine (HD0.out.pickG 6 hL (by omega) (by decide) (by decide)).mono ?_;rintro e w1 ⟨rfl,hd_,hg_⟩;rw [<-Hp6.out];have HDw1:Hid (Dr w w1 g v l (k+1) [(w.heap.size,#[.int .i64 0,.int .i64 0,.int .i64 0,.int .i64 0,.int .i64 0,.int .i64 0,.int .i64 0,.int .i64 0,.int .i64 0,.slice none 0 0],43)]):=hd_;clear hd_ hg_)
  |(go_at_call 53;clear A2;refine (HDw1.out.pickG 7 hL (by omega) (by decide) (by decide)).mono ?_;rintro e w2 ⟨rfl,hd_,hg_⟩;rw [<-Hp7.out];have HDw2:Hid (Dr w w2 g v l (k+1+1) [(w.heap.size,#[.int .i64 0,.int .i64 0,.int .i64 0,.int .i64 0,.int .i64 0,.int .i64 0,.int .i64 0,.int .i64 0,.int .i64 0,.slice none 0 0],43)]):=hd_;clear hd_ hg_)
  |(go_at_call 53;clear A3;refine (HDw2.out.pickG 9 hL (by omega) (by decide) (by decide)).mono ?_;rintro e w3 ⟨rfl,hd_,hg_⟩;rw [<-Hp9.out];have HDw3:Hid (Dr w w3 g v l (k+1+1+1) [(w.heap.size,#[.int .i64 0,.int .i64 0,.int .i64 0,.int .i64 0,.int .i64 0,.int .i64 0,.int .i64 0,.int .i64 0,.int .i64 0,.slice none 0 0],43)]):=hd_;clear hd_ hg_)
  |(have hBA:=HDw3;refine Y2 43 (.tmp 3) _ rfl ?_;clear hBA;refine Zz rfl 43 (.tmp 3) _ rfl (w3.heap.size) rfl rfl rfl Z2n rfl rfl (by simp [Value.oneCell']) ?_;have HD4:Hid (Dr w (w3.alloc (.cells #[.int .i64 (1+(p6:Int)),.int .i64 (1+(p7:Int)),.int .i64 0,.int .i64 (1+(p9:Int)),.int .i64 0,.int .i64 0,.int .i64 0,.int .i64 0,.int .i64 0,.slice none 0 0] 43)) g v l (k+1+1+1) [(w.heap.size,#[.int .i64 0,.int .i64 0,.int .i64 0,.int .i64 0,.int .i64 0,.int .i64 0,.int .i64 0,.int .i64 0,.int .i64 0,.slice none 0 0],43),(w3.heap.size,#[.int .i64 (1+(p6:Int)),.int .i64 (1+(p7:Int)),.int .i64 0,.int .i64 (1+(p9:Int)),.int .i64 0,.int .i64 0,.int .i64 0,.int .i64 0,.int .i64 0,.slice none 0 0],43)]):=HDw3.out.new #[.int .i64 (1+(p6:Int)),.int .i64 (1+(p7:Int)),.int .i64 0,.int .i64 (1+(p9:Int)),.int .i64 0,.int .i64 0,.int .i64 0,.int .i64 0,.int .i64 0,.slice none 0 0] 43 (Yd rfl)))
 obtain ⟨W4,hW4⟩:∃ W4,W4=w3.alloc (.cells #[.int .i64 (1+(p6:Int)),.int .i64 (1+(p7:Int)),.int .i64 0,.int .i64 (1+(p9:Int)),.int .i64 0,.int .i64 0,.int .i64 0,.int .i64 0,.int .i64 0,.slice none 0 0] 43):=⟨_,rfl⟩;rw [<-hW4] at HD4 ⊢;clear hW4 HDw1 HDw2 HDw3 HD0;have ce4:=(HD4.out.blk 1 rfl).cell;have fe4:=(HD4.out.blk 1 rfl).free
 go_upto_if 19 with (go_at_call 53;refine (HD4.out.pickG 3 hL (by omega) (by decide) (by decide)).mono ?_;rintro e w5 ⟨rfl,hd_,hg_⟩;rw [<-Hp3.out];have HDw5:Hid (Dr w w5 g v l (k+1+1+1+1) [(w.heap.size,#[.int .i64 0,.int .i64 0,.int .i64 0,.int .i64 0,.int .i64 0,.int .i64 0,.int .i64 0,.int .i64 0,.int .i64 0,.slice none 0 0],43),(w3.heap.size,#[.int .i64 (1+(p6:Int)),.int .i64 (1+(p7:Int)),.int .i64 0,.int .i64 (1+(p9:Int)),.int .i64 0,.int .i64 0,.int .i64 0,.int .i64 0,.int .i64 0,.slice none 0 0],43)]):=hd_;have cew5:=(hd_.blk 1 rfl).cell;have few5:=(hd_.blk 1 rfl).free;clear hd_ hg_)
 go_cut [19] (fun _ wx=>Dr w wx g v l (k+1+1+1+1) [(w.heap.size,#[.int .i64 0,.int .i64 0,.int .i64 0,.int .i64 0,.int .i64 0,.int .i64 0,.int .i64 0,.int .i64 0,.int .i64 0,.slice none 0 0],43),(w3.heap.size,#[.int .i64 ki,.int .i64 (1+(p7:Int)),.int .i64 0,.int .i64 (1+(p9:Int)),.int .i64 0,.int .i64 0,.int .i64 0,.int .i64 0,.int .i64 0,.slice none 0 0],43)])
 case first=>
  as_aux_lemma=>
   by_cases c3:p3=0
   ·subst c3
    rw [if_pos rfl] at Hki
    go_wp2_with fail
    go_meet;rw [Hki.out];exact HDw5.out.set 1 rfl 0 (by simp) (.int .i64 5) rfl
   ·rw [if_neg c3] at Hki
    have c4:((p3:Int) == 0)=false:=by rw [beq_eq_false_iff_ne];omega
    go_wp2_with fail
    go_meet;rw [Hki.out];exact HDw5.out
 case rest=>
  have HD5:Hid (Dr w wc g v l (k+1+1+1+1) [(w.heap.size,#[.int .i64 0,.int .i64 0,.int .i64 0,.int .i64 0,.int .i64 0,.int .i64 0,.int .i64 0,.int .i64 0,.int .i64 0,.slice none 0 0],43),(w3.heap.size,#[.int .i64 ki,.int .i64 (1+(p7:Int)),.int .i64 0,.int .i64 (1+(p9:Int)),.int .i64 0,.int .i64 0,.int .i64 0,.int .i64 0,.int .i64 0,.slice none 0 0],43)]):=hcut
  have hki:1<=ki/\ki<=6:=by
   have h:=Hki.out;split at h <;> omega
  obtain ⟨hki1,hki2⟩:=hki;clear hcut Hki HD4 ce4 fe4;have ce5:=(HD5.out.blk 1 rfl).cell;have fe5:=(HD5.out.blk 1 rfl).free
  go_upto_region 4 with fail
  go_cut [28] (fun _ wx=>Dr w wx g v l (k+1+1+1+1+1) [(w.heap.size,#[.int .i64 0,.int .i64 0,.int .i64 0,.int .i64 0,.int .i64 0,.int .i64 0,.int .i64 0,.int .i64 0,.int .i64 0,.slice none 0 0],43),(w3.heap.size,#[.int .i64 ki,.int .i64 (1+(p7:Int)),.int .i64 td,.int .i64 (1+(p9:Int)),.int .i64 0,.int .i64 0,.int .i64 0,.int .i64 0,.int .i64 0,.slice none 0 0],43)])
  case first=>
   as_aux_lemma=>
    have hw1:IntKind.i64.wrap (1+(p7:Int)+(q6:Int))=1+(p7:Int)+(q6:Int):=(by rw [IntKind.wrap_i64];omega);have hw2:(1+(p7:Int)+(q6:Int)).tmod 7=(1+(p7:Int)+(q6:Int))%7:=Int.tmod_eq_emod_of_nonneg (by omega);have hw3:IntKind.i64.wrap (1+(1+(p7:Int)+(q6:Int))%7)=1+(1+(p7:Int)+(q6:Int))%7:=(by rw [IntKind.wrap_i64];omega)
    go_region_with (go_at_call 53;refine (HD5.out.drew.pickG 6 hL (by omega) (by decide) (by decide)).mono ?_;rintro e w6 ⟨rfl,hd_,hg_⟩;rw [<-Hq6.out];have HDw6:Hid (Dr w w6 g v l (k+1+1+1+1+1) [(w.heap.size,#[.int .i64 0,.int .i64 0,.int .i64 0,.int .i64 0,.int .i64 0,.int .i64 0,.int .i64 0,.int .i64 0,.int .i64 0,.slice none 0 0],43),(w3.heap.size,#[.int .i64 ki,.int .i64 (1+(p7:Int)),.int .i64 0,.int .i64 (1+(p9:Int)),.int .i64 0,.int .i64 0,.int .i64 0,.int .i64 0,.int .i64 0,.slice none 0 0],43)]):=hd_;have ce6:=(hd_.blk 1 rfl).cell;have fe6:=(hd_.blk 1 rfl).free;clear hd_ hg_)
    all_goals go_wp2_with fail
    all_goals go_meet
    all_goals (rw [Hto.out];exact HDw6.out.set 1 rfl 2 (by simp) (.int .i64 (1+(1+(p7:Int)+(q6:Int))%7)) rfl)
  case rest=>
   have HD6:Hid (Dr w wc g v l (k+1+1+1+1+1) [(w.heap.size,#[.int .i64 0,.int .i64 0,.int .i64 0,.int .i64 0,.int .i64 0,.int .i64 0,.int .i64 0,.int .i64 0,.int .i64 0,.slice none 0 0],43),(w3.heap.size,#[.int .i64 ki,.int .i64 (1+(p7:Int)),.int .i64 td,.int .i64 (1+(p9:Int)),.int .i64 0,.int .i64 0,.int .i64 0,.int .i64 0,.int .i64 0,.slice none 0 0],43)]):=hcut;have htd:1<=td/\td<=7:=by have h:=Hto.out;omega
   obtain ⟨htd1,htd2⟩:=htd;clear hcut Hto HD5 ce5 fe5;have ce6:=(HD6.out.blk 1 rfl).cell;have fe6:=(HD6.out.blk 1 rfl).free
   go_upto_if 31 with (go_at_call 53;refine (HD6.out.pickG 10 hL (by omega) (by decide) (by decide)).mono ?_;rintro e w7 ⟨rfl,hd_,hg_⟩;rw [<-Hp10.out];have HDw7:Hid (Dr w w7 g v l (k+1+1+1+1+1+1) [(w.heap.size,#[.int .i64 0,.int .i64 0,.int .i64 0,.int .i64 0,.int .i64 0,.int .i64 0,.int .i64 0,.int .i64 0,.int .i64 0,.slice none 0 0],43),(w3.heap.size,#[.int .i64 ki,.int .i64 (1+(p7:Int)),.int .i64 td,.int .i64 (1+(p9:Int)),.int .i64 0,.int .i64 0,.int .i64 0,.int .i64 0,.int .i64 0,.slice none 0 0],43)]):=hd_;have cew7:=(hd_.blk 1 rfl).cell;have few7:=(hd_.blk 1 rfl).free;clear hd_ hg_)
   go_cut [31] (fun _ wx=>Dr w wx g v l k2 [(w.heap.size,#[.int .i64 0,.int .i64 0,.int .i64 0,.int .i64 0,.int .i64 0,.int .i64 0,.int .i64 0,.int .i64 0,.int .i64 0,.slice none 0 0],43),(w3.heap.size,#[.int .i64 ki,.int .i64 (1+(p7:Int)),.int .i64 td,.int .i64 tm,.int .i64 0,.int .i64 0,.int .i64 0,.int .i64 0,.int .i64 0,.slice none 0 0],43)])
   case first=>
    as_aux_lemma=>
     by_cases c10:p10=0
     ·subst c10
      rw [if_pos rfl] at HmT;have hPE:=HmT.out;injection hPE with e1 e2;subst e1 e2
      go_wp2_with (go_at_call 53;refine (HDw7.out.pickG 2 hL (by omega) (by decide) (by decide)).mono ?_;rintro e w8 ⟨rfl,hd_,hg_⟩;rw [<-Hp2.out];have HDw8:Hid (Dr w w8 g v l (k+1+1+1+1+1+1+1) [(w.heap.size,#[.int .i64 0,.int .i64 0,.int .i64 0,.int .i64 0,.int .i64 0,.int .i64 0,.int .i64 0,.int .i64 0,.int .i64 0,.slice none 0 0],43),(w3.heap.size,#[.int .i64 ki,.int .i64 (1+(p7:Int)),.int .i64 td,.int .i64 (1+(p9:Int)),.int .i64 0,.int .i64 0,.int .i64 0,.int .i64 0,.int .i64 0,.slice none 0 0],43)]):=hd_;have cew8:=(hd_.blk 1 rfl).cell;have few8:=(hd_.blk 1 rfl).free;clear hd_ hg_)
      go_meet;exact HDw8.out.set 1 rfl 3 (by simp) (.int .i64 (1073741824-(p2:Int))) rfl
     ·rw [if_neg c10] at HmT
      have hPE:=HmT.out;injection hPE with e1 e2;subst e1 e2;have c11:((p10:Int) == 0)=false:=by rw [beq_eq_false_iff_ne];omega
      go_wp2_with fail
      go_meet;exact HDw7.out
   case rest=>
    have HD7:Hid (Dr w wc g v l k2 [(w.heap.size,#[.int .i64 0,.int .i64 0,.int .i64 0,.int .i64 0,.int .i64 0,.int .i64 0,.int .i64 0,.int .i64 0,.int .i64 0,.slice none 0 0],43),(w3.heap.size,#[.int .i64 ki,.int .i64 (1+(p7:Int)),.int .i64 td,.int .i64 tm,.int .i64 0,.int .i64 0,.int .i64 0,.int .i64 0,.int .i64 0,.slice none 0 0],43)]):=hcut
    have htm:1<=tm/\tm<=1073741824/\k2<=k+7:=by
     have h:=HmT.out;split at h <;> (injection h with e1 e2;omega)
    obtain ⟨htm1,htm2,hk2⟩:=htm;clear hcut HmT HD6 ce6 fe6;have ce7:=(HD7.out.blk 1 rfl).cell;have fe7:=(HD7.out.blk 1 rfl).free;obtain ⟨kb,hkb⟩:∃ kb:Bool,kb=decide (ki=1∨ki=3∨ki=5):=⟨_,rfl⟩;have Hkb:Hid (kb=decide (ki=1∨ki=3∨ki=5)):=hkb;clear hkb
    go_upto_region 7 with fail
    go_cut [48] (fun s48 wx=>s48=.bool kb/\wx=wc)
    case first=>
     as_aux_lemma=>
      rcases (show ki=1∨ki=2∨ki=3∨ki=4∨ki=5∨ki=6 by omega) with q | q | q | q | q | q
      ·have e1:(ki == 1)=true:=by rw [q];rfl
       have e3:(ki == 3)=false:=by rw [q];rfl
       have e5:(ki == 5)=false:=by rw [q];rfl
       have hv_:kb=true:=by rw [Hkb.out];simp [q]
       clear q
       go_wp2_with fail
       go_meet;exact ⟨by rw [hv_],rfl⟩
      ·have e1:(ki == 1)=false:=by rw [q];rfl
       have e3:(ki == 3)=false:=by rw [q];rfl
       have e5:(ki == 5)=false:=by rw [q];rfl
       have hv_:kb=false:=by rw [Hkb.out];simp [q]
       clear q
       go_wp2_with fail
       go_meet;exact ⟨by rw [hv_],rfl⟩
      ·have e1:(ki == 1)=false:=by rw [q];rfl
       have e3:(ki == 3)=true:=by rw [q];rfl
       have e5:(ki == 5)=false:=by rw [q];rfl
       have hv_:kb=true:=by rw [Hkb.out];simp [q]
       clear q
       go_wp2_with fail
       go_meet;exact ⟨by rw [hv_],rfl⟩
      ·have e1:(ki == 1)=false:=by rw [q];rfl
       have e3:(ki == 3)=false:=by rw [q];rfl
       have e5:(ki == 5)=false:=by rw [q];rfl
       have hv_:kb=false:=by rw [Hkb.out];simp [q]
       clear q
       go_wp2_with fail
       go_meet;exact ⟨by rw [hv_],rfl⟩
      ·have e1:(ki == 1)=false:=by rw [q];rfl
       have e3:(ki == 3)=false:=by rw [q];rfl
       have e5:(ki == 5)=true:=by rw [q];rfl
       have hv_:kb=true:=by rw [Hkb.out];simp [q]
       clear q
       go_wp2_with fail
       go_meet;exact ⟨by rw [hv_],rfl⟩
      ·have e1:(ki == 1)=false:=by rw [q];rfl
       have e3:(ki == 3)=false:=by rw [q];rfl
       have e5:(ki == 5)=false:=by rw [q];rfl
       have hv_:kb=false:=by rw [Hkb.out];simp [q]
       clear q
       go_wp2_with fail
       go_meet;exact ⟨by rw [hv_],rfl⟩
    case rest=>
     obtain ⟨rfl,rfl⟩:=hcut
     go_upto_if 48 with fail
     obtain ⟨W7,hW7⟩:∃ W7,W7=wc:=⟨_,rfl⟩;subst hW7
     go_cut [48] (fun _ wx=>Dr w wx g v l k3 [(w.heap.size,#[.int .i64 0,.int .i64 0,.int .i64 0,.int .i64 0,.int .i64 0,.int .i64 0,.int .i64 0,.int .i64 0,.int .i64 0,.slice none 0 0],43),(w3.heap.size,#[.int .i64 ki,.int .i64 (1+(p7:Int)),.int .i64 td,.int .i64 tm,.int .i64 li1,.int .i64 lt,.int .i64 0,.int .i64 0,.int .i64 0,.slice none 0 0],43)])
     case first=>
      as_aux_lemma=>
       have hA:=HA.out;unfold mgA at hA;cases hkv:kb
       ·have hkn:¬(ki=1∨ki=3∨ki=5):=of_decide_eq_false (Hkb.out.symm.trans hkv)
        rw [if_neg hkn] at hA;injection hA with e1 e2;injection e2 with e2 e3;subst e1 e2 e3;have HKV:Hid (kb=false):=hkv;clear hkn
        go_wp2_with fail
        go_meet;exact HD7.out
       ·have hkn:(ki=1∨ki=3∨ki=5):=of_decide_eq_true (Hkb.out.symm.trans hkv)
        rw [if_pos hkn] at hA;obtain ⟨la,lb,kA,hA1⟩:∃ la lb kA,mgA1 l k2 tm=(la,lb,kA):=⟨_,_,_,rfl⟩;rw [hA1] at hA;dsimp only at hA;have HA1:Hid (mgA1 l k2 tm=(la,lb,kA)):=hA1;have HA2:Hid ((if Z5 l kA 12=0 then (4096,tm,kA+1) else (la,lb,kA+1))=(li1,lt,k3)):=hA;clear hA hA1 hkn HA;have bp4:=Zf l k2 4 (by decide);obtain ⟨p4,hp4⟩:∃ p4,p4=Z5 l k2 4:=⟨_,rfl⟩;have Hp4:Hid (p4=Z5 l k2 4):=hp4;rw [<-hp4] at bp4;have bp30:=Zf l (k2+1) 30 (by decide);obtain ⟨p30,hp30⟩:∃ p30,p30=Z5 l (k2+1) 30:=⟨_,rfl⟩;have Hp30:Hid (p30=Z5 l (k2+1) 30):=hp30;rw [<-hp30] at bp30;have bp12:=Zf l kA 12 (by decide);obtain ⟨p12,hp12⟩:∃ p12,p12=Z5 l kA 12:=⟨_,rfl⟩;have Hp12:Hid (p12=Z5 l kA 12):=hp12;rw [<-hp12] at bp12;obtain ⟨pt,hpt⟩:∃ pt,pt=Z5 l (k2+1+1) tm.toNat:=⟨_,rfl⟩;have Hpt:Hid (pt=Z5 l (k2+1+1) tm.toNat):=hpt;have bpt:=Zf l (k2+1+1) tm.toNat (by omega);rw [<-hpt] at bpt;have hkA:=Z2p tm.toNat
        have hkA2:kA<=k2+6:=by
         have h:=HA1.out;unfold mgA1 at h;split at h <;> (injection h with e1 e2;injection e2 with e2 e3;omega)
        clear hpt hp4 hp30 hp12
        have HPT:Hid (∀ u:World,Dr w u g v l (k2+1+1) [(w.heap.size,#[.int .i64 0,.int .i64 0,.int .i64 0,.int .i64 0,.int .i64 0,.int .i64 0,.int .i64 0,.int .i64 0,.int .i64 0,.slice none 0 0],43),(w3.heap.size,#[.int .i64 ki,.int .i64 (1+(p7:Int)),.int .i64 td,.int .i64 tm,.int .i64 (1+(p30:Int)),.int .i64 0,.int .i64 0,.int .i64 0,.int .i64 0,.slice none 0 0],43)]->Calls Tryz.prog 53 #[.pointer (some ⟨g,0,none⟩),.int .i64 tm] u fun e w'=>e=.returned (.int .i64 (pt:Nat))/\Dr w w' g v l (k2+1+1+Zm tm.toNat) [(w.heap.size,#[.int .i64 0,.int .i64 0,.int .i64 0,.int .i64 0,.int .i64 0,.int .i64 0,.int .i64 0,.int .i64 0,.int .i64 0,.slice none 0 0],43),(w3.heap.size,#[.int .i64 ki,.int .i64 (1+(p7:Int)),.int .i64 td,.int .i64 tm,.int .i64 (1+(p30:Int)),.int .i64 0,.int .i64 0,.int .i64 0,.int .i64 0,.slice none 0 0],43)]):=fun u hu=>by
         rw [Hpt.out];have hx:=hu.pick tm.toNat hL (by omega) (by omega) (by omega);rw [show ((tm.toNat:Nat):Int)=tm by omega] at hx;exact hx
        go_upto_if 51 with (go_at_call 53;refine (HD7.out.pickG 4 hL (by omega) (by decide) (by decide)).mono ?_;rintro e w8 ⟨rfl,hd_,hg_⟩;rw [<-Hp4.out];have HDw8:Hid (Dr w w8 g v l (k2+1) [(w.heap.size,#[.int .i64 0,.int .i64 0,.int .i64 0,.int .i64 0,.int .i64 0,.int .i64 0,.int .i64 0,.int .i64 0,.int .i64 0,.slice none 0 0],43),(w3.heap.size,#[.int .i64 ki,.int .i64 (1+(p7:Int)),.int .i64 td,.int .i64 tm,.int .i64 0,.int .i64 0,.int .i64 0,.int .i64 0,.int .i64 0,.slice none 0 0],43)]):=hd_;have cew8:=(hd_.blk 1 rfl).cell;have few8:=(hd_.blk 1 rfl).free;clear hd_ hg_)
        go_cut [51] (fun _ wx=>Dr w wx g v l kA [(w.heap.size,#[.int .i64 0,.int .i64 0,.int .i64 0,.int .i64 0,.int .i64 0,.int .i64 0,.int .i64 0,.int .i64 0,.int .i64 0,.slice none 0 0],43),(w3.heap.size,#[.int .i64 ki,.int .i64 (1+(p7:Int)),.int .i64 td,.int .i64 tm,.int .i64 la,.int .i64 lb,.int .i64 0,.int .i64 0,.int .i64 0,.slice none 0 0],43)])
        case first=>
         have h:=HA1.out;unfold mgA1 at h;rw [<-Hp4.out,<-Hp30.out,<-Hpt.out] at h;by_cases c4:p4=0
         ·subst c4
          rw [if_pos rfl] at h;injection h with e1 e2;injection e2 with e2 e3;subst e1 e2 e3
          go_wp2_with fail
          go_meet;exact HDw8.out
         ·rw [if_neg c4] at h
          injection h with e1 e2;injection e2 with e2 e3;subst e1 e2 e3;have c5:((p4:Int) != 0)=true:=by rw [bne_iff_ne];omega
          have A4:True:=trivial
          go_wp2_with (first
           |(go_at_call 53;clear A4;refine (HDw8.out.pickG 30 hL (by omega) (by decide) (by decide)).mono ?_;rintro e w9 ⟨rfl,hd_,hg_⟩;rw [<-Hp30.out];have HDw9:Hid (Dr w w9 g v l (k2+1+1) [(w.heap.size,#[.int .i64 0,.int .i64 0,.int .i64 0,.int .i64 0,.int .i64 0,.int .i64 0,.int .i64 0,.int .i64 0,.int .i64 0,.slice none 0 0],43),(w3.heap.size,#[.int .i64 ki,.int .i64 (1+(p7:Int)),.int .i64 td,.int .i64 tm,.int .i64 0,.int .i64 0,.int .i64 0,.int .i64 0,.int .i64 0,.slice none 0 0],43)]):=hd_;have cew9:=(hd_.blk 1 rfl).cell;have few9:=(hd_.blk 1 rfl).free;clear hd_ hg_;have HDs9:Hid (Dr w (w9.setCell ⟨w3.heap.size,4,none⟩ (.int .i64 (1+(p30:Int)))) g v l (k2+1+1) [(w.heap.size,#[.int .i64 0,.int .i64 0,.int .i64 0,.int .i64 0,.int .i64 0,.int .i64 0,.int .i64 0,.int .i64 0,.int .i64 0,.slice none 0 0],43),(w3.heap.size,#[.int .i64 ki,.int .i64 (1+(p7:Int)),.int .i64 td,.int .i64 tm,.int .i64 (1+(p30:Int)),.int .i64 0,.int .i64 0,.int .i64 0,.int .i64 0,.slice none 0 0],43)]):=HDw9.out.set 1 rfl 4 (by simp) (.int .i64 (1+(p30:Int))) rfl)
           |(go_at_call 53;refine (HPT.out _ HDs9.out).mono ?_;rintro e w10 ⟨rfl,hd_⟩;have HDw10:Hid (Dr w w10 g v l (k2+1+1+Zm tm.toNat) [(w.heap.size,#[.int .i64 0,.int .i64 0,.int .i64 0,.int .i64 0,.int .i64 0,.int .i64 0,.int .i64 0,.int .i64 0,.int .i64 0,.slice none 0 0],43),(w3.heap.size,#[.int .i64 ki,.int .i64 (1+(p7:Int)),.int .i64 td,.int .i64 tm,.int .i64 (1+(p30:Int)),.int .i64 0,.int .i64 0,.int .i64 0,.int .i64 0,.slice none 0 0],43)]):=hd_;have ce10:=(hd_.blk 1 rfl).cell;have fe10:=(hd_.blk 1 rfl).free;clear hd_))
          go_meet;exact HDw10.out.set 1 rfl 5 (by simp) (.int .i64 (1+(pt:Int))) rfl
        case rest=>
         have HDl:Hid (Dr w wc g v l kA [(w.heap.size,#[.int .i64 0,.int .i64 0,.int .i64 0,.int .i64 0,.int .i64 0,.int .i64 0,.int .i64 0,.int .i64 0,.int .i64 0,.slice none 0 0],43),(w3.heap.size,#[.int .i64 ki,.int .i64 (1+(p7:Int)),.int .i64 td,.int .i64 tm,.int .i64 la,.int .i64 lb,.int .i64 0,.int .i64 0,.int .i64 0,.slice none 0 0],43)]):=hcut;have cel:=(hcut.blk 1 rfl).cell;have fel:=(hcut.blk 1 rfl).free;clear hcut;have h:=HA2.out;rw [<-Hp12.out] at h;by_cases c12:p12=0
         ·subst c12
          rw [if_pos rfl] at h;injection h with e1 e2;injection e2 with e2 e3;subst e1 e2 e3
          go_wp2_with (go_at_call 53;refine (HDl.out.pickG 12 hL (by omega) (by decide) (by decide)).mono ?_;rintro e w11 ⟨rfl,hd_,hg_⟩;rw [<-Hp12.out];have HDw11:Hid (Dr w w11 g v l (kA+1) [(w.heap.size,#[.int .i64 0,.int .i64 0,.int .i64 0,.int .i64 0,.int .i64 0,.int .i64 0,.int .i64 0,.int .i64 0,.int .i64 0,.slice none 0 0],43),(w3.heap.size,#[.int .i64 ki,.int .i64 (1+(p7:Int)),.int .i64 td,.int .i64 tm,.int .i64 la,.int .i64 lb,.int .i64 0,.int .i64 0,.int .i64 0,.slice none 0 0],43)]):=hd_;have cew11:=(hd_.blk 1 rfl).cell;have few11:=(hd_.blk 1 rfl).free;clear hd_ hg_)
          go_meet;exact (HDw11.out.set 1 rfl 4 (by simp) (.int .i64 4096) rfl).set 1 rfl 5 (by simp) (.int .i64 tm) rfl
         ·rw [if_neg c12] at h
          injection h with e1 e2;injection e2 with e2 e3;subst e1 e2 e3;have c13:((p12:Int) == 0)=false:=by rw [beq_eq_false_iff_ne];omega
          go_wp2_with (go_at_call 53;refine (HDl.out.pickG 12 hL (by omega) (by decide) (by decide)).mono ?_;rintro e w11 ⟨rfl,hd_,hg_⟩;rw [<-Hp12.out];have HDw11:Hid (Dr w w11 g v l (kA+1) [(w.heap.size,#[.int .i64 0,.int .i64 0,.int .i64 0,.int .i64 0,.int .i64 0,.int .i64 0,.int .i64 0,.int .i64 0,.int .i64 0,.slice none 0 0],43),(w3.heap.size,#[.int .i64 ki,.int .i64 (1+(p7:Int)),.int .i64 td,.int .i64 tm,.int .i64 la,.int .i64 lb,.int .i64 0,.int .i64 0,.int .i64 0,.slice none 0 0],43)]):=hd_;have cew11:=(hd_.blk 1 rfl).cell;have few11:=(hd_.blk 1 rfl).free;clear hd_ hg_)
          go_meet;exact HDw11.out
     case rest=>
      have HD8:Hid (Dr w wc g v l k3 [(w.heap.size,#[.int .i64 0,.int .i64 0,.int .i64 0,.int .i64 0,.int .i64 0,.int .i64 0,.int .i64 0,.int .i64 0,.int .i64 0,.slice none 0 0],43),(w3.heap.size,#[.int .i64 ki,.int .i64 (1+(p7:Int)),.int .i64 td,.int .i64 tm,.int .i64 li1,.int .i64 lt,.int .i64 0,.int .i64 0,.int .i64 0,.slice none 0 0],43)]):=hcut;have hbd:=mgA_ok l k2 ki tm htm1 htm2;rw [HA.out] at hbd;dsimp only at hbd;obtain ⟨hb1,hb2,hb3,hb4,hb5⟩:=hbd;clear hcut HA HD7 ce7 fe7 Hkb;have ce8:=(HD8.out.blk 1 rfl).cell;have fe8:=(HD8.out.blk 1 rfl).free;have hz8:=HD8.out.lt 1 rfl
      go_upto_if 71 with fail
      go_cut [71] (fun _ wx=>∃ ea ec,Zv wx w.heap.size (.slice ea EN.length ec) EN/\Dr w wx g v l k4 [(w.heap.size,#[.int .i64 0,.int .i64 0,.int .i64 0,.int .i64 0,.int .i64 0,.int .i64 0,.int .i64 0,.int .i64 0,.int .i64 0,.slice none 0 0],43),(w3.heap.size,#[.int .i64 ki,.int .i64 (1+(p7:Int)),.int .i64 td,.int .i64 tm,.int .i64 li1,.int .i64 lt,.int .i64 cm,.int .i64 0,.int .i64 0,.slice ea EN.length ec],43)])
      case first=>
       as_aux_lemma=>
        have h:=HB.out;unfold mgBd at h;by_cases c5:ki=5
        ·rw [if_pos c5] at h
         have c6:(ki == 5)=true:=by rw [c5];rfl
         clear c5;have hn0:=mgN0_ok l (k3+1);obtain ⟨n0,kN,hN0⟩:∃ n0 kN,mgN0 l (k3+1)=(n0,kN):=⟨_,_,rfl⟩;have HN0:Hid (mgN0 l (k3+1)=(n0,kN)):=hN0;obtain ⟨n,hn⟩:∃ n,n=mgN l (k3+1) li1:=⟨_,rfl⟩;have hn2:n=min n0 (4096-li1).toNat:=by rw [hn];unfold mgN;rw [hN0]
         rw [<-hn,hN0] at h;rw [hN0] at hn0;dsimp only at h hn0;have Hn2:Hid (n=min n0 (4096-li1).toNat):=hn2;clear hn hN0 hn2;obtain ⟨q40,hq40⟩:∃ q40,q40=Z5 l k3 40:=⟨_,rfl⟩;have Hq40:Hid (q40=Z5 l k3 40):=hq40;rw [<-hq40] at h;clear hq40;obtain ⟨mx,hmx⟩:∃ mx,mx=max 1 lt:=⟨_,rfl⟩;have Hmx:Hid (mx=max 1 lt):=hmx;have hmx1:1<=mx/\mx<=1073741824:=by omega
         rw [<-hmx] at h;clear hmx;obtain ⟨hmx0,hmxM⟩:=hmx1;have hnb:n<=32:=by have:=Hn2.out;omega
         obtain ⟨D,KD,TD,hDe⟩:∃ D KD TD,Y5 l kN mx n=(D,KD,TD):=⟨_,_,_,rfl⟩;have hDl:=Jb l kN mx n;rw [hDe] at hDl;dsimp only at hDl
         have HEs:Hid (∀(u:World),Src u g v l kN->Calls Tryz.prog 96 #[.pointer (some ⟨g,0,none⟩),.int .i64 n,.int .i64 mx] u fun r w'=>∃ ev,r=.returned ev/\Zv w' u.heap.size ev D/\Src w' g v l KD/\u.grownBy w' (some g)):=fun u hu=>by
          have:=Jo g u v l kN n mx hL (by omega) (by omega) ⟨by omega,hmxM⟩ hu;rw [hDe] at this;exact this
         rw [hDe] at h;clear hDe;injection h with e1 e2;injection e2 with e2 e3;subst e1;have HEN:Hid (EN=D.map (Ja tm)):=e2.symm;have hKD:KD=k4:=e3;subst hKD;clear e2;have A5:True:=trivial
         go_upto_if 79 with (first
          |(go_at_call 53;clear A5;refine (HD8.out.pickG 40 hL (by omega) (by decide) (by decide)).mono ?_;rintro e w15 ⟨rfl,hd_,hg_⟩;rw [<-Hq40.out];have HDw15:Hid (Dr w w15 g v l (k3+1) [(w.heap.size,#[.int .i64 0,.int .i64 0,.int .i64 0,.int .i64 0,.int .i64 0,.int .i64 0,.int .i64 0,.int .i64 0,.int .i64 0,.slice none 0 0],43),(w3.heap.size,#[.int .i64 ki,.int .i64 (1+(p7:Int)),.int .i64 td,.int .i64 tm,.int .i64 li1,.int .i64 lt,.int .i64 0,.int .i64 0,.int .i64 0,.slice none 0 0],43)]):=hd_;have cew15:=(hd_.blk 1 rfl).cell;have few15:=(hd_.blk 1 rfl).free;have HDs15:Hid (Dr w (w15.setCell ⟨w3.heap.size,6,none⟩ (.int .i64 (q40:Int))) g v l (k3+1) [(w.heap.size,#[.int .i64 0,.int .i64 0,.int .i64 0,.int .i64 0,.int .i64 0,.int .i64 0,.int .i64 0,.int .i64 0,.int .i64 0,.slice none 0 0],43),(w3.heap.size,#[.int .i64 ki,.int .i64 (1+(p7:Int)),.int .i64 td,.int .i64 tm,.int .i64 li1,.int .i64 lt,.int .i64 (q40:Int),.int .i64 0,.int .i64 0,.slice none 0 0],43)]):=HDw15.out.set 1 rfl 6 (by simp) (.int .i64 (q40:Int)) rfl;have A6:True:=trivial;obtain ⟨qd,hqd⟩:∃ qd,qd=Z5 l (k3+1) 5:=⟨_,rfl⟩;have Hqd:Hid (qd=Z5 l (k3+1) 5):=hqd;clear hqd;clear hd_ hg_)
          |(go_at_call 53;clear A6;refine (HDs15.out.pickG 5 hL (by omega) (by decide) (by decide)).mono ?_;rintro e w16 ⟨rfl,hd_,hg_⟩;rw [<-Hqd.out];have HDw16:Hid (Dr w w16 g v l (k3+1+1) [(w.heap.size,#[.int .i64 0,.int .i64 0,.int .i64 0,.int .i64 0,.int .i64 0,.int .i64 0,.int .i64 0,.int .i64 0,.int .i64 0,.slice none 0 0],43),(w3.heap.size,#[.int .i64 ki,.int .i64 (1+(p7:Int)),.int .i64 td,.int .i64 tm,.int .i64 li1,.int .i64 lt,.int .i64 (q40:Int),.int .i64 0,.int .i64 0,.slice none 0 0],43)]):=hd_;have cew16:=(hd_.blk 1 rfl).cell;have few16:=(hd_.blk 1 rfl).free;obtain ⟨qe,hqe⟩:∃ qe,qe=Z5 l (k3+1+1) 10:=⟨_,rfl⟩;have Hqe:Hid (qe=Z5 l (k3+1+1) 10):=hqe;clear hqe;clear hd_ hg_)
          |(go_at_call 53;refine (HDw16.out.pickG 10 hL (by omega) (by decide) (by decide)).mono ?_;rintro e w17 ⟨rfl,hd_,hg_⟩;rw [<-Hqe.out];have HDw17:Hid (Dr w w17 g v l (k3+1+1+1) [(w.heap.size,#[.int .i64 0,.int .i64 0,.int .i64 0,.int .i64 0,.int .i64 0,.int .i64 0,.int .i64 0,.int .i64 0,.int .i64 0,.slice none 0 0],43),(w3.heap.size,#[.int .i64 ki,.int .i64 (1+(p7:Int)),.int .i64 td,.int .i64 tm,.int .i64 li1,.int .i64 lt,.int .i64 (q40:Int),.int .i64 0,.int .i64 0,.slice none 0 0],43)]):=hd_;have cew17:=(hd_.blk 1 rfl).cell;have few17:=(hd_.blk 1 rfl).free;clear hd_ hg_))
         go_cut [4] (fun s4 wx=>s4=.int .i64 (n0:Int)/\Dr w wx g v l kN [(w.heap.size,#[.int .i64 0,.int .i64 0,.int .i64 0,.int .i64 0,.int .i64 0,.int .i64 0,.int .i64 0,.int .i64 0,.int .i64 0,.slice none 0 0],43),(w3.heap.size,#[.int .i64 ki,.int .i64 (1+(p7:Int)),.int .i64 td,.int .i64 tm,.int .i64 li1,.int .i64 lt,.int .i64 (q40:Int),.int .i64 0,.int .i64 0,.slice none 0 0],43)])
         case first=>
          have h:=HN0.out;unfold mgN0 at h;rw [<-Hqe.out,<-Hqd.out] at h;by_cases c7:qe=0
          ·subst c7
           rw [if_pos rfl] at h;obtain ⟨qf,hqf⟩:∃ qf,qf=Z5 l (k3+1+1+1) 2:=⟨_,rfl⟩;have Hqf:Hid (qf=Z5 l (k3+1+1+1) 2):=hqf;have bqf:=Zf l (k3+1+1+1) 2 (by decide);rw [<-hqf] at h bqf;clear hqf;injection h with e4 e5;subst e5
           go_wp2_with (go_at_call 53;refine (HDw17.out.pickG 2 hL (by omega) (by decide) (by decide)).mono ?_;rintro e w18 ⟨rfl,hd_,hg_⟩;rw [<-Hqf.out];have HDw18:Hid (Dr w w18 g v l (k3+1+1+1+1) [(w.heap.size,#[.int .i64 0,.int .i64 0,.int .i64 0,.int .i64 0,.int .i64 0,.int .i64 0,.int .i64 0,.int .i64 0,.int .i64 0,.slice none 0 0],43),(w3.heap.size,#[.int .i64 ki,.int .i64 (1+(p7:Int)),.int .i64 td,.int .i64 tm,.int .i64 li1,.int .i64 lt,.int .i64 (q40:Int),.int .i64 0,.int .i64 0,.slice none 0 0],43)]):=hd_;have cew18:=(hd_.blk 1 rfl).cell;have few18:=(hd_.blk 1 rfl).free;clear hd_ hg_)
           go_meet;exact ⟨by rw [<-e4];congr 1;omega,HDw18.out⟩
          ·rw [if_neg c7] at h
           have c8:((qe:Int) == 0)=false:=by rw [beq_eq_false_iff_ne];omega
           injection h with e4 e5;subst e4 e5
           go_wp2_with fail
           go_meet;exact ⟨rfl,HDw17.out⟩
         case rest=>
          obtain ⟨rfl,hcut⟩:=hcut;have HD16:Hid (Dr w wc g v l kN [(w.heap.size,#[.int .i64 0,.int .i64 0,.int .i64 0,.int .i64 0,.int .i64 0,.int .i64 0,.int .i64 0,.int .i64 0,.int .i64 0,.slice none 0 0],43),(w3.heap.size,#[.int .i64 ki,.int .i64 (1+(p7:Int)),.int .i64 td,.int .i64 tm,.int .i64 li1,.int .i64 lt,.int .i64 (q40:Int),.int .i64 0,.int .i64 0,.slice none 0 0],43)]):=hcut;have ce16:=(hcut.blk 1 rfl).cell;have fe16:=(hcut.blk 1 rfl).free;clear hcut;obtain ⟨W16,hW16⟩:∃ W16,W16=wc:=⟨_,rfl⟩;subst hW16
          go_upto_if 87 with fail
          go_cut [4] (fun s4 wx=>s4=.int .i64 (n:Int)/\wx=W16)
          case first=>
           by_cases c7:4096-li1<(n0:Int)
           ·have c8:decide (4096-li1<(n0:Int))=true:=decide_eq_true c7
            go_wp2_with fail
            go_meet;exact ⟨by have:=Hn2.out;congr 1;omega,rfl⟩
           ·have c8:decide (4096-li1<(n0:Int))=false:=decide_eq_false c7
            go_wp2_with fail
            go_meet;exact ⟨by have:=Hn2.out;congr 1;omega,rfl⟩
          case rest=>
           obtain ⟨rfl,rfl⟩:=hcut;have HMX:Hid (∀ u:World,Calls Tryz.prog 94 #[.int .i64 1,.int .i64 lt] u fun e w'=>e=.returned (.int .i64 mx)/\w'=u):=fun u=>by rw [Hmx.out];exact Jm 1 lt u
           go_wp2_with (first
            |(go_at_call 94;refine (HMX.out _).mono ?_;rintro e wm ⟨rfl,hwm⟩;subst wm)
            |(go_at_call 96;refine (HEs.out _ HD16.out.src).mono ?_;rintro e w19 ⟨mv,rfl,ho19,hs19,hg19⟩;have HD19:Hid (Dr w w19 g v l KD [(w.heap.size,#[.int .i64 0,.int .i64 0,.int .i64 0,.int .i64 0,.int .i64 0,.int .i64 0,.int .i64 0,.int .i64 0,.int .i64 0,.slice none 0 0],43),(w3.heap.size,#[.int .i64 ki,.int .i64 (1+(p7:Int)),.int .i64 td,.int .i64 tm,.int .i64 li1,.int .i64 lt,.int .i64 (q40:Int),.int .i64 0,.int .i64 0,.slice none 0 0],43)]):=HD16.out.call hs19 hg19;have HM19:Hid (Zv w19 w.heap.size mv D):=ho19.le HD16.out.size;clear ho19 hs19 hg19))
           subst hDl;obtain ⟨ma,mc,hmv⟩:=HM19.out.shape;subst hmv;clear HEs HD16 ce16 fe16 HN0 Hn2 HMX Hmx HD8 ce8 fe8
           go_loopw [6] (fun iv wr=>∃ i:Nat,i<=D.length/\iv=.int .i64 i/\Zv wr w.heap.size (.slice ma D.length mc) ((D.take i).map (Ja tm) ++ D.drop i)/\Dr w wr g v l KD [(w.heap.size,#[.int .i64 0,.int .i64 0,.int .i64 0,.int .i64 0,.int .i64 0,.int .i64 0,.int .i64 0,.int .i64 0,.int .i64 0,.slice none 0 0],43),(w3.heap.size,#[.int .i64 ki,.int .i64 (1+(p7:Int)),.int .i64 td,.int .i64 tm,.int .i64 li1,.int .i64 lt,.int .i64 (q40:Int),.int .i64 0,.int .i64 0,.slice none 0 0],43)]) (fun i _=>D.length-(intOf i).toNat)
           case atStart=>exact ⟨0,Nat.zero_le _,rfl,by simpa using HM19.out,HD19.out⟩
           case round=>
            obtain ⟨i,hi,rfl,hm,hd⟩:=hrel;have hM1:((D.take i).map (Ja tm) ++ D.drop i).length=D.length:=by rw [List.length_append,List.length_map,List.length_take,List.length_drop];omega
            have HM7:Hid (Zv wr w.heap.size (.slice ma D.length mc) ((D.take i).map (Ja tm) ++ D.drop i)):=hm;have HD20:Hid (Dr w wr g v l KD [(w.heap.size,#[.int .i64 0,.int .i64 0,.int .i64 0,.int .i64 0,.int .i64 0,.int .i64 0,.int .i64 0,.int .i64 0,.int .i64 0,.slice none 0 0],43),(w3.heap.size,#[.int .i64 ki,.int .i64 (1+(p7:Int)),.int .i64 td,.int .i64 tm,.int .i64 li1,.int .i64 lt,.int .i64 (q40:Int),.int .i64 0,.int .i64 0,.slice none 0 0],43)]):=hd;have ce20:=(hd.blk 1 rfl).cell;have fe20:=(hd.blk 1 rfl).free;clear hm hd HD19 HM19;by_cases hlt:i<D.length
            ·have hlt':(i:Int)<(D.length:Int):=by omega
             obtain ⟨q,ha,⟨d0,d1,d2,d3,d4,d5,d6⟩,fz⟩:=Z0u HM7.out hM1.symm (k:=i) (by omega) (by unfold maxLen;omega)
             have hMi:((D.take i).map (Ja tm) ++ D.drop i)[i]'(by omega)=D[i]:=by
              rw [List.getElem_append_right (by simp;omega)];simp [List.length_take,Nat.min_eq_left (Nat.le_of_lt hlt)]
             rw [hMi] at d0;clear d1 d2 d3 d4 d5 d6;subst ha
             have HMS:Hid (∀ y,((D.take i).map (Ja tm) ++ D.drop i).set i y=(D.take i).map (Ja tm) ++ y :: D.drop (i+1)):=fun y=>by
              rw [List.set_append,if_neg (by simp;omega)];congr 1;rw [List.length_map,List.length_take,Nat.min_eq_left (Nat.le_of_lt hlt),Nat.sub_self,List.drop_eq_getElem_cons hlt,List.set_cons_zero]
             have HMN:Hid ((D.take (i+1)).map (Ja tm)=(D.take i).map (Ja tm) ++ [Ja tm D[i]]):=(by rw [List.take_succ_eq_append_getElem hlt,List.map_append];rfl:(D.take (i+1)).map (Ja tm)=(D.take i).map (Ja tm) ++ [Ja tm D[i]]);obtain ⟨y,hy⟩:∃ y,y=D[i]:=⟨_,rfl⟩;rw [<-hy] at d0 HMN;have HY:Hid (D.drop i=y :: D.drop (i+1)):=(by rw [hy];exact List.drop_eq_getElem_cons hlt:D.drop i=y :: D.drop (i+1));have HYM:Hid (Xm tm (((D.take i).map (Ja tm) ++ D.drop i)[i]'(by omega))=Xm tm y):=(by rw [hMi,hy]:Xm tm (((D.take i).map (Ja tm) ++ D.drop i)[i]'(by omega))=Xm tm y);clear hMi hy
             go_upto_region 25 with fail
             go_cut [110] (fun s110 wx=>s110=.bool (decide (tm<y.t))/\∃ nq,wx=wr.drewN nq)
             case first=>
              go_quiet (fail)
              go_wp2;go_meet;exact ⟨rfl,_,rfl⟩
             case rest=>
              obtain ⟨rfl,nq,rfl⟩:=hcut;have HMA:Hid (Zv (wr.drewN nq) w.heap.size (.slice (some ⟨q,0,none⟩) D.length mc) ((D.take i).map (Ja tm) ++ D.drop i)):=HM7.out.below ⟨rfl,rfl,rfl,Nat.le_refl _,fun _ _=>rfl⟩;have HDA:Hid (Dr w (wr.drewN nq) g v l KD [(w.heap.size,#[.int .i64 0,.int .i64 0,.int .i64 0,.int .i64 0,.int .i64 0,.int .i64 0,.int .i64 0,.int .i64 0,.int .i64 0,.slice none 0 0],43),(w3.heap.size,#[.int .i64 ki,.int .i64 (1+(p7:Int)),.int .i64 td,.int .i64 tm,.int .i64 li1,.int .i64 lt,.int .i64 (q40:Int),.int .i64 0,.int .i64 0,.slice none 0 0],43)]):=HD20.out.drewN nq;by_cases cT:tm<y.t
              ·have cT':decide (tm<y.t)=true:=by simpa using cT
               have HCL:Hid (Ja tm y=Xm tm y):=(by unfold Ja;rw [if_pos cT]:Ja tm y=Xm tm y)
               go_wp2_with fail
               go_roundw
               case rel=>
                have hMM:=HMA.out.setT hM1.symm i (by omega) tm;rw [HYM.out,HMS.out,<-HCL.out] at hMM;have hox:=HMA.out.2;rw [hM1] at hox;have hst:=(hox.stored (i*7) (.int .i64 tm)).2;refine ⟨i+1,by omega,by go_num,by rw [HMN.out,List.append_assoc];exact hMM,HDA.out.grew (u:=.slice (some ⟨q,0,none⟩) D.length mc) (u':=.slice (some ⟨q,0,none⟩) D.length mc) ⟨hst,.inl rfl⟩ (fun q' hq'=>(HMA.out.2.lt q' hq').1) ?_⟩;intro x hx;simp only [List.mem_cons,List.not_mem_nil,or_false] at hx;rcases hx with rfl | rfl
                ·exact ownsRow.neBlk HMA.out.2 (HDA.out.blk 0 rfl) (by decide)
                ·exact ownsRow.neBlk HMA.out.2 (HDA.out.blk 1 rfl) (by decide)
               case measure=>simp [intOf];omega
              ·have cT':decide (tm<y.t)=false:=by simpa using cT
               have HCL:Hid (Ja tm y=y):=(by unfold Ja;rw [if_neg cT]:Ja tm y=y)
               go_wp2_with fail
               go_roundw
               case rel=>exact ⟨i+1,by omega,by go_num,by rw [HMN.out,List.append_assoc,HCL.out];rw [HY.out] at HMA;exact HMA.out,HDA.out⟩
               case measure=>simp [intOf];omega
            ·obtain rfl:i=D.length:=by omega
             have hel:EN.length=D.length:=by rw [HEN.out,List.length_map]
             have Hel:Hid (EN.length=D.length):=hel;clear hel
             go_wp2_with fail
             go_meet;refine ⟨ma,mc,?_,?_⟩
             ·have hm:=HM7.out
              rw [List.take_length,List.drop_length,List.append_nil,<-HEN.out] at hm;rw [Hel.out];exact Z08 hm (HD20.out.blk 1 rfl) (by decide) (Z07 _ _ _ _)
             ·rw [Hel.out]
              exact HD20.out.set 1 rfl 9 (by simp) (.slice ma D.length mc) rfl
        ·rw [if_neg c5] at h
         have c6:(ki == 5)=false:=by rw [beq_eq_false_iff_ne];exact c5
         injection h with e1 e2;injection e2 with e2 e3;subst e1 e2 e3
         go_wp2_with fail
         go_meet;exact ⟨none,0,Zv.nil _ _,HD8.out⟩
      case rest=>
       obtain ⟨ea,ec,hoe,hcut⟩:=hcut;obtain ⟨en,hen⟩:∃ en,en=EN.length:=⟨_,rfl⟩;rw [<-hen] at hoe hcut;have Hen:Hid (en=EN.length):=hen;have HOE:Hid (Zv wc w.heap.size (.slice ea en ec) EN):=hoe;have HD9:Hid (Dr w wc g v l k4 [(w.heap.size,#[.int .i64 0,.int .i64 0,.int .i64 0,.int .i64 0,.int .i64 0,.int .i64 0,.int .i64 0,.int .i64 0,.int .i64 0,.slice none 0 0],43),(w3.heap.size,#[.int .i64 ki,.int .i64 (1+(p7:Int)),.int .i64 td,.int .i64 tm,.int .i64 li1,.int .i64 lt,.int .i64 cm,.int .i64 0,.int .i64 0,.slice ea en ec],43)]):=hcut;have hk4:=mgB_k l k3 ki tm li1 lt;rw [HB.out] at hk4;dsimp only at hk4;clear hcut hoe hen HB HD8 ce8 fe8;have ce9:=(HD9.out.blk 1 rfl).cell;have fe9:=(HD9.out.blk 1 rfl).free;obtain ⟨kc,hkc⟩:∃ kc:Bool,kc=decide (ki=2∨ki=4∨ki=6):=⟨_,rfl⟩;have Hkc:Hid (kc=decide (ki=2∨ki=4∨ki=6)):=hkc;clear hkc
       go_upto_region 28 with fail
       go_cut [131] (fun s131 wx=>s131=.bool kc/\wx=wc)
       case first=>
        as_aux_lemma=>
         rcases (show ki=1∨ki=2∨ki=3∨ki=4∨ki=5∨ki=6 by omega) with q | q | q | q | q | q
         ·have e2:(ki == 2)=false:=by rw [q];rfl
          have e4:(ki == 4)=false:=by rw [q];rfl
          have e6:(ki == 6)=false:=by rw [q];rfl
          have hv_:kc=false:=by rw [Hkc.out];simp [q]
          clear q
          go_wp2_with fail
          go_meet;exact ⟨by rw [hv_],rfl⟩
         ·have e2:(ki == 2)=true:=by rw [q];rfl
          have e4:(ki == 4)=false:=by rw [q];rfl
          have e6:(ki == 6)=false:=by rw [q];rfl
          have hv_:kc=true:=by rw [Hkc.out];simp [q]
          clear q
          go_wp2_with fail
          go_meet;exact ⟨by rw [hv_],rfl⟩
         ·have e2:(ki == 2)=false:=by rw [q];rfl
          have e4:(ki == 4)=false:=by rw [q];rfl
          have e6:(ki == 6)=false:=by rw [q];rfl
          have hv_:kc=false:=by rw [Hkc.out];simp [q]
          clear q
          go_wp2_with fail
          go_meet;exact ⟨by rw [hv_],rfl⟩
         ·have e2:(ki == 2)=false:=by rw [q];rfl
          have e4:(ki == 4)=true:=by rw [q];rfl
          have e6:(ki == 6)=false:=by rw [q];rfl
          have hv_:kc=true:=by rw [Hkc.out];simp [q]
          clear q
          go_wp2_with fail
          go_meet;exact ⟨by rw [hv_],rfl⟩
         ·have e2:(ki == 2)=false:=by rw [q];rfl
          have e4:(ki == 4)=false:=by rw [q];rfl
          have e6:(ki == 6)=false:=by rw [q];rfl
          have hv_:kc=false:=by rw [Hkc.out];simp [q]
          clear q
          go_wp2_with fail
          go_meet;exact ⟨by rw [hv_],rfl⟩
         ·have e2:(ki == 2)=false:=by rw [q];rfl
          have e4:(ki == 4)=false:=by rw [q];rfl
          have e6:(ki == 6)=true:=by rw [q];rfl
          have hv_:kc=true:=by rw [Hkc.out];simp [q]
          clear q
          go_wp2_with fail
          go_meet;exact ⟨by rw [hv_],rfl⟩
       case rest=>
        obtain ⟨rfl,rfl⟩:=hcut;obtain ⟨W9,hW9⟩:∃ W9,W9=wc:=⟨_,rfl⟩;subst hW9
        go_upto_if 131 with fail
        go_cut [131] (fun _ wx=>Zv wx w.heap.size (.slice ea en ec) EN/\Dr w wx g v l k5 [(w.heap.size,#[.int .i64 0,.int .i64 0,.int .i64 0,.int .i64 0,.int .i64 0,.int .i64 0,.int .i64 0,.int .i64 0,.int .i64 0,.slice none 0 0],43),(w3.heap.size,#[.int .i64 ki,.int .i64 (1+(p7:Int)),.int .i64 td,.int .i64 tm,.int .i64 li1,.int .i64 lt,.int .i64 cm,.int .i64 ok,.int .i64 0,.slice ea en ec],43)])
        case first=>
         as_aux_lemma=>
          have h:=HC.out;unfold mgCd at h;cases hkv:kc
          ·have hkn:¬(ki=2∨ki=4∨ki=6):=of_decide_eq_false (Hkc.out.symm.trans hkv)
           rw [if_neg hkn] at h;injection h with e1 e2;subst e1 e2;clear hkn
           go_wp2_with fail
           go_meet;exact ⟨HOE.out,HD9.out⟩
          ·have hkn:(ki=2∨ki=4∨ki=6):=of_decide_eq_true (Hkc.out.symm.trans hkv)
           rw [if_pos hkn] at h;clear hkn;obtain ⟨po,hpo⟩:∃ po,po=Z5 l k4 2:=⟨_,rfl⟩;have Hpo:Hid (po=Z5 l k4 2):=hpo;rw [<-hpo] at h;clear hpo;injection h with e1 e2;subst e1 e2
           go_wp2_with (go_at_call 53;refine (HD9.out.pickG 2 hL (by omega) (by decide) (by decide)).mono ?_;rintro e w12 ⟨rfl,hd_,hg_⟩;rw [<-Hpo.out];have HDw12:Hid (Dr w w12 g v l (k4+1) [(w.heap.size,#[.int .i64 0,.int .i64 0,.int .i64 0,.int .i64 0,.int .i64 0,.int .i64 0,.int .i64 0,.int .i64 0,.int .i64 0,.slice none 0 0],43),(w3.heap.size,#[.int .i64 ki,.int .i64 (1+(p7:Int)),.int .i64 td,.int .i64 tm,.int .i64 li1,.int .i64 lt,.int .i64 cm,.int .i64 0,.int .i64 0,.slice ea en ec],43)]):=hd_;have HOo:Hid (Zv w12 w.heap.size (.slice ea en ec) EN):=HOE.out.grown hg_ hg0;have cew12:=(hd_.blk 1 rfl).cell;have few12:=(hd_.blk 1 rfl).free;clear hd_ hg_)
           go_meet;exact ⟨Z08 HOo.out (HDw12.out.blk 1 rfl) (by decide) (Z07 _ _ _ _),HDw12.out.set 1 rfl 7 (by simp) (.int .i64 (po:Int)) rfl⟩
        case rest=>
         obtain ⟨hoe,hcut⟩:=hcut;have HO10:Hid (Zv wc w.heap.size (.slice ea en ec) EN):=hoe;have HD10:Hid (Dr w wc g v l k5 [(w.heap.size,#[.int .i64 0,.int .i64 0,.int .i64 0,.int .i64 0,.int .i64 0,.int .i64 0,.int .i64 0,.int .i64 0,.int .i64 0,.slice none 0 0],43),(w3.heap.size,#[.int .i64 ki,.int .i64 (1+(p7:Int)),.int .i64 td,.int .i64 tm,.int .i64 li1,.int .i64 lt,.int .i64 cm,.int .i64 ok,.int .i64 0,.slice ea en ec],43)]):=hcut
         have hk5:k5<=k4+1/\0<=ok/\ok<=1:=by
          have h:=HC.out;have h1:=Zf l k4 2 (by omega);unfold mgCd at h;split at h <;> (injection h with e1 e2;omega)
         obtain ⟨hk5a,hok0,hok1⟩:=hk5;clear hcut hoe HC HD9 HOE ce9 fe9 Hkc;have ce10:=(HD10.out.blk 1 rfl).cell;have fe10:=(HD10.out.blk 1 rfl).free
         go_upto_if 137 with fail
         go_cut [137] (fun _ wx=>Zv wx w.heap.size (.slice ea en ec) EN/\Dr w wx g v l k6 [(w.heap.size,#[.int .i64 0,.int .i64 0,.int .i64 0,.int .i64 0,.int .i64 0,.int .i64 0,.int .i64 0,.int .i64 0,.int .i64 0,.slice none 0 0],43),(w3.heap.size,#[.int .i64 ki,.int .i64 (1+(p7:Int)),.int .i64 td,.int .i64 tm,.int .i64 li,.int .i64 lt,.int .i64 cm,.int .i64 ok,.int .i64 hi,.slice ea en ec],43)])
         case first=>
          as_aux_lemma=>
           have h:=HD.out;unfold mgD at h;by_cases c6:ki=6
           ·rw [if_pos c6] at h
            have c7:(ki == 6)=true:=by rw [c6];rfl
            clear c6;obtain ⟨pa,hpa⟩:∃ pa,pa=Z5 l k5 40:=⟨_,rfl⟩;have Hpa:Hid (pa=Z5 l k5 40):=hpa;obtain ⟨pb,hpb⟩:∃ pb,pb=Z5 l (k5+1) 40:=⟨_,rfl⟩;have Hpb:Hid (pb=Z5 l (k5+1) 40):=hpb;rw [<-hpa,<-hpb] at h;clear hpa hpb;have A7:True:=trivial;by_cases c8:ok=0
            ·rw [if_pos c8,if_pos c8] at h
             have c9:(ok == 0)=true:=by rw [c8];rfl
             clear c8;injection h with e1 e2;injection e2 with e2 e3;subst e1 e2 e3
             go_wp2_with (first
              |(go_at_call 53;clear A7;refine (HD10.out.pickG 40 hL (by omega) (by decide) (by decide)).mono ?_;rintro e w13 ⟨rfl,hd_,hg_⟩;rw [<-Hpa.out];have HDw13:Hid (Dr w w13 g v l (k5+1) [(w.heap.size,#[.int .i64 0,.int .i64 0,.int .i64 0,.int .i64 0,.int .i64 0,.int .i64 0,.int .i64 0,.int .i64 0,.int .i64 0,.slice none 0 0],43),(w3.heap.size,#[.int .i64 ki,.int .i64 (1+(p7:Int)),.int .i64 td,.int .i64 tm,.int .i64 li1,.int .i64 lt,.int .i64 cm,.int .i64 ok,.int .i64 0,.slice ea en ec],43)]):=hd_;have HOa:Hid (Zv w13 w.heap.size (.slice ea en ec) EN):=HO10.out.grown hg_ hg0;have cew13:=(hd_.blk 1 rfl).cell;have few13:=(hd_.blk 1 rfl).free;have HDs13:Hid (Dr w (w13.setCell ⟨w3.heap.size,4,none⟩ (.int .i64 (pa:Int))) g v l (k5+1) [(w.heap.size,#[.int .i64 0,.int .i64 0,.int .i64 0,.int .i64 0,.int .i64 0,.int .i64 0,.int .i64 0,.int .i64 0,.int .i64 0,.slice none 0 0],43),(w3.heap.size,#[.int .i64 ki,.int .i64 (1+(p7:Int)),.int .i64 td,.int .i64 tm,.int .i64 (pa:Int),.int .i64 lt,.int .i64 cm,.int .i64 ok,.int .i64 0,.slice ea en ec],43)]):=HDw13.out.set 1 rfl 4 (by simp) (.int .i64 (pa:Int)) rfl;have HOs13:Hid (Zv (w13.setCell ⟨w3.heap.size,4,none⟩ (.int .i64 (pa:Int))) w.heap.size (.slice ea en ec) EN):=Z08 HOa.out (HDw13.out.blk 1 rfl) (by decide) (Z07 _ _ _ _);clear hd_ hg_)
              |(go_at_call 53;refine (HDs13.out.pickG 40 hL (by omega) (by decide) (by decide)).mono ?_;rintro e w14 ⟨rfl,hd_,hg_⟩;rw [<-Hpb.out];have HDw14:Hid (Dr w w14 g v l (k5+1+1) [(w.heap.size,#[.int .i64 0,.int .i64 0,.int .i64 0,.int .i64 0,.int .i64 0,.int .i64 0,.int .i64 0,.int .i64 0,.int .i64 0,.slice none 0 0],43),(w3.heap.size,#[.int .i64 ki,.int .i64 (1+(p7:Int)),.int .i64 td,.int .i64 tm,.int .i64 (pa:Int),.int .i64 lt,.int .i64 cm,.int .i64 ok,.int .i64 0,.slice ea en ec],43)]):=hd_;have HOb:Hid (Zv w14 w.heap.size (.slice ea en ec) EN):=HOs13.out.grown hg_ hg0;have cew14:=(hd_.blk 1 rfl).cell;have few14:=(hd_.blk 1 rfl).free;clear hd_ hg_))
             go_meet;exact ⟨Z08 HOb.out (HDw14.out.blk 1 rfl) (by decide) (Z07 _ _ _ _),HDw14.out.set 1 rfl 8 (by simp) (.int .i64 (pb:Int)) rfl⟩
            ·rw [if_neg c8,if_neg c8] at h
             have c9:(ok == 0)=false:=by rw [beq_eq_false_iff_ne];exact c8
             injection h with e1 e2;injection e2 with e2 e3;subst e1 e2 e3
             go_wp2_with (first
              |(go_at_call 53;clear A7;refine (HD10.out.pickG 40 hL (by omega) (by decide) (by decide)).mono ?_;rintro e w13 ⟨rfl,hd_,hg_⟩;rw [<-Hpa.out];have HDw13:Hid (Dr w w13 g v l (k5+1) [(w.heap.size,#[.int .i64 0,.int .i64 0,.int .i64 0,.int .i64 0,.int .i64 0,.int .i64 0,.int .i64 0,.int .i64 0,.int .i64 0,.slice none 0 0],43),(w3.heap.size,#[.int .i64 ki,.int .i64 (1+(p7:Int)),.int .i64 td,.int .i64 tm,.int .i64 li1,.int .i64 lt,.int .i64 cm,.int .i64 ok,.int .i64 0,.slice ea en ec],43)]):=hd_;have HOa:Hid (Zv w13 w.heap.size (.slice ea en ec) EN):=HO10.out.grown hg_ hg0;have cew13:=(hd_.blk 1 rfl).cell;have few13:=(hd_.blk 1 rfl).free;have HDs13:Hid (Dr w (w13.setCell ⟨w3.heap.size,4,none⟩ (.int .i64 (pa:Int))) g v l (k5+1) [(w.heap.size,#[.int .i64 0,.int .i64 0,.int .i64 0,.int .i64 0,.int .i64 0,.int .i64 0,.int .i64 0,.int .i64 0,.int .i64 0,.slice none 0 0],43),(w3.heap.size,#[.int .i64 ki,.int .i64 (1+(p7:Int)),.int .i64 td,.int .i64 tm,.int .i64 (pa:Int),.int .i64 lt,.int .i64 cm,.int .i64 ok,.int .i64 0,.slice ea en ec],43)]):=HDw13.out.set 1 rfl 4 (by simp) (.int .i64 (pa:Int)) rfl;have HOs13:Hid (Zv (w13.setCell ⟨w3.heap.size,4,none⟩ (.int .i64 (pa:Int))) w.heap.size (.slice ea en ec) EN):=Z08 HOa.out (HDw13.out.blk 1 rfl) (by decide) (Z07 _ _ _ _);clear hd_ hg_))
             go_meet;exact ⟨Z08 HOa.out (HDw13.out.blk 1 rfl) (by decide) (Z07 _ _ _ _),HDs13.out⟩
           ·rw [if_neg c6] at h
            have c7:(ki == 6)=false:=by rw [beq_eq_false_iff_ne];exact c6
            injection h with e1 e2;injection e2 with e2 e3;subst e1 e2 e3
            go_wp2_with fail
            go_meet;exact ⟨HO10.out,HD10.out⟩
         case rest=>
          obtain ⟨hoe,hcut⟩:=hcut;have HO11:Hid (Zv wc w.heap.size (.slice ea en ec) EN):=hoe;have HD11:Hid (Dr w wc g v l k6 [(w.heap.size,#[.int .i64 0,.int .i64 0,.int .i64 0,.int .i64 0,.int .i64 0,.int .i64 0,.int .i64 0,.int .i64 0,.int .i64 0,.slice none 0 0],43),(w3.heap.size,#[.int .i64 ki,.int .i64 (1+(p7:Int)),.int .i64 td,.int .i64 tm,.int .i64 li,.int .i64 lt,.int .i64 cm,.int .i64 ok,.int .i64 hi,.slice ea en ec],43)]):=hcut;clear hcut hoe HD HD10 HO10 ce10 fe10
          go_wp2_with (first
           |(have hBA:=HD11;refine Zw 43 (.tmp 3) rfl ?_;clear hBA;refine Zk rfl 43 (.tmp 3) rfl (w3.heap.size) rfl (HD11.out.blk 1 rfl) Tryz.underlying43 rfl Z2n rfl ?_)
           |(have hBA:=HD11;refine Y2 43 (.tmp 2) _ rfl ?_;clear hBA;refine Y1 rfl 43 (.tmp 2) _ rfl (w.heap.size) rfl rfl (HD11.out.blk 0 rfl) Z2n rfl rfl (by simp [Value.oneCell']) ?_))
          have hR:=HD11.out.row 0 rfl #[.int .i64 ki,.int .i64 (1+(p7:Int)),.int .i64 td,.int .i64 tm,.int .i64 li,.int .i64 lt,.int .i64 cm,.int .i64 ok,.int .i64 hi,.slice ea en ec] (Yd rfl);have hO:=HO11.out.block (w':=wc.setRow w.heap.size #[.int .i64 ki,.int .i64 (1+(p7:Int)),.int .i64 td,.int .i64 tm,.int .i64 li,.int .i64 lt,.int .i64 cm,.int .i64 ok,.int .i64 hi,.slice ea en ec]) (fun q hq=>setRow_other wc w.heap.size q #[.int .i64 ki,.int .i64 (1+(p7:Int)),.int .i64 td,.int .i64 tm,.int .i64 li,.int .i64 lt,.int .i64 cm,.int .i64 ok,.int .i64 hi,.slice ea en ec] (fun e=>ownsRow.neBlk HO11.out.2 (HD11.out.blk 0 rfl) (by decide) (by rw [hq,e])));exact bodyPost_ret (Y9 Tryz.results95 rfl (hR.blk 0 rfl) Tryz.underlying43 rfl Z2n rfl) rfl ⟨ea,ec,by rw [<-Hen.out],by rw [<-Hen.out];exact hO,hR.src,hR.grown⟩
end Go.Proofs.YtmmpoppgabadmaaGreat
