import Derived.Test.YtmmpoppgabadmaaGreatG02
import Derived.Deep.DeepCutAuto
set_option linter.unusedVariables false
set_option linter.unusedSimpArgs false
set_option maxRecDepth 100000
set_option maxHeartbeats 16000000
open Go.Value renaming slice → I,int → Aa,pointer → Ae,agg → Aw
open Go.IntKind renaming i64 → O
open _root_.Option renaming none → Ab,some → Ac
open Go.Proofs.Tryz renaming prog → Ad
open Go renaming World → Ag,Calls → Ar,results_none → Au,TypeId → Ax,bodyPost_ret → A8
open Go.RowKit renaming Hid → Ah,Below → Ai,intOf → B0
open Go.Ending renaming returned → Aj
open Go.RowKit.Below renaming refl → An
open _root_.Nat renaming le_refl → Ao,le_trans → Ap,le_of_lt → Be
open _root_.List renaming getElem?_eq_getElem → As,length_append → Bc,setIfInBounds_toArray → Bj,set_cons_succ → Bt,set_cons_zero → By
open Go.Exit renaming inBlock → Av
namespace Go.Proofs.YtmmpoppgabadmaaGreat
open Go.Proofs.Tryz
open Go.RowKit
section
structure BW (W:Ag) where
 w:Ag
 h:Ai W.heap.size W w
theorem rqx {i:Nat}{Q:Exit->Act->Ag->Prop}{a:Act}{W:Ag}{l:List Oper}(h:wpQuiet Ad l.toArray (λw'=>∃ u:BW W,w'=u.w) (λa'=>∀ w',Ai W.heap.size W w'->Q .normal a' w') l a)(c:Region.lexB .any l.toArray=true:=by kernel_rfl):(Code.region i l.toArray true).wp Ad Q a W:=by
 refine wp_region_quiet (C:=λw'=>∃ u:BW W,w'=u.w) (by kernel_rfl) c ⟨⟨_,(An _ _).drew⟩,rfl⟩ ?_;rw [List.toList_toArray]
 have e:(λa'=>∀ w',(∃ u:BW W,w'=u.w)->Q .normal a' w')=(λa'=>∀ w',Ai W.heap.size W w'->Q .normal a' w'):=by
  funext a';exact propext ⟨λh w' b=>h w' ⟨⟨w',b⟩,rfl⟩,λh w' ⟨u,b⟩=>h w' (b▸u.h)⟩
 rw [e];exact h
theorem rlx {i:Nat}{Q:Exit->Act->Ag->Prop}{a:Act}{W:Ag}{l:List Oper}{z:Oper}(h:wpQuiet Ad l.toArray (λw'=>∃ u:BW W,w'=u.w) (λb=>∀ w',Ai W.heap.size W w'->z.wp Ad b w' (λc d=>Q .normal c d) Q) l.dropLast a)(c:l.toArray[l.toArray.size-1]? = Ac z:=by exact rfl)(d:lastB l.toArray z=true:=by kernel_rfl):(Code.region i l.toArray true).wp Ad Q a W:=by
 refine Y6 (C:=λw'=>∃ u:BW W,w'=u.w) z (by kernel_rfl) c d ⟨⟨_,(An _ _).drew⟩,rfl⟩ ?_
 have e:(λb=>∀ w',(∃ u:BW W,w'=u.w)->z.wp Ad b w' (λc d=>Q .normal c d) Q)=(λb=>∀ w',Ai W.heap.size W w'->z.wp Ad b w' (λc d=>Q .normal c d) Q):=by
  funext b;exact propext ⟨λh w' b=>h w' ⟨⟨w',b⟩,rfl⟩,λh w' ⟨u,b⟩=>h w' (b▸u.h)⟩
 rw [e];exact h
theorem bwx {P:Program}{f:Nat}{A:Array Value}{W:Ag}{u:BW W}{v:Value}(h:Ar P f A u.w λe w'=>e=.returned v/\Ai u.w.heap.size u.w w'):Ar P f A u.w λe w'=>e=.returned v/\∃ u:BW W,w'=u.w:=h.mono λ_ w' ⟨a,b⟩=>⟨a,⟨w',u.h.trans (b.mono u.h.size)⟩,rfl⟩
variable {w:Ag}{b:Nat}{r:Rn}
theorem Z1s {B:Nat}{x:RV}(h:Ze w B b r x):Sem.run Ad (loadVar 36 ⟨b,0,Ab⟩) w=.ok (Aw (ndC r.n x)) w:=
 run_loadVar_mid w b 0 36 (ndC r.n x).toList _ h.nodeRange underlying36 rfl (by rw [Z0q];rfl)
variable {C:Array Value}
theorem Z0e {t:Ax}(h:Blk w b C t)(ty:Ax){d:TypeDesc}(a:Tryz.prog.underlying ty=Ac d)(hd:d.isRow=true)(hi:(Tryz.prog.info? ty).map (·.size)=Ac C.size):Sem.run Ad (loadVar ty ⟨b,0,Ab⟩) w=.ok (Aw C) w:=
 run_loadVar_mid w b 0 ty C.toList d h.range a hd (by rw [hi];simp)
theorem Jp {P:Program}{W:Ag}{o:Oper}{a:Act}{K:Act->Prop}{c:Addr}{v:Value}(ty:Ax)(y:Operand)(e:o.op=.load ty y)(g:a.eval y=Ae (Ac c))(d:∀ u:BW W,Sem.run P (loadVar ty c) u.w=.ok v u.w)(f:K (a.put o.dst v)):o.quiet P a (λw'=>∃ u:BW W,w'=u.w) K:=by
 refine ⟨v,?_,f⟩;rintro w' ⟨u,rfl⟩;unfold Oper.quietAt execOp;simp only [e,g,Instr.loadAt,Instr.sureAddr,Sem.run_bind,Sem.run_pure,Result.andThen_ok,d u];exact ⟨rfl,rfl⟩
theorem Blk.grown {w':Ag}{q:Nat}{t:Ax}(a:Blk w q C t)(d:w.grownBy w' (Ac b))(c:q≠b:=by omega):Blk w' q C t:=by
 have e9:=d.block q a.lt (λe=>c (Option.some.inj e));unfold Blk at a ⊢;rw [e9];exact a
theorem adopt_n (r:Rn)(t:Int):(r.adopt t).n.id=r.n.id/\(r.adopt t).n.sz=r.n.sz/\(r.adopt t).n.el=r.n.el/\(r.adopt t).n.bt=r.n.bt/\(r.adopt t).n.tm=t/\(r.adopt t).n.vo=0/\(r.adopt t).n.ro=0/\(r.adopt t).n.ld=0/\(r.adopt t).n.cm=r.n.cm/\(r.adopt t).n.nw=r.n.nw/\(r.adopt t).n.hd=r.n.hd/\(r.adopt t).n.log=r.n.log/\(r.adopt t).out=r.out/\(r.adopt t).draw=r.draw/\(r.adopt t).code=r.code:=by
 unfold Rn.adopt;split <;> exact ⟨rfl,rfl,rfl,rfl,rfl,rfl,rfl,rfl,rfl,rfl,rfl,rfl,rfl,rfl,rfl⟩
theorem NdB.adopt (h:NdB r.n)(t:Int):NdB (r.adopt t).n:=by
 obtain ⟨a,e2,e3,e4,-,-,-,-,e9,e10,e11,e12,-⟩:=adopt_n r t;exact ⟨e10▸h.nw0,e10▸h.nw1,e11▸h.hd0,by rw [e11,e10];exact h.hd1,e2▸h.sz0,e2▸h.sz1,a▸h.id0,by rw [a,e2];exact h.id1,e12▸h.ln⟩
theorem NdB.higher (h:NdB r.n)(t:Int):NdB (r.higher t).n:=by
 unfold Rn.higher;split
 ·exact h.adopt t
 ·exact h
theorem Z2q (r:Rn)(t:Int):(r.higher t).draw=r.draw:=by
 unfold Rn.higher;split
 ·exact (adopt_n r t).2.2.2.2.2.2.2.2.2.2.2.2.2.1
 ·rfl
end
def vaB (n:Nd)(m:Mg):Bool:=(m.tm == n.tm) && ((n.vo == 0) || (n.vo == m.fr)) && utd n.log m
theorem vaB_iff (n:Nd)(m:Mg):vaB n m=true↔m.tm=n.tm/\(n.vo=0∨n.vo=m.fr)/\utd n.log m=true:=by
 unfold vaB;simp [and_assoc]
theorem l4voteAsk_any (b:Nat)(r:Rn)(x:RV)(m:Mg)(ea:Option Addr)(en ec:Nat)(w:Ag)(B:Nat)(h:Ze w B b r x)(hb:NdB r.n)(hd : -(2^63)<=r.draw)(hD:r.draw<2^63)(hl:x.L.length<=1000) :
  Ar Ad 121 #[Ae (Ac ⟨b,0,Ab⟩),Aw (m.arrC (I ea en ec))] w λe w'=>∃ x',e=Aj (.tuple #[])/\Ze w' B b (r.voteAsk m) x'/\Ai B w w':=by
 have g:=Z0 λz (hz:Ai w.heap.size w z)=>h.below hz
 have ak:=Ap h.lo (Be h.lt);have bw:=h.lt;have af:=Z0 λz=>Z79 h hb z
 have HQ:Ah (r.voteAsk m=if Z8u r.n=true then { r with code:=2 } else if m.tm=(r.higher m.tm).n.tm/\((r.higher m.tm).n.vo=0∨(r.higher m.tm).n.vo=m.fr)/\utd (r.higher m.tm).n.log m=true then Rn.send (Rn.timer { (r.higher m.tm).lone with n:={ (r.higher m.tm).lone.n with vo:=m.fr } }) ⟨4,0,m.fr,(r.higher m.tm).n.tm,0,0,0,1,0,[]⟩ else (r.higher m.tm).send ⟨4,0,m.fr,(r.higher m.tm).n.tm,0,0,0,0,0,[]⟩):=rfl;have az:=Z0 λz hz=>Z1u b r x m.tm z B hz hd hD hb.nw0 hb.nw1
 have l:Ah (r.higher m.tm=if r.n.tm<m.tm then r.adopt m.tm else r):=rfl;obtain ⟨f,am⟩:=exq (r.higher m.tm);have ao:Ah (NdB f.n):=am▸hb.higher _
 have a6:Ah (-(2^63)<=f.draw/\f.draw<2^63):=by rw [am,Z2q];exact ⟨hd,hD⟩
 rw [<-am] at HQ l;generalize r.voteAsk m=RP at *;have ah:Ah (Ai w.heap.size w (w.alloc (.cells (m.arrC (I ea en ec)) 43))):=baq;have bk:Ah (Blk (w.alloc (.cells (m.arrC (I ea en ec)) 43)) w.heap.size (m.arrC (I ea en ec)) 43):=Blk.new _ _ _;have bi:w.heap.size<(w.alloc (.cells (m.arrC (I ea en ec)) 43)).heap.size:=by simp
 clear h am;have G1:=Z0 trivial;go_enter func121,ntmps121
 go_upto_region 1 with fail
 generalize w.alloc (.cells (m.arrC (I ea en ec)) 43)=w1 at *;by_cases y:Z8u r.n=true
 ·have p:=Z0 (HQ.trans (if_pos y))
  rw [y] at af;clear HQ az l y
  go_wp2_with (first
   |(have a5:=G1;refine Zd 36 _ rfl ?_;clear a5;refine Xz rfl _ rfl rfl (g w1 ah) ?_;clear G1)
   |(go_at_call 147;refine (af _).mono ?_;rintro e w3 ⟨rfl,q⟩;have i:=Z0 (ah.trans (q.mono (by omega)));have bx:=(g _ i).c19;have bz:=(g _ i).blk.free 19;clear q))
  (try simp only [Av,Exit.then])
  refine A8 (Au rfl _ _ _) rfl ⟨x,rfl,?_,(i.mono ak).trans ((g _ i).setB 19 _)⟩;rw [p.out];exact (g _ i).set 19 _
 have a8:Z8u r.n=false:=by simpa using y
 rw [a8] at af;have p:=Z0 (HQ.trans (if_neg y));clear HQ y a8
 go_upto_region 4 with (first
  |(have a5:=G1;refine Zd 36 (.tmp 7) rfl ?_;clear a5;refine Xz rfl _ rfl rfl (g w1 ah) ?_;clear G1)
  |(go_at_call 147;refine (af _).mono ?_;rintro e w3 ⟨rfl,q⟩;have i:=Z0 (ah.trans (q.mono (by omega)));have an:=Z0 (bk.out.below q bi);have k4:=(g _ i).c4;have n3:w3.cell? ⟨w.heap.size,3,Ab⟩=Ac (Aa O m.tm):=an.out.cell 3;have be:=an.out.lt;clear q))
 clear af ah bk bi;go_quiet (fail)
 obtain ⟨w4,a1⟩:=exq (w3.drewN nq);have a3:Ai w3.heap.size w3 w4:=a1▸bdr
 rw [<-a1];clear a1 k4 n3;have ad:=Z0 (i.trans (a3.mono (by omega)));have aj:=Z0 (an.out.below a3 be);have n3:w4.cell? ⟨w.heap.size,3,Ab⟩=Ac (Aa O m.tm):=aj.out.cell 3;clear a3 an i be
 go_upto_if 20 with fail
 go_cut [] (λwx=>∃ x1:RV,Ze wx B b f x1/\x1.L=x.L/\Ai B w wx/\Blk wx w.heap.size (m.arrC (I ea en ec)) 43)
 case first=>
  by_cases ht:r.n.tm<m.tm
  ·have ag:=decide_eq_true ht
   have ae:=Z0 (l.trans (if_pos ht));rw [ag];clear l ht ag
   go_wp2_with (first
    |(go_at_call 149;refine (az _ (g _ ad)).mono ?_;rintro e d ⟨rfl,h5,b5,g5⟩;have H5:=Z0 h5;have B5:=Z0 ((ad.mono ak).trans b5);have M5:=Z0 (aj.out.grown g5);clear h5 b5 g5))
   go_meet;exact ⟨x.lone,ae.out▸H5,rfl,B5.out,M5.out⟩
  ·have ag:=decide_eq_false ht
   have ae:=Z0 (l.trans (if_neg ht));rw [ag];clear l ht ag
   go_wp2_with (fail)
   go_meet;exact ⟨x,ae.out▸g _ ad,rfl,ad.mono ak,aj.out⟩
 case rest=>
  obtain ⟨x1,hR,ar,o,j⟩:=hcut;obtain ⟨d,bd⟩:=exq (wc);rw [<-bd] at hR o j;subst bd;have ai:=Z0 hR;have bb:=Z0 o;have ac:=Z0 j;have aw:Ah (x1.L.length<=1000):=ar▸hl
  have v:=j.lt;have aa:=Z0 λz hz=>Z45 hR ao m ea en ec z hz
  have q4:=λu:BW d=>(ai.below u.h).c4
  have q5:=λu:BW d=>(ai.below u.h).c5
  have p3:∀ u:BW d,u.w.cell? ⟨w.heap.size,3,Ab⟩=Ac (Aa O m.tm):=λu=>(ac.out.below u.h v).cell 3
  have p1:∀ u:BW d,u.w.cell? ⟨w.heap.size,1,Ab⟩=Ac (Aa O m.fr):=λu=>(ac.out.below u.h v).cell 1
  have qn:∀ u:BW d,Sem.run Ad (loadVar 36 ⟨b,0,Ab⟩) u.w=.ok (Aw (ndC f.n x1)) u.w:=λu=>Z1s (ai.below u.h)
  have pn:∀ u:BW d,Sem.run Ad (loadVar 43 ⟨w.heap.size,0,Ab⟩) u.w=.ok (Aw (m.arrC (I ea en ec))) u.w:=λu=>Z0e (ac.out.below u.h v) 43 underlying43 rfl (by rw [Yc];rfl)
  have br:Nonempty (BW d):=⟨⟨d,An _ _⟩⟩;clear hR o j ar hl n3 ad aj g az l hb
  go_upto_region 6 with fail
  go_cut [58] (λs wx=>s=.bool (vaB f.n m)/\Ai d.heap.size d wx)
  case first=>
   have HV:Ah (vaB f.n m=((m.tm == f.n.tm) && ((f.n.vo == 0) || (f.n.vo == m.fr)) && utd f.n.log m)):=rfl;generalize vaB f.n m=VB at *;cases al:(m.tm == f.n.tm)
   ·rw [al] at HV
    clear qn pn aa;refine rqx ?_
    repeat go_big_quiet_step (fail)
    refine wpQuiet_nil ?_;intro w6 c
    go_wp2_with fail
    go_meet;exact ⟨by rw [HV.out];rfl,c⟩
   cases a4:(f.n.vo == 0)
   ·cases bg:(f.n.vo == m.fr)
    ·rw [al,a4,bg] at HV
     clear qn pn aa;refine rqx ?_
     repeat go_big_quiet_step (fail)
     refine wpQuiet_nil ?_;intro w6 c
     go_wp2_with fail
     go_meet;exact ⟨by rw [HV.out];rfl,c⟩
    ·rw [al,a4,bg] at HV
     refine rqx ?_
     repeat (first | (go_big_quiet_want;refine Jp (W:=d) 36 (.tmp 54) rfl rfl qn ?_;go_big_quiet_on;simp only [Act.put,Bj,By,Bt]) | (go_big_quiet_want;refine Jp (W:=d) 43 (.tmp 3) rfl rfl pn ?_;go_big_quiet_on;simp only [Act.put,Bj,By,Bt]) | go_big_quiet_step ((exact bwx (aa _ (BW.h _)))))
     refine wpQuiet_nil ?_;intro w6 c
     go_wp2_with fail
     go_meet;exact ⟨by rw [HV.out];rfl,c⟩
   ·rw [al,a4] at HV
    refine rqx ?_
    repeat (first | (go_big_quiet_want;refine Jp (W:=d) 36 (.tmp 54) rfl rfl qn ?_;go_big_quiet_on;simp only [Act.put,Bj,By,Bt]) | (go_big_quiet_want;refine Jp (W:=d) 43 (.tmp 3) rfl rfl pn ?_;go_big_quiet_on;simp only [Act.put,Bj,By,Bt]) | go_big_quiet_step ((exact bwx (aa _ (BW.h _)))))
    refine wpQuiet_nil ?_;intro w6 c
    go_wp2_with fail
    go_meet;exact ⟨by rw [HV.out];rfl,c⟩
  case rest=>
   obtain ⟨rfl,ab⟩:=hcut;obtain ⟨w6,bj⟩:=exq (wc);rw [<-bj] at ab;subst bj;have a0:=Z0 (ai.below ab);have ax:=Z0 (bb.trans (ab.mono (Ap ak (Be v))));have aq:=Z0 (ac.out.below ab v);clear q4 q5 p3 p1 qn pn aa ai bb ac ab br v
   go_upto_if 58 with fail
   go_cut [4] (λs wx=>∃(R2:Rn) (x2:RV) (k:Int),s=Aa O k/\Ze wx B b R2 x2/\x2.L.length<=1000/\Ai B w wx/\Blk wx w.heap.size (m.arrC (I ea en ec)) 43/\RP=R2.send ⟨4,0,m.fr,R2.n.tm,0,0,0,k,0,[]⟩)
   case first=>
    by_cases hv:vaB f.n m=true
    ·have au:=Z0 (p.trans (if_pos ((vaB_iff _ _).1 hv)))
     rw [hv];clear p hv
     go_wp2_with (first
      |(go_at_call 114;refine (Z1m b f x1 _ B a0).mono ?_;rintro e w7 ⟨rfl,h7,b7,g7⟩;have bp:=Z0 h7;have ay:=Z0 (ax.trans b7);have bc:=Z0 (aq.out.grown g7);have n1:w7.cell? ⟨w.heap.size,1,Ab⟩=Ac (Aa O m.fr):=bc.out.cell 1;have c5:=h7.c5;have f5:=h7.blk.free 5;have bn:Ah (Ze (w7.setCell ⟨b,5,Ab⟩ (Aa O m.fr)) B b { f.lone with n:={ f.lone.n with vo:=m.fr } } x1.lone):=h7.set 5 _;clear h7 b7 g7)
      |(go_at_call 115;refine (Z0x b _ _ _ B bn a6.1 a6.2 ao.nw0 ao.nw1).mono ?_;rintro e w9 ⟨rfl,h9,b9,g9⟩;have a2:Ah _:=h9;have av:=Z0 ((ay.trans (bp.setB 5 _)).trans b9);have bm:=Z0 ((bc.out.grown (Rd.frame 5 _)).grown g9);clear h9 b9 g9))
     go_meet;exact ⟨_,_,1,rfl,a2.out,aw.out,av.out,bm.out,au.out⟩
    ·have au:=Z0 (p.trans (if_neg λh=>hv ((vaB_iff _ _).2 h)))
     have ba:vaB f.n m=false:=by simpa using hv
     rw [ba];clear p hv ba
     go_wp2_with (fail)
     go_meet;exact ⟨f,x1,0,rfl,a0.out,aw.out,ax.out,aq.out,au.out⟩
   case rest=>
    obtain ⟨R2,x2,k,rfl,hR,ar,o,j,a7⟩:=hcut;obtain ⟨w7,a9⟩:=exq (wc);rw [<-a9] at hR o j;subst a9;have bo:=Z0 a7;have ay:=Z0 o;have n1:w7.cell? ⟨w.heap.size,1,Ab⟩=Ac (Aa O m.fr):=j.cell 1;have c4:=hR.c4;have bu:=Z0 λz (hz:Ai w7.heap.size w7 z)=>Z0t b R2 x2 ⟨4,0,m.fr,R2.n.tm,0,0,0,k,0,[]⟩ Ab 0 z B (hR.below hz) (Zh.nil _ _)
    clear a7 o j hR ar p a0 ax aq aw ao a6
    go_upto_region 11 with fail
    go_region_with (first
     |(go_at_call 146;refine (bu _ ((An _ _).drew)).mono ?_;rintro e w9 ⟨v9,y9,rfl,bh,t,-⟩;have a2:Ah _:=bh;have av:=Z0 (ay.drew.trans t);clear bh t))
    all_goals go_wp2_with fail
    all_goals (try simp only [Av,Exit.then])
    all_goals exact bodyPost_end (Au rfl _ _ _) rfl ⟨_,rfl,bo.out▸a2,av.out⟩
theorem ownI_one (w:Ag)(B:Nat)(a:B<=w.heap.size)(y:Int):Zc inC 1 3 (w.alloc (.cells #[Aa O y] 3)) B (I (Ac ⟨w.heap.size,0,Ab⟩) 1 1) [y]:=by
 refine ⟨rfl,.inr ⟨w.heap.size,1,#[.int _ y],rfl,a,?_,Ao _,by unfold maxLen;omega,rfl,rfl⟩⟩;show (w.heap.push _)[_]? = _;simp
def pyB (n:Nd)(m:Mg):Bool:=(n.ro != 1) || (m.tm != n.tm+1) || Z2e m.fr n.gr
theorem pyB_iff (n:Nd)(m:Mg):pyB n m=true↔n.ro≠1∨m.tm≠n.tm+1∨m.fr∈n.gr:=by
 unfold pyB Z2e;simp [or_assoc]
theorem Z80 (b:Nat)(r:Rn)(x:RV)(m:Mg)(ea:Option Addr)(en ec:Nat)(w:Ag)(B:Nat)(h:Ze w B b r x)(k:NdB r.n)(hd : -(2^63)<=r.draw)(hD:r.draw<2^63)(hl:x.L.length<=900)(bz:0<=r.n.tm)(b3:r.n.tm<=1073741824)(a0:r.n.sz%2=1)(bc:r.n.gr.length<=1000) :
  Ar Ad 120 #[Ae (Ac ⟨b,0,Ab⟩),Aw (m.arrC (I ea en ec))] w λe w'=>∃ x',e=Aj (.tuple #[])/\Ze w' B b (r.preReply m) x'/\Ai B w w':=by
 have f:Ah (∀ z,Ai w.heap.size w z->Ze z B b r x):=λz hz=>h.below hz
 have ai:=Ap h.lo (Be h.lt)
 have HQ:Ah (r.preReply m=if m.ok=0 then (if r.n.tm<m.tm then r.adopt m.tm else r.stale) else if r.n.ro≠1∨m.tm≠r.n.tm+1∨m.fr∈r.n.gr then r.stale else
  if Xx (Zx r.n.gr m.fr r.n.sz.toNat).length r.n.sz=true then Rn.allK ⟨3,0,0,r.n.tm+1,r.n.log.length,Y9 r.n.log,0,0,0,[]⟩ r.n.sz.toNat (Rn.timer { r with n:={ r.n with tm:=r.n.tm+1,vo:=r.n.id,ro:=2,gr:=[r.n.id] } })
  else { r with n:={ r.n with gr:=Zx r.n.gr m.fr r.n.sz.toNat } }):=rfl
 have bi:=Z0 λz hz=>Z1u b r x m.tm z B hz hd hD k.nw0 k.nw1
 generalize r.preReply m=RP at *;obtain ⟨y,ar⟩:=exq (w.alloc (.cells (m.arrC (I ea en ec)) 43));have l:Ah (Ai w.heap.size w y):=ar▸baq
 have j:Ah (Blk y w.heap.size (m.arrC (I ea en ec)) 43):=ar▸Blk.new _ _ _
 have bn:=j.out.lt;have n7:y.cell? ⟨w.heap.size,7,Ab⟩=Ac (Aa O m.ok):=j.out.cell 7;have n3:y.cell? ⟨w.heap.size,3,Ab⟩=Ac (Aa O m.tm):=j.out.cell 3;have n1:y.cell? ⟨w.heap.size,1,Ab⟩=Ac (Aa O m.fr):=j.out.cell 1;have k4:=(f _ l).c4;have k6:=(f _ l).c6;go_enter func120,ntmps120
 go_upto_region 1 with fail
 rw [<-ar];clear ar;by_cases ac:m.ok=0
 ·have q:=Z0 (HQ.trans (if_pos ac))
  rw [ac] at n7;clear HQ
  go_upto_region 2 with fail
  go_quiet (fail)
  obtain ⟨w4,a7⟩:=exq (y.drewN nq);have a5:Ai y.heap.size y w4:=a7▸bdr
  rw [<-a7];have i:=Z0 (l.trans (a5.mono (by omega)));have cf:w4.cell? ⟨w.heap.size,3,Ab⟩=Ac (Aa O m.tm):=(j.out.below a5 bn).cell 3;have bj:=(f _ i).c19;have bd:=(f _ i).blk.free 19;clear a7 a5 k4 k6 n3 n1 n7 ac
  go_upto_if 14 with fail
  by_cases ht:r.n.tm<m.tm
  ·have g:=Z0 (q.trans (if_pos ht))
   have aj:=decide_eq_true ht;rw [aj];clear q ht aj
   go_wp2_with (first
    |(go_at_call 149;refine (bi _ (f _ i)).mono ?_;rintro e w5 ⟨rfl,h5,b5,-⟩;have H5:=Z0 h5;have B5:=Z0 ((i.mono ai).trans b5);clear h5 b5))
   (try simp only [Av,Exit.then])
   exact A8 (Au rfl _ _ _) rfl ⟨_,rfl,g.out▸H5,B5.out⟩
  ·have g:=Z0 (q.trans (if_neg ht))
   have aj:=decide_eq_false ht;rw [aj];clear q ht aj
   go_wp2_with (fail)
   (try simp only [Av,Exit.then])
   refine A8 (Au rfl _ _ _) rfl ⟨x,rfl,?_,(i.mono ai).trans ((f _ i).setB 19 _)⟩;rw [g.out];exact (f _ i).set 19 _
 have q:=HQ.trans (if_neg ac);have g:Ah _:=q;have b6:(m.ok == 0)=false:=by simpa using ac
 clear HQ q ac bi;obtain ⟨ga,gc,a2⟩:=h.gr.shape;have b2:y.cell? ⟨b,13,Ab⟩=Ac (I ga r.n.gr.length gc):=a2▸(f _ l).blk.cell 13
 have az:Ah (∀ z,Ai w.heap.size w z->Ar Ad 99 #[I ga r.n.gr.length gc,Aa O m.fr] z λe w'=>e=Aj (.bool (Z2e m.fr r.n.gr))/\w'=z):=λz hz=>Z4j _ r.n.gr m.fr z (a2▸ownI_ix (h.below hz).gr (by omega))
 clear h a2
 go_upto_region 5 with fail
 go_cut [48] (λs wx=>s=.bool (pyB r.n m)/\Ai y.heap.size y wx)
 case first=>
  have HV:Ah (pyB r.n m=((r.n.ro != 1) || (m.tm != r.n.tm+1) || Z2e m.fr r.n.gr)):=rfl;have b0:=wrx (r.n.tm+1)
  have bm:y.heap.size<=y.heap.size:=Ao _;generalize pyB r.n m=VB at *;cases a1:(r.n.ro != 1)
  ·cases bk:(m.tm != r.n.tm+1)
   ·rw [a1,bk] at HV
    go_quiet ((go_at_call 99;exact Calls.quiet_of_same (az _ (l.trans ⟨rfl,rfl,rfl,bm,λ_ _=>rfl⟩))))
    go_wp2_with fail
    go_meet;exact ⟨by rw [HV.out];rfl,bdr⟩
   ·rw [a1,bk] at HV
    go_quiet (fail)
    go_wp2_with fail
    go_meet;exact ⟨by rw [HV.out];rfl,bdr⟩
  ·rw [a1] at HV
   go_quiet (fail)
   go_wp2_with fail
   go_meet;exact ⟨by rw [HV.out];rfl,bdr⟩
 case rest=>
  obtain ⟨rfl,am⟩:=hcut;obtain ⟨w6,bp⟩:=exq (wc);rw [<-bp] at am;subst bp;have af:=Z0 (l.trans (am.mono (by omega)));have cc:w6.cell? ⟨w.heap.size,1,Ab⟩=Ac (Aa O m.fr):=(j.out.below am bn).cell 1;have ab:=Z0 (f _ af);have bj:=ab.c19;have bd:=ab.blk.free 19;clear am k4 k6 b2 n1 n3 n7 az f l j
  go_upto_if 48 with fail
  by_cases hv:pyB r.n m=true
  ·have ah:=Z0 (g.trans (if_pos ((pyB_iff _ _).1 hv)))
   rw [hv];clear g hv
   go_wp2_with (fail)
   (try simp only [Av,Exit.then])
   refine A8 (Au rfl _ _ _) rfl ⟨x,rfl,?_,(af.mono ai).trans (ab.setB 19 _)⟩;rw [ah.out];exact ab.set 19 _
  have bg:pyB r.n m=false:=by simpa using hv
  have ah:=g.trans (if_neg λh=>hv ((pyB_iff _ _).2 h));rw [bg];obtain ⟨G,hG⟩:=exq (Zx r.n.gr m.fr r.n.sz.toNat);rw [<-hG] at ah;have au:Ah _:=ah;have ak:Ah (Ar Ad 150 #[Ae (Ac ⟨b,0,Ab⟩),Aa O m.fr] w6 λe w'=>∃ v,e=Aj (.bool (Xx G.length r.n.sz))/\Ze w' B b { r with n:={ r.n with gr:=G } } { x with vg:=v }/\Ai B w6 w'/\w6.grownBy w' (Ac b)):=hG▸Z73 b r x _ w6 B ab k a0 bc
  clear g hv bg hG ah bj bd;by_cases ad:Xx G.length r.n.sz=true
  ·have ae:=au.trans (if_pos ad)
   have al:Ah _:=ae;rw [ad] at ak;clear au ae ad;have b0:=wrx (r.n.tm+1)
   go_upto_region 8 with (first
    |(go_at_call 150;refine Calls.mono ak ?_;rintro e w7 ⟨vg,rfl,h7,b7,g7⟩;have c:=Z0 h7;have an:=Z0 ((af.mono ai).trans b7);clear h7 b7 g7))
   have c4:=c.c4;have f4:=c.blk.free 4;have c5:=c.c5;have f5:=c.blk.free 5;have c6:=c.c6;have f6:=c.blk.free 6;have c0:=c.c0
   go_upto_region 11 with fail
   obtain ⟨w8,av⟩:=exq (((w7.setCell ⟨b,4,Ab⟩ (Aa O (r.n.tm+1))).setCell ⟨b,5,Ab⟩ (Aa O r.n.id)).setCell ⟨b,6,Ab⟩ (Aa O 2))
   have aa:Ah (Ze w8 B b { r with n:={ r.n with tm:=r.n.tm+1,vo:=r.n.id,ro:=2,gr:=G } } { x with vg:=vg }):=by
    rw [av];exact ((c.set (r':={ r with n:={ r.n with tm:=r.n.tm+1,gr:=G } }) 4 _ rfl rfl rfl rfl rfl rfl rfl rfl).set (r':={ r with n:={ r.n with tm:=r.n.tm+1,vo:=r.n.id,gr:=G } }) 5 _ rfl rfl rfl rfl rfl rfl rfl rfl).set 6 _
   have a9:Ah (Ai B w w8):=by
    rw [av];exact ((an.setCell (p:=⟨b,4,Ab⟩) c.lo _).setCell (p:=⟨b,5,Ab⟩) c.lo _).setCell (p:=⟨b,6,Ab⟩) c.lo _
   rw [<-av];clear av c4 f4 c5 f5 c6 f6 c0 c an ab af;have c0:=aa.c0
   have a3:Ah (∀ z,z=(w8.setCell ⟨b,13,Ab⟩ (I (Ac ⟨w8.heap.size,0,Ab⟩) 1 1)).alloc (.cells #[Aa O r.n.id] 3)->Ze z B b { r with n:={ r.n with tm:=r.n.tm+1,vo:=r.n.id,ro:=2,gr:=[r.n.id] } } { x with vg:=I (Ac ⟨w8.heap.size,0,Ab⟩) 1 1 }/\Ai B w z):=λz hz=>by
    have:=aa.grantAt baq (ownI_one w8 _ (Ao _) r.n.id);rw [hz,<-World.setCell_alloc_past _ _ _ _ aa.out.lt];exact ⟨this.1,a9.trans this.2.1⟩
   have c13:∀ o:Obj,(w8.alloc o).cell? ⟨b,13,Ab⟩=Ac vg:=λo=>(aa.below baq).blk.cell 13
   have bw:∀ o:Obj,(w8.alloc o).frozen? ⟨b,13,Ab⟩=false:=λo=>(aa.below baq).blk.free 13
   have cd:=aa.lt
   go_upto_region 12 with fail
   obtain ⟨w9,aw⟩:=exq ((w8.setCell ⟨b,13,Ab⟩ (I (Ac ⟨w8.heap.size,0,Ab⟩) 1 1)).alloc (.cells #[Aa O r.n.id] 3));have ao:Ah _:=(a3 w9 aw).1;have a4:Ah _:=(a3 w9 aw).2;rw [<-aw];clear aw a3 c13 bw c0 aa a9;obtain ⟨a,t⟩:=exq (Rn.timer { r with n:={ r.n with tm:=r.n.tm+1,vo:=r.n.id,ro:=2,gr:=[r.n.id] } });have e1:a.n.tm=r.n.tm+1:=by rw [t];rfl
   have e2:a.n.log=r.n.log:=by rw [t];rfl
   have e3:a.n.sz=r.n.sz:=by rw [t];rfl
   have ax:Ah (NdB a.n):=t▸⟨k.nw0,k.nw1,k.hd0,k.hd1,k.sz0,k.sz1,k.id0,k.id1,k.ln⟩
   have bv:Ah (RP=Rn.allK ⟨3,0,0,a.n.tm,a.n.log.length,Y9 a.n.log,0,0,0,[]⟩ a.n.sz.toNat a):=by
    have:=al.out;unfold Ah;rw [e1,e2,e3,t];exact this
   obtain ⟨X2,a6⟩:∃ X2:RV,X2={ x with vg:=I (Ac ⟨w8.heap.size,0,Ab⟩) 1 1 }:=⟨_,rfl⟩;have bb:Ah (X2.L.length<=900):=a6▸hl
   have bh:Ah (Ar Ad 115 #[Ae (Ac ⟨b,0,Ab⟩)] w9 λe w'=>e=Aj (.tuple #[])/\Ze w' B b a X2/\Ai B w9 w'/\w9.grownBy w' (Ac b)):=by
    rw [t,a6];exact Z0x b _ _ w9 B ao hd hD k.nw0 k.nw1
   clear t a6 e1 e2 e3 al ao
   go_upto_region 13 with (first
    |(go_at_call 115;refine Calls.mono bh ?_;rintro e wa ⟨rfl,ha,ba,-⟩;have d:=Z0 ha;have br:=Z0 (a4.trans ba);clear ha ba))
   obtain ⟨la,lc,a8⟩:=d.log.shape;have q4:=λu:BW wa=>(d.below u.h).c4
   have ca:∀ u:BW wa,u.w.cell? ⟨b,12,Ab⟩=Ac (I la a.n.log.length lc):=λu=>a8▸(d.below u.h).blk.cell 12
   have c4:=d.c4
   have bq:=Z0 λz hz=>Z47 d ax z hz
   have bu:Ah (∀ z,Ai wa.heap.size wa z->Ar Ad 117 #[Ae (Ac ⟨b,0,Ab⟩),Aw (mqN 3 0 0 a.n.tm (a.n.log.length:Int) (Y9 a.n.log) 0 0 0 (I Ab 0 0))] z λe w'=>∃ x',e=Aj (.tuple #[])/\Ze w' B b (Rn.allK ⟨3,0,0,a.n.tm,a.n.log.length,Y9 a.n.log,0,0,0,[]⟩ a.n.sz.toNat a) x'/\Ai B z w'/\x'.L.length<=X2.L.length+7):=λz hz=>l4all_any b a X2 _ Ab 0 z B (d.below hz) (Zh.nil _ _) (by have:=bb.out;omega) (by have:=ax.sz0;omega) ax.sz1 ax.id0
   have bx:=Ap d.lo (Be d.lt);have qn:∀ u:BW wa,Sem.run Ad (loadVar 36 ⟨b,0,Ab⟩) u.w=.ok (Aw (ndC a.n X2)) u.w:=λu=>Z1s (d.below u.h)
   have ce:Nonempty (BW wa):=⟨⟨wa,An _ _⟩⟩;clear a8 k hd hD hl bz b3 a0 bc bh bb c4;refine rlx ?_;simp only [List.dropLast_cons_cons,List.dropLast_singleton]
   repeat (first | (go_big_quiet_want;refine Jp (W:=wa) 36 _ rfl rfl qn ?_;go_big_quiet_on;simp only [Act.put,Bj,By,Bt]) | go_big_quiet_step ((go_at_call 118;exact bwx (bq _ (BW.h _)))))
   refine wpQuiet_nil ?_;intro wb ag;refine Yg (N:=117) rfl (λ_ _=>by go_simp) #[Ae (Ac ⟨b,0,Ab⟩),Aw (mqN 3 0 0 a.n.tm (a.n.log.length:Int) (Y9 a.n.log) 0 0 0 (I Ab 0 0))] (by simp only [List.map_toArray,List.map_cons,List.map_nil];rfl) ?_;refine (bu wb ag).mono ?_;rintro e w9 ⟨x9,rfl,bo,aq,-⟩;refine ⟨_,rfl,?_⟩;have ao:Ah _:=bo;have a4:=Z0 ((br.trans (ag.mono bx)).trans aq);clear bo aq
   go_wp2_with fail
   (try simp only [Av,Exit.then])
   exact bodyPost_end (Au rfl _ _ _) rfl ⟨_,rfl,bv.out▸ao,a4.out⟩
  ·have ae:=au.trans (if_neg ad)
   have be:Xx G.length r.n.sz=false:=by simpa using ad
   have al:Ah _:=ae;rw [be] at ak;clear au ae ad be
   go_wp2_with (first
    |(go_at_call 150;refine Calls.mono ak ?_;rintro e w7 ⟨vg,rfl,h7,b7,-⟩;have c:Ah _:=h7;have an:=Z0 ((af.mono ai).trans b7);clear h7 b7))
   (try simp only [Av,Exit.then])
   exact A8 (Au rfl _ _ _) rfl ⟨_,rfl,al.out▸c,an.out⟩
theorem es_cells {w:Ag}{a:Option Addr}{n c:Nat}{l:List Ent}(h:Es w (I a n c) l)(i:Nat)(hi:i<l.length):∃ b d,a=Ac ⟨b,d,Ab⟩/\Ja w b (d+i*7) l[i]:=by
 obtain ⟨-,-,j,k,e,f⟩:=h;simp only [Value.slice.injEq] at e;obtain ⟨rfl,-,rfl⟩:=e;obtain ⟨b,d,rfl,g⟩:=f i hi;exact ⟨b,d,rfl,g i hi⟩
theorem Xy (b:Nat)(r:Rn)(x:RV)(J P:Nat)(w:Ag)(B:Nat)(h:Ze w B b r x)(hb:NdB r.n)(hl:x.L.length<=1000)(hJ:J<r.n.nx.length)(a7:J<r.n.st.length)(cw:J<=7)(hP:r.n.nx[J]=(P:Int)+1)(cy:P<=r.n.log.length) :
  Ar Ad 116 #[Ae (Ac ⟨b,0,Ab⟩),Aa O ((J:Int)+1)] w λe w'=>∃ v y,e=Aj (.tuple #[])/\Ze w' B b (r.sendE J) (x.sent v y)/\Ai B w w':=by
 have HR:=Z0 h;have ao:=Ap h.lo (Be h.lt);have c0:=h.lt;have cv:=hb.ln;obtain ⟨la,lc,au⟩:=h.log.shape;obtain ⟨ng,nc,av⟩:=h.nx.shape';obtain ⟨sg,sc,bw⟩:=h.st.shape';have aj:Ah (∀ z,Ai w.heap.size w z->Es z (I la r.n.log.length lc) r.n.log):=λz hz=>by rw [<-au];exact (h.below hz).es (by omega)
 have HC:Ah (∀ z,Ai w.heap.size w z->z.cell? ⟨b,4,Ab⟩=Ac (Aa O r.n.tm)/\z.cell? ⟨b,8,Ab⟩=Ac (Aa O r.n.cm)/\z.cell? ⟨b,12,Ab⟩=Ac (I la r.n.log.length lc)/\z.cell? ⟨b,14,Ab⟩=Ac (I (Ac ⟨ng,0,Ab⟩) r.n.nx.length nc)/\z.cell? ⟨ng,J,Ab⟩=Ac (Aa O ((P:Int)+1))):=λz hz=>by
  have l:=h.below hz;refine ⟨l.blk.cell 4,l.blk.cell 8,by rw [<-au];exact l.blk.cell 12,by rw [<-av];exact l.blk.cell 14,?_⟩;have h9:=World.ownsRow.cellAt (by rw [<-av];exact l.nx:Zc inC 1 3 z B (I (Ac ⟨ng,0,Ab⟩) r.n.nx.length nc) r.n.nx) J (by omega);rw [h9,gC_in,List.getElem?_map,As hJ,hP];rfl
 have bh:=Z0 h.log.1;obtain ⟨LT,a2⟩:=exq (Zy r.n.log P);have a1:=Z0 a2;have al:=Z0 bw;have bd:r.n.nx.getD J 0=(P:Int)+1:=by rw [List.getD_eq_getElem?_getD,As hJ];exact hP
 have ca:Ah (Z0k r.n J=⟨5,0,(J:Int)+1,r.n.tm,(P:Int),LT,r.n.cm,0,0,(r.n.log.drop P).take 32⟩):=by
  unfold Ah Z0k;rw [bd,show ((P:Int)+1-1).toNat=P by omega,a2,show (P:Int)+1-1=(P:Int) by omega]
 have cz:P<=4096:=by omega
 have a9:IntKind.i64.wrap ((J:Int)+1-1)=(J:Int):=by simp [IntKind.wrap,IntKind.bits,IntKind.signed];omega
 have b3:IntKind.i64.wrap ((P:Int)+1-1)=(P:Int):=by simp [IntKind.wrap,IntKind.bits,IntKind.signed];omega
 have bx:(J:Int)<(r.n.nx.length:Int):=by omega
 have d:=Z0 a7;clear au av bw a2 bd hP hJ a7;obtain ⟨c4,c8,c12,c14,cJ⟩:=HC.out w (An _ _);clear h;go_enter func116,ntmps116
 go_upto_region 1 with fail
 go_cut [5] (λs wx=>s=Ae (Ac ⟨w.heap.size,0,Ab⟩)/\Blk wx w.heap.size (mqN 5 0 ((J:Int)+1) r.n.tm (P:Int) 0 r.n.cm 0 0 (I Ab 0 0)) 43/\Ai w.heap.size w wx)
 case first=>
  go_region_held3 (λw'=>w'.cell? ⟨b,4,Ab⟩=Ac (Aa O r.n.tm)/\w'.cell? ⟨b,8,Ab⟩=Ac (Aa O r.n.cm)) (simp [*,go_sem]) (fail)
  all_goals go_wp2_with fail
  all_goals go_meet
  all_goals exact ⟨rfl,by first | exact Blk.new _ _ _ | exact (Blk.new _ _ _).drew,by first | exact baq | exact baq.drew | exact (An _ _).drew.alloc (Ao _) _⟩
 case rest=>
  obtain ⟨rfl,be,a6⟩:=hcut;obtain ⟨w1,bp⟩:=exq (wc);rw [<-bp] at be a6;subst bp;have c:=Z0 be;have ab:=Z0 a6;clear c4 c8 c12 c14 cJ a9 bx
  go_upto_if 31 with fail
  go_cut [31] (λ_ wx=>Blk wx w.heap.size (mqN 5 0 ((J:Int)+1) r.n.tm (P:Int) LT r.n.cm 0 0 (I Ab 0 0)) 43/\Ai w.heap.size w wx)
  case first=>
   by_cases h0:P=0
   ·subst h0
    have bk:=a1.out;subst bk
    go_wp2_with fail
    go_meet;exact ⟨c,ab.out⟩
   ·obtain ⟨-,-,c12,-,-⟩:=HC.out w1 ab
    obtain ⟨lg,lo,rfl,a8⟩:=es_cells (aj w1 ab) (P-1) (by omega);have a5:=a8.1
    have ah:(r.n.log[P-1]'(by omega)).t=LT:=by
     rw [a1.out];unfold Zy;rw [if_neg h0,As (by omega)];rfl
    rw [ah] at a5;obtain ⟨Q,rfl⟩:∃ Q,P=Q+1:=⟨P-1,by omega⟩;rw [show Q+1-1=Q by omega] at a5;have cx:IntKind.i64.wrap ((Q:Int)+1-1)=(Q:Int):=by simp [IntKind.wrap,IntKind.bits,IntKind.signed];omega
    have co:(Q:Int)<(r.n.log.length:Int):=by omega
    have q5:=c.cell 5;have f5:=c.free 5;clear a8 ah h0
    go_wp2_with fail
    go_meet;exact ⟨c.set 5 _,ab.setCell (p:=⟨w.heap.size,5,Ab⟩) (Ao _) _⟩
  case rest=>
   obtain ⟨ax,ak⟩:=hcut;obtain ⟨w2,br⟩:=exq (wc);rw [<-br] at ax ak;subst br;have bj:=Z0 ax;have bb:=Z0 ak;obtain ⟨K,hK⟩:=exq (min r.n.log.length (P+32));have ct:K<=r.n.log.length:=by omega
   have cj:K<=P+32:=by omega
   have cf:P<=K:=by omega
   have am:Ah (K=r.n.log.length∨K=P+32):=by unfold Ah;omega
   clear ax ak hK c ab a1 b3;go_wp2
   go_loopw [6] (λiv wr=>∃(k:Nat) (va:Option Addr) (vc:Nat),P<=k/\k<=K/\iv=Aa O k/\Blk wr w.heap.size (mqN 5 0 ((J:Int)+1) r.n.tm (P:Int) LT r.n.cm 0 0 (I va (k-P) vc)) 43/\Zh wr w.heap.size (I va (k-P) vc) ((r.n.log.drop P).take (k-P))/\Ai w.heap.size w wr) (λiv _=>K-(B0 iv).toNat)
   case atStart=>exact ⟨P,Ab,0,Ao _,cf,rfl,by rw [Nat.sub_self];exact bj,by rw [Nat.sub_self];exact Zh.nil _ _,bb.out⟩
   case round=>
    obtain ⟨k,va,vc,cu,cq,rfl,an,bz,aw⟩:=hrel;have m:=Z0 an;have i:=Z0 bz;have a:=Z0 aw;have b6:=aw.size;have bu:=an.lt;clear an bz aw bj bb;obtain ⟨c4,c8,c12,c14,cJ⟩:=HC.out wr a;have bn:((r.n.log.drop P).take (k-P)).length=k-P:=by rw [List.length_take,List.length_drop];omega
    have af:=Z0 bn;clear bn;by_cases bk:k<K
    ·have bm:(k:Int)<(r.n.log.length:Int):=by omega
     have b2:(k:Int)<(P:Int)+32:=by omega
     obtain ⟨lg,lo,rfl,e0,e1,e2,e3,e4,e5,e6⟩:=es_cells (aj wr a) k (by omega);have bc:(r.n.log[k]'(by omega)).fits:=bh.out _ (List.getElem_mem _)
     have cd:Ah ((r.n.log.drop P).take (k+1-P)=(r.n.log.drop P).take (k-P) ++ [r.n.log[k]'(by omega)]):=by
      unfold Ah;rw [show k+1-P=k-P+1 by omega,List.take_succ_eq_append_getElem (by rw [List.length_drop];omega)];congr 2;rw [List.getElem_drop];congr 1;omega
     have cc:=Z0 bc;generalize (r.n.log[k]'(by omega))=e at *;have q9:=m.cell 9;have pa:∀(o:Obj) (j:Nat),(wr.alloc o).cell? ⟨w.heap.size,j,Ab⟩=wr.cell? ⟨w.heap.size,j,Ab⟩:=λo j=>World.cell?_alloc_lt _ _ _ bu
     have b7:=Z0 λe=>Y5 i m (by decide) _ e rfl
     generalize hTK:(r.n.log.drop P).take (k-P)=TK at *;generalize hkp:k-P=kp at *;clear bc hTK c4 c8 c14 cJ;go_wp2
     go_region_law
      (refine Z00 entLaw rfl (.tmp 61) (.tmp 70) rfl e (Zc.below (Zc.below i.g ((An _ _).drew)) baq) rfl wr.heap.size 1 (Z04 wr.drew e.cells 118) rfl (by have:=af.out;omega) (by simp;omega) ?_;intro v3 w3 a0 ay;have bq:=Z0 a0;obtain ⟨a3,c3,bo⟩:=a0.shape;rw [Bc,List.length_singleton,af.out] at bo;have b8:Ah (Ye _ (I va kp vc) w3 v3):=ay;have ag:=Z0 ((m.drew.alloc _).keep (ay.g.block _ (by simp;omega) (λe=>b7 e.symm)));have p9:=ag.out.cell 9;have pf:=ag.out.free;subst bo;clear a0 ay)
     all_goals go_wp2
     all_goals (
      go_roundw
      case rel=>
       refine ⟨k+1,a3,c3,by omega,by omega,by go_num,?_,?_,?_⟩
       ·rw [show k+1-P=kp+1 by omega]
        exact ag.out.set 9 _
       ·rw [cd.out,show k+1-P=kp+1 by omega]
        refine Zc.e (bq.block λj hj=>Below.heap_setCell _ _ _ _ (Zm bq ag.out (by decide) j hj)) ?_;intro y hy;rcases List.mem_append.1 hy with hy | hy
        ·exact i.1 y hy
        ·rw [List.mem_singleton] at hy
         subst hy;exact cc
       ·exact ((a.trans ((An _ _).drew.alloc (by exact b6) _)).trans (growG b8 (Zc.below (Zc.below i.g ((An _ _).drew)) baq) (by simp;omega))).setCell (p:=⟨w.heap.size,9,Ab⟩) (Ao _) _
      case measure=>simp [B0];omega)
    ·obtain rfl:k=K:=by omega
     have cg:Ah ((¬(k:Int)<(r.n.log.length:Int))∨((k:Int)<(r.n.log.length:Int)/\¬(k:Int)<(P:Int)+32)):=by unfold Ah;have:=am.out;omega
     have ae:=Z0t b r x ⟨5,0,(J:Int)+1,r.n.tm,(P:Int),LT,r.n.cm,0,0,(r.n.log.drop P).take (k-P)⟩ va vc wr B (HR.below a) (by show Zh wr B (I va ((r.n.log.drop P).take (k-P)).length vc) _;rw [af.out];exact i.le ao)
     have ad:(⟨5,0,(J:Int)+1,r.n.tm,(P:Int),LT,r.n.cm,0,0,(r.n.log.drop P).take (k-P)⟩:Mg)=Z0k r.n J:=by
      rw [ca.out];congr 1;rcases am with e | e
      ·rw [List.take_of_length_le (by rw [List.length_drop];omega),List.take_of_length_le (by rw [List.length_drop];omega)]
      ·rw [show k-P=32 by omega]
     rw [show ((⟨5,0,(J:Int)+1,r.n.tm,(P:Int),LT,r.n.cm,0,0,(r.n.log.drop P).take (k-P)⟩:Mg).es.length)=k-P from af.out] at ae;rw [ad] at ae
     have ai:Ah (Ar Ad 146 #[Ae (Ac ⟨b,0,Ab⟩),Aw (mqN 5 0 ((J:Int)+1) r.n.tm (P:Int) LT r.n.cm 0 0 (I va (k-P) vc))] wr λe w'=>∃ v y,e=Aj (.tuple #[])/\Ze w' B b (r.send (Z0k r.n J)) (x.sent v y)/\Ai B wr w'/\Gr2 wr b x.vo w' v):=by
      have h9:=ae;rw [<-ad] at h9;rw [<-ad];exact h9
     have bv:Ah (∀ z v y,Ze z B b (r.send (Z0k r.n J)) (x.sent v y)->z.cell? ⟨b,9,Ab⟩=Ac (Aa O r.n.nw)/\z.cell? ⟨b,17,Ab⟩=Ac (I (Ac ⟨sg,0,Ab⟩) r.n.st.length sc)/\(∃ u,z.cell? ⟨sg,J,Ab⟩=Ac u)/\z.frozen? ⟨sg,J,Ab⟩=false/\Ze (z.setCell ⟨sg,J,Ab⟩ (Aa O r.n.nw)) B b (r.sendE J) (x.sent v y)/\Ai B z (z.setCell ⟨sg,J,Ab⟩ (Aa O r.n.nw))):=λz v y hz=>by
      have ce:Zc inC 1 3 z B (I (Ac ⟨sg,0,Ab⟩) r.n.st.length sc) r.n.st:=by rw [<-al.out];exact hz.st
      have aq:=ce.there Z16 J (by have:=d.out;omega);rw [Nat.zero_add] at aq;have h5:=hz.stAt (show (x.sent v y).vt=_ from al.out) J d r.n.nw;exact ⟨hz.blk.cell 9,by rw [<-al.out];exact hz.blk.cell 17,Option.isSome_iff_exists.1 aq.1,aq.2,h5.1,h5.2⟩
     clear ae ad am aj HC bh;have G1:=Z0 trivial;have bx:(J:Int)<(r.n.st.length:Int):=by have:=d.out;omega
     have a9:IntKind.i64.wrap ((J:Int)+1-1)=(J:Int):=by simp [IntKind.wrap,IntKind.bits,IntKind.signed];omega
     rcases cg with bm | ⟨bm,b2⟩
     ·go_upto_region 9 with (first
       |(have ar:=G1;refine Zd 43 (.tmp 5) rfl ?_;clear ar;refine Z7 rfl 43 (.tmp 5) rfl w.heap.size rfl m underlying43 rfl Yc rfl ?_;clear G1)
       |(go_at_call 146;refine ai.mono ?_;rintro e w5 ⟨v5,y5,rfl,ac,f,az⟩;obtain ⟨d9,b0,⟨du,dJ⟩,fJ,aa,q⟩:=bv.out w5 v5 y5 ac;have HF:Ah (Ze (w5.setCell ⟨sg,J,Ab⟩ (Aa O r.n.nw)) B b (r.sendE J) (x.sent v5 y5)/\Ai B w (w5.setCell ⟨sg,J,Ab⟩ (Aa O r.n.nw))):=⟨aa,((a.mono ao).trans f).trans q⟩;clear ac f az aa q))
      have bi:(J:Int)<(r.n.st.length:Int):=by have:=d.out;omega
      have bg:(0:Int)<=(J:Int):=by omega
      have ba:IntKind.i64.wrap ((J:Int)+1-1)=(J:Int):=by simp [IntKind.wrap,IntKind.bits,IntKind.signed];omega
      have a4:IntKind.i64.wrap (J:Int)=(J:Int):=by simp [IntKind.wrap,IntKind.bits,IntKind.signed];omega
      go_region
      all_goals go_wp2
      all_goals exact bodyPost_end (Au rfl _ _ _) rfl ⟨_,_,rfl,HF.1.drew,HF.2.drew⟩
     ·go_upto_region 9 with (first
       |(have ar:=G1;refine Zd 43 (.tmp 5) rfl ?_;clear ar;refine Z7 rfl 43 (.tmp 5) rfl w.heap.size rfl m underlying43 rfl Yc rfl ?_;clear G1)
       |(go_at_call 146;refine ai.mono ?_;rintro e w5 ⟨v5,y5,rfl,ac,f,az⟩;obtain ⟨d9,b0,⟨du,dJ⟩,fJ,aa,q⟩:=bv.out w5 v5 y5 ac;have HF:Ah (Ze (w5.setCell ⟨sg,J,Ab⟩ (Aa O r.n.nw)) B b (r.sendE J) (x.sent v5 y5)/\Ai B w (w5.setCell ⟨sg,J,Ab⟩ (Aa O r.n.nw))):=⟨aa,((a.mono ao).trans f).trans q⟩;clear ac f az aa q))
      have bi:(J:Int)<(r.n.st.length:Int):=by have:=d.out;omega
      have bg:(0:Int)<=(J:Int):=by omega
      have ba:IntKind.i64.wrap ((J:Int)+1-1)=(J:Int):=by simp [IntKind.wrap,IntKind.bits,IntKind.signed];omega
      have a4:IntKind.i64.wrap (J:Int)=(J:Int):=by simp [IntKind.wrap,IntKind.bits,IntKind.signed];omega
      go_region
      all_goals go_wp2
      all_goals exact bodyPost_end (Au rfl _ _ _) rfl ⟨_,_,rfl,HF.1.drew,HF.2.drew⟩
structure LdB (n:Nd) (N:Nat):Prop where
 nxl:n.nx.length=N
 stl:n.st.length=N
 nx:∀ J (h:J<n.nx.length),(J:Int)+1≠n.id->∃ P:Nat,P<=n.log.length/\n.nx[J]=(P:Int)+1
theorem sendK_n (r:Rn):∀ k,∃ s,(Rn.sendK k r).n={ r.n with st:=s }/\s.length=r.n.st.length
 | 0=>⟨r.n.st,rfl,rfl⟩
 | k+1=>by
  obtain ⟨s,b,a⟩:=sendK_n r k;rw [Rn.sendK];split
  ·exact ⟨s,b,a⟩
  ·refine ⟨s.set k r.n.nw,?_,by rw [List.length_set];exact a⟩
   show ({ (Rn.sendK k r).n with st:=(Rn.sendK k r).n.st.set k (Rn.sendK k r).n.nw } : Nd)=_;rw [b]
theorem NdB.st {n:Nd}(h:NdB n)(s:List Int):NdB { n with st:=s }:=⟨h.nw0,h.nw1,h.hd0,h.hd1,h.sz0,h.sz1,h.id0,h.id1,h.ln⟩
theorem Z4s (b:Nat)(r:Rn)(x:RV)(w:Ag)(B:Nat)(h:Ze w B b r x)(u:NdB r.n)(hl:x.L.length<=900)(hd:LdB r.n r.n.sz.toNat) :
  Ar Ad 126 #[Ae (Ac ⟨b,0,Ab⟩)] w λe w'=>∃ x',e=Aj (.tuple #[])/\Ze w' B b r.sendAll x'/\Ai B w w'/\x'.L.length<=x.L.length+7:=by
 obtain ⟨N,hN⟩:∃ N:Nat,r.n.sz=N:=⟨r.n.sz.toNat,by have:=u.sz0;omega⟩;have l:r.n.sz.toNat=N:=by omega
 have aj:N<=7:=by have:=u.sz1;omega
 have HQ:Ah (r.sendAll=r.sendK N):=by unfold Ah Rn.sendAll;rw [l]
 rw [l] at hd
 have ac:Ah (∀ k,k<N->(k:Int)+1≠r.n.id->∀ z a,Ze z B b (Rn.sendK k r) a->a.L.length<=1000->Ar Ad 116 #[Ae (Ac ⟨b,0,Ab⟩),Aa O ((k:Int)+1)] z λe w'=>∃ v y,e=Aj (.tuple #[])/\Ze w' B b ((Rn.sendK k r).sendE k) (a.sent v y)/\Ai B z w'):=λk hk hne z a hz hxl=>by
  obtain ⟨s,j,h2⟩:=sendK_n r k;have t:(Rn.sendK k r).n.nx=r.n.nx:=by rw [j]
  have m:(Rn.sendK k r).n.log=r.n.log:=by rw [j]
  have af:(Rn.sendK k r).n.st.length=r.n.st.length:=by rw [j];exact h2
  have q:k<r.n.nx.length:=by rw [hd.nxl];exact hk
  obtain ⟨P,hP,ab⟩:=hd.nx k q hne;exact Xy b _ a k P z B hz (by rw [j];exact u.st s) hxl (by rw [t];exact q) (by rw [af,hd.stl];exact hk) (by omega) (by simp only [t];exact ab) (by rw [m];exact hP)
 have HC:Ah (∀ k z a,Ze z B b (Rn.sendK k r) a->z.cell? ⟨b,0,Ab⟩=Ac (Aa O r.n.id)/\z.cell? ⟨b,1,Ab⟩=Ac (Aa O (N:Int))):=λk z a hz=>by
  obtain ⟨s,j,-⟩:=sendK_n r k;have a0:=hz.blk.cell 0;have a1:=hz.blk.cell 1;have e0:(Rn.sendK k r).n.id=r.n.id:=by rw [j]
  have e1:(Rn.sendK k r).n.sz=(N:Int):=by rw [j];exact hN
  exact ⟨by rw [<-e0];exact a0,by rw [<-e1];exact a1⟩
 have HR:=Z0 h;generalize r.sendAll=RA at *;clear h hd u hN l;go_enter func126,ntmps126;go_wp2
 go_loopw [2] (λiv wr=>∃(k:Nat) (a:RV),k<=N/\iv=Aa O ((k:Int)+1)/\Ze wr B b (Rn.sendK k r) a/\Ai B w wr/\a.L.length<=x.L.length+k) (λiv _=>N+1-(B0 iv).toNat)
 case atStart=>exact ⟨0,x,Nat.zero_le _,rfl,HR.out,An _ _,Ao _⟩
 case round=>
  obtain ⟨k,a,hk,rfl,hR,hB,hL⟩:=hrel;obtain ⟨c0,c1⟩:=HC.out k wr a hR;have f:=Z0 hR;have g:=Z0 hB;have d:=Z0 hL;clear hR hB hL;by_cases ag:k<N
  ·have ad:((k:Int)+1)<=(N:Int):=by omega
   by_cases c:(k:Int)+1=r.n.id
   ·have ae:(((k:Int)+1) != r.n.id)=false:=by rw [bne_eq_false_iff_eq];exact c
    have i:Ah (Rn.sendK (k+1) r=Rn.sendK k r):=by
     unfold Ah;rw [Rn.sendK,if_pos c]
    clear c;go_wp2
    go_roundw
    case rel=>exact ⟨k+1,a,by omega,by go_num,by rw [i.out];exact f,g.out,Ap d (by omega)⟩
    case measure=>simp [B0];omega
   ·have ae:(((k:Int)+1) != r.n.id)=true:=by rw [bne_iff_ne];exact c
    have i:Ah (Rn.sendK (k+1) r=(Rn.sendK k r).sendE k):=by
     unfold Ah;rw [Rn.sendK,if_neg c]
    have ai:Ah _:=ac.out k ag c wr a f (by have:=d.out;omega);clear c
    go_wp2_with (first
     |(go_at_call 116;refine Calls.mono ai ?_;rintro e w5 ⟨v5,y5,rfl,o,p⟩;have aa:=Z0 o;have ah:=Z0 (g.trans p);clear o p))
    go_roundw
    case rel=>exact ⟨k+1,a.sent v5 y5,by omega,by go_num,by rw [i.out];exact aa,ah.out,by have:=d.out;show (a.L ++ [y5]).length<=_;rw [Bc];simp;omega⟩
    case measure=>simp [B0];omega
  ·obtain rfl:k=N:=by omega
   have ad:¬((k:Int)+1)<=(k:Int):=by omega
   go_wp2
   (try simp only [Av,Exit.then])
   exact bodyPost_end (Au rfl _ _ _) rfl ⟨rfl,a,by rw [HQ.out];exact f,g.out,Ap d (by omega)⟩
theorem Ze.logAt {w w2 c:Ag}{B b:Nat}{r:Rn}{x:RV}{v:Value}{l:List Ent}(h:Ze w B b r x)(hL:x.L = [])(h2:Ai w.heap.size w w2)(ho:Zh c B v l)(y:Ye w2 x.vl c v) :
  Ze (c.setCell ⟨b,12,Ab⟩ v) B b { r with n:={ r.n with log:=l } } { x with vl:=v }/\Ai B w (c.setCell ⟨b,12,Ab⟩ v):=by
 have ac:=h2.size;have i:∀ k,x.vl.ownBlock=Ac k->B<=k/\k<w.heap.size/\k≠b:=λk e=>⟨(World.ownsRow.lt h.log.2 k e).1,(World.ownsRow.lt h.log.2 k e).2,Y5 h.log h.blk (by decide) k e⟩
 have m:∀ k,k<w.heap.size->x.vl.ownBlock≠Ac k->c.heap[k]? = w.heap[k]?:=λk hk hne=>(y.g.block k (by omega) (λe=>hne e.symm)).trans (h2.block k hk)
 have s:=h.blk.keep (m b h.lt λe=>(i b e).2.2 rfl);have d:∀ k,k≠b->(c.setCell ⟨b,12,Ab⟩ v).heap[k]? = c.heap[k]?:=λk hk=>Below.heap_setCell _ _ _ _ hk
 have a:∀ {α:Type} {cs:α->List Value} {m':Nat} {T:Ax} {u:Value} {l:List α},T≠112->T≠118->Zc cs m' T w B u l->Zc cs m' T (c.setCell ⟨b,12,Ab⟩ v) B u l:=λh1 hT ho'=>ho'.block λk e=>(d k (Zm ho' h.blk h1 k e)).trans (m k (ho'.lts k e).2 λe'=>by
  obtain ⟨-,-,⟨t,-⟩ | ⟨g,cap,ad,t,-,f,-⟩⟩:=h.log
  ·rw [t] at e';cases e'
  obtain ⟨-,⟨z,-⟩ | ⟨g2,aa,ab,z,-,o,-⟩⟩:=ho'
  ·rw [z] at e;cases e
  rw [t] at e';rw [z] at e;cases e';cases e;rw [o] at f;simp only [Option.some.injEq,Obj.cells.injEq] at f;exact hT f.2.1)
 refine ⟨⟨s.set 12 v,h.lo,ho.block λk e=>d k ?_,a (by decide) (by decide) h.gr,a (by decide) (by decide) h.nx,a (by decide) (by decide) h.mt,a (by decide) (by decide) h.se,a (by decide) (by decide) h.st,a (by decide) (by decide) h.out,h.outC,?_,h.ap⟩,?_⟩
 ·rcases y.at' with e' | ⟨g,e',hk⟩
  ·rw [e] at e';exact (i k e'.symm).2.2
  ·rw [e] at e';cases e';have:=h.lt;omega
 ·intro p hp
  have j:=hp;rw [hL] at j;cases j
 ·refine Below.setCell (p:=⟨b,12,Ab⟩) (w:=c) ?_ h.lo v
  have q:=Ap h.lo (Be h.lt);exact ((An B w).trans (h2.mono q)).grown y.g (by omega) (λk e=>(i k e).1)
end Go.Proofs.YtmmpoppgabadmaaGreat
