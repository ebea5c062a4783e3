import Derived.Test.YtmmpoppgabadmaaGreatG06
set_option linter.unusedVariables false
set_option linter.unusedSimpArgs false
set_option maxRecDepth 100000
set_option maxHeartbeats 16000000
open Go.Value renaming slice → I,int → Aa
open Go.IntKind renaming i64 → O
open _root_.Option renaming none → Ab,some → Ac
open Go.RowKit renaming Hid → Ah,Below → Ai
open _root_.Nat renaming le_trans → Ap,le_of_lt → Be
open Go renaming results_none → Au,bodyPost_ret → A8
open Go.Exit renaming inBlock → Av
namespace Go.Proofs.YtmmpoppgabadmaaGreat
open Go.RowKit
theorem Ze.blkGrew {w d c:World}{B b:Nat}{r:Rn}{x:RV}{u v:Value}(h:Ze w B b r x)(a:Ai w.heap.size w d)(i:∀ k,u.ownBlock=Ac k->k≠b)(f:Ye d u c v):Blk c b (rnC r x) 112:=
 h.blk.keep ((f.g.block b (Nat.lt_of_lt_of_le h.lt a.size) (λe=>i b e.symm rfl)).trans (a.block b h.lt))
def ldN (R:Rn)(nx mt se st:List Int):Rn:={ R with n:={ R.n with nx:=nx,mt:=mt,se:=se,st:=st } }
def lv (id:Int)(k:Nat)(y:Int):Int:=if (k:Int)+1=id then 0 else y
theorem Z5a (id:Int)(k:Nat)(y:Int):Zw id (k+1) y=Zw id k y ++ [lv id k y]:=by
 unfold Zw lv;rw [List.range_succ,List.map_append];rfl
theorem Xk (id:Int)(k:Nat)(y:Int):(Zw id k y).length=k:=by unfold Zw;simp
theorem lv_zero (id:Int)(k:Nat):lv id k 0=0:=by unfold lv;split <;> rfl
theorem leadL_get (id:Int)(k:Nat)(y:Int)(J:Nat)(h:J<k):(Zw id k y)[J]? = Ac (lv id J y):=by unfold Zw lv;simp [h]
def vrB (n:Nd)(m:Mg):Bool:=(n.ro != 2) || (m.tm != n.tm) || (m.ok != 1) || Z2e m.fr n.gr
theorem vrB_iff (n:Nd)(m:Mg):vrB n m=true↔n.ro≠2∨m.tm≠n.tm∨m.ok≠1∨m.fr∈n.gr:=by
 unfold vrB Z2e;simp [or_assoc]
def e0 (t:Int):Ent:=⟨t,0,0,0,⟨#[]⟩,⟨#[]⟩,⟨#[]⟩⟩
def leadR (r:Rn):Rn:={ r.lone with n:={ r.lone.n with ro:=3,ld:=r.n.id } }
def Z1l (r:Rn):Rn:=let R:=ldN (leadR r) (Zw r.n.id r.n.sz.toNat ((r.n.log.length:Int)+1)) (Zw r.n.id r.n.sz.toNat 0) (Zw r.n.id r.n.sz.toNat r.n.nw) (Zw r.n.id r.n.sz.toNat r.n.nw)
 { R with n:={ R.n with log:=if r.n.log.length<4096 then r.n.log ++ [e0 r.n.tm] else r.n.log } }
theorem lead_eq (r:Rn):r.lead=(Z1l r).sendAll:=rfl
theorem Z8i (r:Rn)(a:NdB r.n):LdB (Z1l r).n (Z1l r).n.sz.toNat/\NdB (Z1l r).n:=by
 have b:(Z1l r).n.log=if r.n.log.length<4096 then r.n.log ++ [e0 r.n.tm] else r.n.log:=rfl
 have g:r.n.log.length<=(Z1l r).n.log.length:=by rw [b];split <;> simp
 have f:(Z1l r).n.log.length<=4096:=by rw [b];have:=a.ln;split <;> simp <;> omega
 refine ⟨⟨Xk _ _ _,Xk _ _ _,?_⟩,⟨a.nw0,a.nw1,a.hd0,a.hd1,a.sz0,a.sz1,a.id0,a.id1,f⟩⟩;intro J d e;refine ⟨r.n.log.length,g,?_⟩;have c:(J:Int)+1≠r.n.id:=e;have i:J<r.n.sz.toNat:=by rw [show (Z1l r).n.nx=Zw r.n.id r.n.sz.toNat ((r.n.log.length:Int)+1) from rfl,Xk] at d;exact d
 have h:(Z1l r).n.nx[J]? = Ac ((r.n.log.length:Int)+1):=by
  rw [show (Z1l r).n.nx=Zw r.n.id r.n.sz.toNat ((r.n.log.length:Int)+1) from rfl,leadL_get _ _ _ _ i];unfold lv;rw [if_neg c]
 exact Option.some.inj ((List.getElem?_eq_getElem d).symm.trans h)
theorem Z7j (b:Nat)(r:Rn)(x:RV)(m:Mg)(ea:Option Addr)(en ec:Nat)(w:World)(B:Nat)(h:Ze w B b r x)(hb:NdB r.n)(hd : -(2^63)<=r.draw)(hD:r.draw<2^63)(hL:x.L = [])(c3:r.n.sz%2=1)(dt:r.n.gr.length<=1000) :
  Calls Tryz.prog 122 #[.pointer (Ac ⟨b,0,Ab⟩),.agg (m.arrC (I ea en ec))] w λe w'=>∃ x',e=.returned (.tuple #[])/\Ze w' B b (r.voteReply m) x'/\Ai B w w':=by
 have al:Ah (∀ z,Ai w.heap.size w z->Ze z B b r x):=λz hz=>h.below hz
 have bi:=Ap h.lo (Be h.lt);have ei:=h.lt
 have HQ:Ah (r.voteReply m=if r.n.tm<m.tm then r.adopt m.tm else if r.n.ro≠2∨m.tm≠r.n.tm∨m.ok≠1∨m.fr∈r.n.gr then r.stale else
  if Xx (Zx r.n.gr m.fr r.n.sz.toNat).length r.n.sz=true then r.lead
  else { r with n:={ r.n with gr:=Zx r.n.gr m.fr r.n.sz.toNat } }):=rfl
 have cw:=Z0 λz hz=>Z1u b r x m.tm z B hz hd hD hb.nw0 hb.nw1
 generalize r.voteReply m=RP at *;obtain ⟨w1,be⟩:=exq (w.alloc (.cells (m.arrC (I ea en ec)) 43));have a1:Ah (Ai w.heap.size w w1):=by rw [be];exact baq
 have a4:Ah (Blk w1 w.heap.size (m.arrC (I ea en ec)) 43):=by rw [be];exact Blk.new _ _ _
 have dc:=a4.out.lt;have n3:w1.cell? ⟨w.heap.size,3,Ab⟩=Ac (Aa O m.tm):=a4.out.cell 3;have k4:w1.cell? ⟨b,4,Ab⟩=Ac (Aa O r.n.tm):=(al _ a1).blk.cell 4;go_enter Tryz.func122,Tryz.ntmps122
 go_upto_region 1 with fail
 rw [<-be];clear be;go_quiet (fail)
 obtain ⟨w4,b3⟩:=exq (w1.drewN nq);have bw:Ai w1.heap.size w1 w4:=by rw [b3];exact bdr
 rw [<-b3];have ad:=Z0 (a1.trans (bw.mono (by omega)));have am:=Z0 (a4.out.below bw dc);have ds:=am.out.lt;clear b3 bw k4 n3 a1 a4 dc
 go_upto_if 14 with fail
 by_cases ht:r.n.tm<m.tm
 ·have ao:=Z0 (HQ.trans (if_pos ht))
  have a3:=decide_eq_true ht;have n3:w4.cell? ⟨w.heap.size,3,Ab⟩=Ac (Aa O m.tm):=am.out.cell 3;rw [a3];clear HQ ht a3
  go_wp2_with (first
   |(go_at_call 149;refine (cw _ (al _ ad)).mono ?_;rintro e w5 ⟨rfl,h5,b5,-⟩;have H5:=Z0 h5;have B5:=Z0 ((ad.mono bi).trans b5);clear h5 b5))
  (try simp only [Av,Exit.then])
  exact A8 (Au rfl _ _ _) rfl ⟨_,rfl,by rw [ao.out];exact H5,B5.out⟩
 have cy:=HQ.trans (if_neg ht);have ao:Ah _:=cy;have a3:=decide_eq_false ht;rw [a3];clear HQ cy ht cw a3;obtain ⟨ga,gc,br⟩:=h.gr.shape;have d8:w4.cell? ⟨b,13,Ab⟩=Ac (I ga r.n.gr.length gc):=by rw [<-br];exact (al _ ad).blk.cell 13
 have k6:w4.cell? ⟨b,6,Ab⟩=Ac (Aa O r.n.ro):=(al _ ad).blk.cell 6;have k4:w4.cell? ⟨b,4,Ab⟩=Ac (Aa O r.n.tm):=(al _ ad).blk.cell 4;have n3:w4.cell? ⟨w.heap.size,3,Ab⟩=Ac (Aa O m.tm):=am.out.cell 3;have n7:w4.cell? ⟨w.heap.size,7,Ab⟩=Ac (Aa O m.ok):=am.out.cell 7;have n1:w4.cell? ⟨w.heap.size,1,Ab⟩=Ac (Aa O m.fr):=am.out.cell 1;have bn:Ah (∀ z,Ai w.heap.size w z->Calls Tryz.prog 99 #[I ga r.n.gr.length gc,Aa O m.fr] z λe w'=>e=.returned (.bool (Z2e m.fr r.n.gr))/\w'=z):=λz hz=>Z4j _ r.n.gr m.fr z (by rw [<-br];exact ownI_ix (h.below hz).gr (by omega))
 clear h br
 go_upto_region 3 with fail
 go_cut [49] (λs wx=>s=.bool (vrB r.n m)/\Ai w4.heap.size w4 wx)
 case first=>
  have HV:Ah (vrB r.n m=((r.n.ro != 2) || (m.tm != r.n.tm) || (m.ok != 1) || Z2e m.fr r.n.gr)):=rfl;have da:w4.heap.size<=w4.heap.size:=Nat.le_refl _;generalize vrB r.n m=VB at *;cases a6:(r.n.ro != 2)
  ·cases b0:(m.tm != r.n.tm)
   ·cases dp:(m.ok != 1)
    ·rw [a6,b0,dp] at HV
     go_quiet ((go_at_call 99;exact Calls.quiet_of_same (bn _ (ad.trans ⟨rfl,rfl,rfl,da,λ_ _=>rfl⟩))))
     go_wp2_with fail
     go_meet;exact ⟨by rw [HV.out];rfl,bdr⟩
    ·rw [a6,b0,dp] at HV
     go_quiet (fail)
     go_wp2_with fail
     go_meet;exact ⟨by rw [HV.out];rfl,bdr⟩
   ·rw [a6,b0] at HV
    go_quiet (fail)
    go_wp2_with fail
    go_meet;exact ⟨by rw [HV.out];rfl,bdr⟩
  ·rw [a6] at HV
   go_quiet (fail)
   go_wp2_with fail
   go_meet;exact ⟨by rw [HV.out];rfl,bdr⟩
 case rest=>
  obtain ⟨rfl,a9⟩:=hcut;obtain ⟨w6,di⟩:=exq (wc);rw [<-di] at a9;subst di;have ay:=Z0 (ad.trans (a9.mono (by omega)));have dq:w6.cell? ⟨w.heap.size,1,Ab⟩=Ac (Aa O m.fr):=(am.out.below a9 ds).cell 1;have aq:=Z0 (al _ ay);have d1:w6.cell? ⟨b,19,Ab⟩=Ac (Aa O r.code):=aq.blk.cell 19;have du:=aq.blk.free 19;clear a9 k4 k6 d8 n1 n3 n7 bn al ad am
  go_upto_if 49 with fail
  by_cases hv:vrB r.n m=true
  ·have az:=Z0 (ao.trans (if_pos ((vrB_iff _ _).1 hv)))
   rw [hv];clear ao hv
   go_wp2_with (fail)
   (try simp only [Av,Exit.then])
   refine A8 (Au rfl _ _ _) rfl ⟨x,rfl,?_,(ay.mono bi).trans (aq.setB 19 _)⟩;rw [az.out];exact aq.set 19 _
  have ae:vrB r.n m=false:=by simpa using hv
  have az:=ao.trans (if_neg λh=>hv ((vrB_iff _ _).2 h));rw [ae];obtain ⟨G,hG⟩:=exq (Zx r.n.gr m.fr r.n.sz.toNat);rw [<-hG] at az;have bh:Ah _:=az;have aw:Ah (Calls Tryz.prog 150 #[.pointer (Ac ⟨b,0,Ab⟩),Aa O m.fr] w6 λe w'=>∃ v,e=.returned (.bool (Xx G.length r.n.sz))/\Ze w' B b { r with n:={ r.n with gr:=G } } { x with vg:=v }/\Ai B w6 w'/\w6.grownBy w' (Ac b)):=by rw [hG];exact Z73 b r x m.fr w6 B aq hb c3 dt
  clear ao hv ae hG az d1 du;by_cases av:Xx G.length r.n.sz=true
  case neg=>
   have cd:=bh.trans (if_neg av);have cq:Xx G.length r.n.sz=false:=by simpa using av
   have a8:Ah _:=cd;rw [cq] at aw;clear bh cd av cq
   go_wp2_with (first
    |(go_at_call 150;refine Calls.mono aw ?_;rintro e w7 ⟨vg,rfl,h7,b7,-⟩;have bm:Ah _:=h7;have ba:=Z0 ((ay.mono bi).trans b7);clear h7 b7))
   (try simp only [Av,Exit.then])
   exact A8 (Au rfl _ _ _) rfl ⟨_,rfl,by rw [a8.out];exact bm,ba.out⟩
  have a8:=Z0 ((bh.trans (if_pos av)).trans (lead_eq r));rw [av] at aw;clear bh av;obtain ⟨RL,au⟩:=exq (leadR r)
  go_upto_region 7 with (first
   |(go_at_call 150;refine Calls.mono aw ?_;rintro e w7 ⟨vg,rfl,h7,b7,g7⟩;have bm:=Z0 h7;have ba:=Z0 ((ay.mono bi).trans b7);clear h7 b7 g7)
   |(go_at_call 114;refine Calls.mono (Z1m b _ _ w7 B bm) ?_;rintro e w8 ⟨rfl,h8,b8,-⟩;have ag:Ah _:=h8;have ce:=Z0 (ba.trans b8);clear h8 b8))
  have c6:w8.cell? ⟨b,6,Ab⟩=Ac (Aa O r.lone.n.ro):=ag.blk.cell 6;have f6:=ag.blk.free 6;have c7:w8.cell? ⟨b,7,Ab⟩=Ac (Aa O r.lone.n.ld):=ag.blk.cell 7;have f7:=ag.blk.free 7;have c0:w8.cell? ⟨b,0,Ab⟩=Ac (Aa O r.n.id):=ag.blk.cell 0
  go_upto_region 9 with fail
  obtain ⟨w9,bk⟩:=exq ((w8.setCell ⟨b,6,Ab⟩ (Aa O 3)).setCell ⟨b,7,Ab⟩ (Aa O r.n.id))
  have bb:Ah (Ze w9 B b RL x.lone):=by
   rw [bk,au];exact (ag.set (r':={ r.lone with n:={ r.lone.n with ro:=3 } }) 6 _ rfl rfl rfl rfl rfl rfl rfl rfl).set 7 _
  have bd:Ah (Ai B w w9):=by
   rw [bk];exact (ce.setCell (p:=⟨b,6,Ab⟩) ag.lo _).setCell (p:=⟨b,7,Ab⟩) ag.lo _
  rw [<-bk];clear bk c6 f6 c7 f7 c0 ag ce bm ba aq ay aw dq;obtain ⟨N,hN⟩:∃ N:Nat,r.n.sz=N:=⟨r.n.sz.toNat,by have:=hb.sz0;omega⟩;have eh:N<=7:=by have:=hb.sz1;omega
  have ej:=hb.ln;have HE:Ah (RL.n.sz=(N:Int)/\RL.n.id=r.n.id/\RL.n.nw=r.n.nw/\RL.n.log=r.n.log/\RL.n.tm=r.n.tm):=by rw [au];exact ⟨hN,rfl,rfl,rfl,rfl⟩
  have co:Ah (RL=ldN RL (Zw r.n.id 0 ((r.n.log.length:Int)+1)) (Zw r.n.id 0 0) (Zw r.n.id 0 r.n.nw) (Zw r.n.id 0 r.n.nw)):=by rw [au];rfl
  have bx:Ah (RP=Rn.sendAll { ldN RL (Zw r.n.id N ((r.n.log.length:Int)+1)) (Zw r.n.id N 0) (Zw r.n.id N r.n.nw) (Zw r.n.id N r.n.nw) with n:={ (ldN RL (Zw r.n.id N ((r.n.log.length:Int)+1)) (Zw r.n.id N 0) (Zw r.n.id N r.n.nw) (Zw r.n.id N r.n.nw)).n with log:=if r.n.log.length<4096 then r.n.log ++ [e0 r.n.tm] else r.n.log } }):=by
   unfold Ah;rw [a8.out,au];unfold Z1l;rw [hN];rfl
  have dm:=Z0 (Z8i r hb);have bc:Ah (Z1l r={ ldN RL (Zw r.n.id N ((r.n.log.length:Int)+1)) (Zw r.n.id N 0) (Zw r.n.id N r.n.nw) (Zw r.n.id N r.n.nw) with n:={ (ldN RL (Zw r.n.id N ((r.n.log.length:Int)+1)) (Zw r.n.id N 0) (Zw r.n.id N r.n.nw) (Zw r.n.id N r.n.nw)).n with log:=if r.n.log.length<4096 then r.n.log ++ [e0 r.n.tm] else r.n.log } }):=by rw [au];unfold Z1l;rw [hN];rfl
  clear au a8 hN hb
  go_upto_region 10 with fail
  go_loopw [4,5,6] (λjv _ _ wr=>∃ k:Nat,k<=N/\jv=Aa O ((k:Int)+1)/\∃ X,Ze wr B b (ldN RL (Zw r.n.id k ((r.n.log.length:Int)+1)) (Zw r.n.id k 0) (Zw r.n.id k r.n.nw) (Zw r.n.id k r.n.nw)) X/\X.L = []/\Ai B w wr) (λjv _ _ _=>N+1-(intOf jv).toNat)
  case atStart=>exact ⟨0,Nat.zero_le _,rfl,x.lone,by rw [<-co.out];exact bb,hL,bd.out⟩
  case round=>
   obtain ⟨k,hk,rfl,X,hR,cf,cg⟩:=hrel;have ar:=Z0 hR;have bg:=Z0 cg;have a7:=Z0 cf;have c1:wr.cell? ⟨b,1,Ab⟩=Ac (Aa O (N:Int)):=by rw [<-HE.out.1];exact hR.blk.cell 1
   obtain ⟨la,lc,ca⟩:=hR.log.shape;have c12:wr.cell? ⟨b,12,Ab⟩=Ac (I la r.n.log.length lc):=by rw [<-HE.out.2.2.2.1];exact ca ▸ hR.blk.cell 12
   have c9:wr.cell? ⟨b,9,Ab⟩=Ac (Aa O r.n.nw):=by rw [<-HE.out.2.2.1];exact hR.blk.cell 9
   have c0:wr.cell? ⟨b,0,Ab⟩=Ac (Aa O r.n.id):=by rw [<-HE.out.2.1];exact hR.blk.cell 0
   have c4:wr.cell? ⟨b,4,Ab⟩=Ac (Aa O r.n.tm):=by rw [<-HE.out.2.2.2.2];exact hR.blk.cell 4
   have b6:Ah (X.vl=I la r.n.log.length lc):=by rw [<-HE.out.2.2.2.1];exact ca
   clear hR cf cg ca bb bd;by_cases er:k<N
   ·have d4:((k:Int)+1)<=(N:Int):=by omega
    have ep:IntKind.i64.wrap ((r.n.log.length:Int)+1)=(r.n.log.length:Int)+1:=wry
    go_upto_region 12 with fail
    go_quiet (fail)
    obtain ⟨wa,bq⟩:=exq (wr.drewN nq);have bv:Ai wr.heap.size wr wa:=by rw [bq];exact bdr
    have d:=Z0 (ar.below bv);have d2:=Z0 (bg.trans (bv.mono (Ap ar.lo (Be ar.lt))));rw [<-bq];clear bq bv c1 c12 c9 c0 c4 b6 ar bg;have c0:wa.cell? ⟨b,0,Ab⟩=Ac (Aa O r.n.id):=by rw [<-HE.out.2.1];exact d.blk.cell 0
    go_upto_if 100 with fail
    go_cut [4,5,6] (λs4 s5 s6 wx=>s4=Aa O ((k:Int)+1)/\s5=Aa O (lv r.n.id k ((r.n.log.length:Int)+1))/\s6=Aa O (lv r.n.id k r.n.nw)/\wx=wa)
    case first=>
     by_cases hj:(k:Int)+1=r.n.id
     ·have ax:(((k:Int)+1) == r.n.id)=true:=by simpa using hj
      have H1:Ah (lv r.n.id k ((r.n.log.length:Int)+1)=0/\lv r.n.id k r.n.nw=0):=by unfold lv Ah;rw [if_pos hj,if_pos hj];exact ⟨rfl,rfl⟩
      rw [ax];clear hj ax
      go_wp2_with fail
      go_meet;exact ⟨rfl,by rw [H1.out.1],by rw [H1.out.2],rfl⟩
     ·have ax:(((k:Int)+1) == r.n.id)=false:=by simpa using hj
      have H1:Ah (lv r.n.id k ((r.n.log.length:Int)+1)=(r.n.log.length:Int)+1/\lv r.n.id k r.n.nw=r.n.nw):=by unfold lv Ah;rw [if_neg hj,if_neg hj];exact ⟨rfl,rfl⟩
      rw [ax];clear hj ax
      go_wp2_with fail
      go_meet;exact ⟨rfl,by rw [H1.out.1],by rw [H1.out.2],rfl⟩
    case rest=>
     obtain ⟨rfl,rfl,rfl,d5⟩:=hcut;have cp:=d5.symm;subst cp;have bz:Ah (Zw r.n.id (k+1) ((r.n.log.length:Int)+1)=Zw r.n.id k ((r.n.log.length:Int)+1) ++ [lv r.n.id k ((r.n.log.length:Int)+1)]/\Zw r.n.id (k+1) 0=Zw r.n.id k 0 ++ [0]/\Zw r.n.id (k+1) r.n.nw=Zw r.n.id k r.n.nw ++ [lv r.n.id k r.n.nw]):=⟨Z5a _ _ _,by rw [Z5a,lv_zero],Z5a _ _ _⟩;have bj:Ah (∀ y,(Zw r.n.id k y).length=k):=λy=>Xk _ _ _
     generalize lv r.n.id k ((r.n.log.length:Int)+1)=A5 at *;generalize lv r.n.id k r.n.nw=A6 at *;have dj:=bj.out ((r.n.log.length:Int)+1);have cx:=bj.out 0;have dg:=bj.out r.n.nw;have eb:Ah _:=dj;have a0:Ah _:=cx;have ch:Ah _:=dg;clear dj cx dg bj;generalize Zw r.n.id k ((r.n.log.length:Int)+1)=LN at *;generalize Zw r.n.id k 0=LM at *;generalize Zw r.n.id k r.n.nw=LS at *;obtain ⟨na,nn,nc,f⟩:∃ a n c,X.vn=I a n c:=by obtain ⟨a,c,e⟩:=d.nx.shape;exact ⟨a,_,c,e⟩
     have q:wa.cell? ⟨b,14,Ab⟩=Ac (I na nn nc):=by rw [<-f];exact d.blk.cell 14
     have HO:Ah (Zc inC 1 3 wa B (I na nn nc) LN):=by unfold Ah;rw [<-f];exact d.nx
     have aj:=d.lt;have ak:=Ap d.lo (Be d.lt);have i:LN.length<=1000000:=by have:=eb.out;omega
     have t:=Z0 f;clear f
     go_upto_region 17 with (first
      |(at_builtin;refine Yl Z16 rfl _ _ rfl A5 (HO.below baq) rfl _ 1 (Blk.new _ _ _).range rfl i (by simp;omega) ?_;intro v2 w2 ac l;obtain ⟨a2,n2,c2,ae⟩:∃ a n c,v2=I a n c:=(by obtain ⟨a,c,e⟩:=ac.shape;exact ⟨a,_,c,e⟩);subst ae;have ab:=Z0 (d.blkGrew baq (λk e=>Zm HO d.blk (by decide) k e) l);have aa:Ah _:=d.nxNew baq ac (by rw [t.out];exact l);have pq:w2.cell? ⟨b,14,Ab⟩=Ac (I na nn nc):=(by rw [<-t.out];exact ab.cell 14);have pf:=ab.free 14;clear ac l))
     obtain ⟨wb,hY⟩:=exq (w2.setCell ⟨b,14,Ab⟩ (I a2 n2 c2));rw [<-hY];obtain ⟨X1,u⟩:∃ Xn:RV,Xn={ X with vn:=I a2 n2 c2 }:=⟨_,rfl⟩;have ai:Ah (Ze wb B b (ldN RL (LN ++ [A5]) LM LS LS) X1):=by rw [hY,u];exact aa.1
     have a1:Ah (Ai B w wb):=by rw [hY];exact d2.trans aa.2.1
     have dk:Ah (X1.L = []):=by rw [u];exact a7
     clear hY u aa ab pq pf HO q i t aj ak;obtain ⟨na,nn,nc,f⟩:∃ a n c,X1.vm=I a n c:=by obtain ⟨a,c,e⟩:=ai.mt.shape;exact ⟨a,_,c,e⟩
     have q:wb.cell? ⟨b,15,Ab⟩=Ac (I na nn nc):=by rw [<-f];exact ai.blk.cell 15
     have HO:Ah (Zc inC 1 3 wb B (I na nn nc) LM):=by unfold Ah;rw [<-f];exact ai.mt
     have aj:=ai.lt;have ak:=Ap ai.lo (Be ai.lt);have i:LM.length<=1000000:=by have:=a0.out;omega
     have t:=Z0 f;clear f
     go_upto_region 18 with (first
      |(at_builtin;refine Yl Z16 rfl _ _ rfl 0 (HO.below baq) rfl _ 1 (Blk.new _ _ _).range rfl i (by simp;omega) ?_;intro v2 w2 ac l;obtain ⟨a2,n2,c2,ae⟩:∃ a n c,v2=I a n c:=(by obtain ⟨a,c,e⟩:=ac.shape;exact ⟨a,_,c,e⟩);subst ae;have ab:=Z0 (ai.blkGrew baq (λk e=>Zm HO ai.blk (by decide) k e) l);have aa:Ah _:=ai.mtNew baq ac (by rw [t.out];exact l);have pq:w2.cell? ⟨b,15,Ab⟩=Ac (I na nn nc):=(by rw [<-t.out];exact ab.cell 15);have pf:=ab.free 15;clear ac l))
     obtain ⟨wc,hY⟩:=exq (w2.setCell ⟨b,15,Ab⟩ (I a2 n2 c2));rw [<-hY];obtain ⟨X2,u⟩:∃ Xn:RV,Xn={ X1 with vm:=I a2 n2 c2 }:=⟨_,rfl⟩;have af:Ah (Ze wc B b (ldN RL (LN ++ [A5]) (LM ++ [0]) LS LS) X2):=by rw [hY,u];exact aa.1
     have ee:Ah (Ai B w wc):=by rw [hY];exact a1.trans aa.2.1
     have cu:Ah (X2.L = []):=by rw [u];exact dk
     clear hY u aa ab pq pf HO q i t aj ak;obtain ⟨na,nn,nc,f⟩:∃ a n c,X2.vs=I a n c:=by obtain ⟨a,c,e⟩:=af.se.shape;exact ⟨a,_,c,e⟩
     have q:wc.cell? ⟨b,16,Ab⟩=Ac (I na nn nc):=by rw [<-f];exact af.blk.cell 16
     have HO:Ah (Zc inC 1 3 wc B (I na nn nc) LS):=by unfold Ah;rw [<-f];exact af.se
     have aj:=af.lt;have ak:=Ap af.lo (Be af.lt);have i:LS.length<=1000000:=by have:=ch.out;omega
     have t:=Z0 f;clear f
     go_upto_region 19 with (first
      |(at_builtin;refine Yl Z16 rfl _ _ rfl A6 (HO.below baq) rfl _ 1 (Blk.new _ _ _).range rfl i (by simp;omega) ?_;intro v2 w2 ac l;obtain ⟨a2,n2,c2,ae⟩:∃ a n c,v2=I a n c:=(by obtain ⟨a,c,e⟩:=ac.shape;exact ⟨a,_,c,e⟩);subst ae;have ab:=Z0 (af.blkGrew baq (λk e=>Zm HO af.blk (by decide) k e) l);have aa:Ah _:=af.seNew baq ac (by rw [t.out];exact l);have pq:w2.cell? ⟨b,16,Ab⟩=Ac (I na nn nc):=(by rw [<-t.out];exact ab.cell 16);have pf:=ab.free 16;clear ac l))
     obtain ⟨wd,hY⟩:=exq (w2.setCell ⟨b,16,Ab⟩ (I a2 n2 c2));rw [<-hY];obtain ⟨X3,u⟩:∃ Xn:RV,Xn={ X2 with vs:=I a2 n2 c2 }:=⟨_,rfl⟩;have ah:Ah (Ze wd B b (ldN RL (LN ++ [A5]) (LM ++ [0]) (LS ++ [A6]) LS) X3):=by rw [hY,u];exact aa.1
     have d9:Ah (Ai B w wd):=by rw [hY];exact ee.trans aa.2.1
     have dn:Ah (X3.L = []):=by rw [u];exact cu
     clear hY u aa ab pq pf HO q i t aj ak;obtain ⟨na,nn,nc,f⟩:∃ a n c,X3.vt=I a n c:=by obtain ⟨a,c,e⟩:=ah.st.shape;exact ⟨a,_,c,e⟩
     have q:wd.cell? ⟨b,17,Ab⟩=Ac (I na nn nc):=by rw [<-f];exact ah.blk.cell 17
     have HO:Ah (Zc inC 1 3 wd B (I na nn nc) LS):=by unfold Ah;rw [<-f];exact ah.st
     have aj:=ah.lt;have ak:=Ap ah.lo (Be ah.lt);have i:LS.length<=1000000:=by have:=ch.out;omega
     have t:=Z0 f;clear f
     go_upto_region 11 with (first
      |(at_builtin;refine Yl Z16 rfl _ _ rfl A6 (HO.below baq) rfl _ 1 (Blk.new _ _ _).range rfl i (by simp;omega) ?_;intro v2 w2 ac l;obtain ⟨a2,n2,c2,ae⟩:∃ a n c,v2=I a n c:=(by obtain ⟨a,c,e⟩:=ac.shape;exact ⟨a,_,c,e⟩);subst ae;have ab:=Z0 (ah.blkGrew baq (λk e=>Zm HO ah.blk (by decide) k e) l);have aa:Ah _:=ah.stNew baq ac (by rw [t.out];exact l);have pq:w2.cell? ⟨b,17,Ab⟩=Ac (I na nn nc):=(by rw [<-t.out];exact ab.cell 17);have pf:=ab.free 17;clear ac l))
     obtain ⟨we,hY⟩:=exq (w2.setCell ⟨b,17,Ab⟩ (I a2 n2 c2));rw [<-hY];obtain ⟨X4,u⟩:∃ Xn:RV,Xn={ X3 with vt:=I a2 n2 c2 }:=⟨_,rfl⟩;have dx:Ah (Ze we B b (ldN RL (LN ++ [A5]) (LM ++ [0]) (LS ++ [A6]) (LS ++ [A6])) X4):=by rw [hY,u];exact aa.1
     have ad:Ah (Ai B w we):=by rw [hY];exact d9.trans aa.2.1
     have cn:Ah (X4.L = []):=by rw [u];exact dn
     clear hY u aa ab pq pf HO q i t aj ak
     go_wp2_with fail
     go_roundw
     case rel=>exact ⟨k+1,by omega,by go_num,X4,by rw [bz.out.1,bz.out.2.1,bz.out.2.2];exact dx,cn.out,ad.out⟩
     case measure=>simp [intOf];omega
   ·obtain rfl:k=N:=by omega
    have d4:¬((k:Int)+1)<=(k:Int):=by omega
    have d:=Z0 ar;have bu:Ah ((ldN RL (Zw r.n.id k ((r.n.log.length:Int)+1)) (Zw r.n.id k 0) (Zw r.n.id k r.n.nw) (Zw r.n.id k r.n.nw)).n.log=r.n.log):=HE.2.2.2.1;obtain ⟨RK,cz⟩:=exq (ldN RL (Zw r.n.id k ((r.n.log.length:Int)+1)) (Zw r.n.id k 0) (Zw r.n.id k r.n.nw) (Zw r.n.id k r.n.nw));rw [<-cz] at d bu bx bc;clear cz ar co HE;obtain ⟨LG,bp⟩:=exq (if r.n.log.length<4096 then r.n.log ++ [e0 r.n.tm] else r.n.log);rw [<-bp] at bx bc;have cj:=Z0 bp;clear bp
    go_upto_if 154 with fail
    go_cut [] (λwx=>∃ X5,Ze wx B b { RK with n:={ RK.n with log:=LG } } X5/\X5.L = []/\Ai B w wx)
    case first=>
     by_cases an:r.n.log.length<4096
     ·have em:decide ((r.n.log.length:Int)<4096)=true:=by simp;omega
      have aj:=d.lt;have cc:Ah (Zh wr B (I la r.n.log.length lc) r.n.log):=by unfold Ah;rw [<-b6.out,<-bu.out];exact d.log
      have c8:=Z0 d.blk
      have db:Ah (∀ w5 v5,Zh w5 B v5 (r.n.log ++ [e0 r.n.tm])->∀ w4,Ai wr.heap.size wr w4->Ye w4 (I la r.n.log.length lc) w5 v5->Ze (w5.setCell ⟨b,12,Ab⟩ v5) B b { RK with n:={ RK.n with log:=r.n.log ++ [e0 r.n.tm] } } { X with vl:=v5 }/\Ai B w (w5.setCell ⟨b,12,Ab⟩ v5)):=λw5 v5 ho w4 h4 hg=>by
       rw [<-b6.out] at hg;have h9:=d.logAt a7 h4 ho hg;exact ⟨h9.1,bg.trans h9.2⟩
      have dw:=Z0 cc.1;have d0:=Z0 λe=>Y5 cc c8.out (by decide) _ e rfl
      have dy:Ah (Ent.fits (e0 r.n.tm)):=⟨by show (0:Nat)<=maxLen;omega,by show (0:Nat)<=maxLen;omega,by show (0:Nat)<=maxLen;omega⟩;have ek:r.n.log.length<=4096:=by omega
      have ak:=Ap d.lo (Be d.lt);have pa:∀(o:Obj) (j:Nat),(wr.alloc o).cell? ⟨b,j,Ab⟩=wr.cell? ⟨b,j,Ab⟩:=λo j=>World.cell?_alloc_lt _ _ _ (by show b<wr.heap.size;omega)
      have eq:∀(o:Obj) (j:Nat),(wr.drew.alloc o).cell? ⟨b,j,Ab⟩=wr.cell? ⟨b,j,Ab⟩:=λo j=>World.cell?_alloc_lt _ _ _ (by show b<wr.heap.size;omega)
      have eg:¬ wr.heap.size=b:=by omega
      have ef:¬ b=wr.heap.size:=by omega
      have a0:=Z0 (cj.trans (if_pos an));have d6:((r.n.log.length:Int)<4096):=by omega
      clear an
      go_upto_region 21 with fail
      go_region_law
       (refine Z00 entLaw rfl _ _ rfl (e0 r.n.tm) (Zc.below (Zc.below cc.g ((Below.refl _ _).drew)) baq) rfl _ 1 (Z04 wr.drew _ 118) rfl (by omega) (by simp;omega) ?_;intro v5 w5 b2 bo;have d7:=Z0 ((Zc.e b2 (by intro y hy;rcases List.mem_append.1 hy with hy | hy;exact dw y hy;rw [List.mem_singleton] at hy;subst hy;exact dy)));obtain ⟨a5,c5,dd⟩:=b2.shape;rw [List.length_append,List.length_singleton] at dd;have dz:Ah (Ye _ (I la r.n.log.length lc) w5 v5):=bo;have dh:=Z0 ((c8.out.drew.alloc _).keep (bo.g.block b (by simp;omega) (λe=>d0 e.symm)));obtain ⟨vq,eo⟩:∃ vq,w5.cell? ⟨b,12,Ab⟩=Ac vq:=⟨_,dh.out.cell 12⟩;have pf:=dh.out.free;subst dd;clear b2 bo)
      all_goals go_wp2_with fail
      all_goals go_meet
      all_goals (have h9:=db.out _ _ d7 _ ((Below.refl _ _).drew.alloc (Nat.le_refl _) _) dz;exact ⟨{ X with vl:=I a5 (r.n.log.length+1) c5 },by rw [a0.out];exact h9.1,a7.out,h9.2⟩)
     ·have d6:¬((r.n.log.length:Int)<4096):=by omega
      have a0:=Z0 (cj.trans (if_neg an));have H9:Ah (Ze wr B b { RK with n:={ RK.n with log:=r.n.log } } X):=by unfold Ah;rw [<-bu.out];exact d
      clear an
      go_wp2_with fail
      go_meet;exact ⟨X,by rw [a0.out];exact H9,a7.out,bg.out⟩
    case rest=>
     obtain ⟨X5,cv,dv,cr⟩:=hcut;have d3:Ah _:=Z4s b _ X5 wc B cv (by rw [<-bc.out];exact dm.2) (by rw [dv];simp) (by rw [<-bc.out];exact dm.1);have ed:=Z0 cr;clear cv cr
     go_wp2_with (first
      |(go_at_call 126;refine Calls.mono d3 ?_;rintro e w9 ⟨x9,rfl,de,ct,-⟩;have bb:Ah _:=de;have bd:=Z0 (ed.trans ct);clear de ct))
     (try simp only [Av,Exit.then])
     exact bodyPost_end (Au rfl _ _ _) rfl ⟨x9,rfl,by rw [bx.out];exact bb,bd.out⟩
end Go.Proofs.YtmmpoppgabadmaaGreat
