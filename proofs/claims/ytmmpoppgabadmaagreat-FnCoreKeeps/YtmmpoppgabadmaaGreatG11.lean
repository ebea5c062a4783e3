import Derived.Test.YtmmpoppgabadmaaGreatG09
import Derived.Test.YtmmpoppgabadmaaGreatG03
import Derived.Test.YtmmpoppgabadmaaGreatG07
import Derived.Test.YtmmpoppgabadmaaGreatG10
set_option linter.unusedVariables false
set_option linter.unusedSimpArgs false
set_option maxRecDepth 100000
set_option maxHeartbeats 16000000
open Go.Value renaming slice → I,int → Aa,pointer → Ae,agg → Aw
open Go.IntKind renaming i64 → O,wrap_i64 → Bl
open _root_.Option renaming none → Ab,some → Ac
open Go.Proofs.Tryz renaming prog → Ad
open Go renaming Value → Af,World → Ag,Calls → Ar,results_none → Au,TypeId → Ax,bodyPost_ret → A8
open Go.RowKit renaming Hid → Ah,Below → Ai,intOf → B0
open Go.Ending renaming returned → Aj
open Go.RowKit.Below renaming heap_setCell → Ak,refl → An
open _root_.Bool renaming and_eq_true → Al
open Go.Calls renaming mono → Am
open _root_.Nat renaming le_refl → Ao,le_trans → Ap,zero_le → Bb,le_of_lt → Be,lt_of_lt_of_le → Bk,lt_or_ge → B1
open _root_.List renaming getElem?_eq_getElem → As,getD_eq_getElem?_getD → Ba,length_set → Bg,setIfInBounds_toArray → Bj,getElem_mem → Bp,set_cons_succ → Bt,getElem?_eq_none → Bv,set_cons_zero → By
open Go.Exit renaming inBlock → Av
open _root_.Option.some renaming injEq → Bf
open _root_.Array renaming getElem?_eq_getElem → Bo
namespace Go.Proofs.YtmmpoppgabadmaaGreat
open Go.Proofs.Tryz
open Go.RowKit
structure LdM (n:Nd) (N:Nat):Prop where
 ldb:LdB n N
 mtl:n.mt.length=N
 sel:n.se.length=N
 mt:∀ J (h:J<n.mt.length) (h':J<n.nx.length),(J:Int)+1≠n.id->0<=n.mt[J]/\n.mt[J]<n.nx[J]
theorem l4agreed_run {w:Ag}{B b:Nat}{r:Rn}{x:RV}(h:Ze w B b r x)(q:NdB r.n)(p N:Nat)(z:Ag)(u:Ai w.heap.size w z)(o:1<=p)(m:p<=r.n.log.length)(hN:r.n.sz=N)(l:r.n.mt.length=N)(k:N<=7)(f:r.n.sz%2=1):Ar Ad 152 #[Aw (ndC r.n x),Aa O (p:Int)] z λe w'=>e=Aj (.bool (Z07 r.n p))/\Ai z.heap.size z w':=by
 have s:=(h.below u).es (by have:=q.ln;omega);have t:=ownI_ix (h.below u).mt (by omega);obtain ⟨y,v,i⟩:=h.log.shape;obtain ⟨a13,c13,g⟩:=h.gr.shape;obtain ⟨a14,c14,j⟩:=h.nx.shape;obtain ⟨a15,c15,a⟩:=h.mt.shape;obtain ⟨a16,c16,d⟩:=h.se.shape;obtain ⟨a17,c17,c⟩:=h.st.shape;unfold ndC;rw [i] at s;rw [a] at t;rw [i,g,j,a,d,c];exact l4agreed_any _ p N y _ v _ _ _ _ _ z s t (.mk _ _ _) (.mk _ _ _) (.mk _ _ _) (.mk _ _ _) (by have:=q.ln;omega) o m hN l k f
def arB (n:Nd)(m:Mg):Bool:=(n.ro != 3) || decide (m.tm<n.tm)
theorem arB_iff (n:Nd)(m:Mg):arB n m=true↔n.ro≠3∨m.tm<n.tm:=by unfold arB;simp
def arNo (r1:Rn)(m:Mg)(J:Nat):Rn:=
 if m.li≠r1.n.nx.getD J 0-1 then r1.stale else Rn.sendE { r1 with n:={ r1.n with nx:=r1.n.nx.set J (max (r1.n.mt.getD J 0+1) (min m.hi (m.li-1)+1)) } } J
def arMt (r1:Rn)(m:Mg)(J:Nat):Rn:={ r1 with n:={ r1.n with mt:=r1.n.mt.set J (max (r1.n.mt.getD J 0) m.li) } }
def arNx (r1:Rn)(m:Mg)(J:Nat):Rn:={ arMt r1 m J with n:={ (arMt r1 m J).n with nx:=r1.n.nx.set J (max (r1.n.nx.getD J 0) (max (r1.n.mt.getD J 0) m.li+1)) } }
def arCm (r:Rn):Rn:={ r with n:={ r.n with cm:=(Yx r.n r.n.cm.toNat r.n.log.length:Int) } }
def arYes (r1:Rn)(m:Mg)(J:Nat):Rn:=
 if (r1.n.log.length:Int)<m.li then r1.stale else if max (r1.n.nx.getD J 0) (max (r1.n.mt.getD J 0) m.li+1)<=(r1.n.log.length:Int) then (arCm (arNx r1 m J)).sendE J else arCm (arNx r1 m J)
theorem appReply_eq (r:Rn)(m:Mg)(J:Nat)(c:m.fr=(J:Int)+1):r.appReply m=if r.n.tm<m.tm then r.adopt m.tm else if arB r.n m=true then r.stale else if m.ok=0 then arNo { r with n:={ r.n with se:=r.n.se.set J r.n.nw } } m J else arYes { r with n:={ r.n with se:=r.n.se.set J r.n.nw } } m J:=by
 unfold Rn.appReply;split
 ·rfl
 by_cases a:arB r.n m=true
 ·rw [if_pos a];exact if_pos ((arB_iff _ _).1 a)
 ·rw [if_neg a,if_neg (λh=>a ((arB_iff _ _).2 h))]
  have b:(m.fr-1).toNat=J:=by omega
  simp only [b];rfl
theorem Z60 (b:Nat)(r:Rn)(x:RV)(m:Mg)(J:Nat)(ea:Option Addr)(en ec:Nat)(w:Ag)(B:Nat)(h:Ze w B b r x)(hb:NdB r.n)(hd : -(2^63)<=r.draw)(hD:r.draw<2^63)(hl:x.L.length<=900)(gd:r.n.sz%2=1)(hJ:m.fr=(J:Int)+1)(ii:(J:Int)+1<=r.n.sz)(fd:(J:Int)+1≠r.n.id)(gf:r.n.ro=3->LdM r.n r.n.sz.toNat)(h6:0<=r.n.cm)(h7:0<=m.li)(ia:m.li<=4096)(ie:0<=m.hi)(ih:m.hi<=4096) :
  Ar Ad 124 #[Ae (Ac ⟨b,0,Ab⟩),Aw (m.arrC (I ea en ec))] w λe w'=>∃ x',e=Aj (.tuple #[])/\Ze w' B b (r.appReply m) x'/\Ai B w w':=by
 have bm:Ah (∀ z,Ai w.heap.size w z->Ze z B b r x):=λz hz=>h.below hz
 have ba:=Ap h.lo (Be h.lt);have io:=h.lt;have HQ:Ah (r.appReply m=_):=appReply_eq r m J hJ;have ff:=Z0 λz hz=>Z1u b r x m.tm z B hz hd hD hb.nw0 hb.nw1
 have HJ:=Z0 hJ;clear hJ;generalize r.appReply m=RP at *;obtain ⟨w1,c7⟩:=exq (w.alloc (.cells (m.arrC (I ea en ec)) 43));have g:Ah (Ai w.heap.size w w1):=c7▸baq
 have cy:Ah (Blk w1 w.heap.size (m.arrC (I ea en ec)) 43):=c7▸Blk.new _ _ _
 have fi:=cy.out.lt;have n3:w1.cell? ⟨w.heap.size,3,Ab⟩=Ac (Aa O m.tm):=cy.out.cell 3;have k4:=(bm _ g).c4;clear h;go_enter func124,ntmps124
 go_upto_region 1 with fail
 rw [<-c7];clear c7;go_quiet (fail)
 obtain ⟨w4,er⟩:=exq (w1.drewN nq);have eg:Ai w1.heap.size w1 w4:=er▸bdr
 rw [<-er];have bq:=Z0 (g.trans (eg.mono (by omega)));have di:=Z0 (cy.out.below eg fi);have fb:=di.out.lt;clear er eg k4 n3 g cy fi;have n3:w4.cell? ⟨w.heap.size,3,Ab⟩=Ac (Aa O m.tm):=di.out.cell 3
 go_upto_if 13 with fail
 by_cases ht:r.n.tm<m.tm
 ·have bn:=Z0 (HQ.trans (if_pos ht))
  have cv:=decide_eq_true ht;rw [cv];clear HQ ht cv
  go_wp2_with (first
   |(go_at_call 149;refine (ff _ (bm _ bq)).mono ?_;rintro e w5 ⟨rfl,h5,b5,-⟩;have H5:=Z0 h5;have B5:=Z0 ((bq.mono ba).trans b5);clear h5 b5))
  (try simp only [Av,Exit.then])
  exact A8 (Au rfl _ _ _) rfl ⟨_,rfl,bn.out▸H5,B5.out⟩
 have fz:=HQ.trans (if_neg ht);have bn:Ah _:=fz;have cv:=decide_eq_false ht;rw [cv];clear HQ fz ht ff cv;have k6:=(bm _ bq).c6;have k4:=(bm _ bq).c4
 go_upto_region 3 with fail
 go_cut [33] (λs wx=>s=.bool (arB r.n m)/\Ai w4.heap.size w4 wx)
 case first=>
  have HV:Ah (arB r.n m=((r.n.ro != 3) || decide (m.tm<r.n.tm))):=rfl;generalize arB r.n m=VB at *;cases fo:(r.n.ro != 3)
  ·rw [fo] at HV
   go_quiet (fail)
   go_wp2_with fail
   go_meet;exact ⟨by rw [HV.out];rfl,bdr⟩
  ·rw [fo] at HV
   go_quiet (fail)
   go_wp2_with fail
   go_meet;exact ⟨by rw [HV.out];rfl,bdr⟩
 case rest=>
  obtain ⟨rfl,dd⟩:=hcut;obtain ⟨w6,fu⟩:=exq (wc);rw [<-fu] at dd;subst fu;have c0:=Z0 (bq.trans (dd.mono (by omega)));have dk:=Z0 (di.out.below dd fb);have gi:=dk.out.lt;have am:=Z0 (bm _ c0);clear dd k4 k6 n3 bq di fb
  go_upto_if 33 with fail
  by_cases hv:arB r.n m=true
  ·have b6:=Z0 (bn.trans (if_pos hv))
   have ga:=am.c19;have fx:=am.blk.free 19;rw [hv];clear bn hv
   go_wp2_with (fail)
   (try simp only [Av,Exit.then])
   refine A8 (Au rfl _ _ _) rfl ⟨x,rfl,?_,(c0.mono ba).trans (am.setB 19 _)⟩;rw [b6.out];exact am.set 19 _
  have fy:arB r.n m=false:=by simpa using hv
  have fp:r.n.ro=3:=by
   have:=λh=>hv ((arB_iff _ _).2 (.inl h))
   exact Classical.byContradiction this
  obtain ⟨N,hN⟩:∃ N:Nat,r.n.sz=N:=⟨r.n.sz.toNat,by have:=hb.sz0;omega⟩;have gk:N<=7:=by have:=hb.sz1;omega
  have f:J<N:=by omega
  have ac:Ah (LdM r.n N):=by have h9:=gf fp;rw [show r.n.sz.toNat=N by omega] at h9;exact h9
  have b6:=bn.trans (if_neg hv);obtain ⟨a,br⟩:∃ a:Rn,a={ r with n:={ r.n with se:=r.n.se.set J r.n.nw } }:=⟨_,rfl⟩;rw [<-br] at b6;have dh:=Z0 b6;have d:Ah (LdM a.n N):=br▸⟨⟨ac.ldb.nxl,ac.ldb.stl,ac.ldb.nx⟩,ac.mtl,by show (r.n.se.set J r.n.nw).length=N;rw [Bg];exact ac.sel,ac.mt⟩
  have g:Ah (NdB a.n):=br▸⟨hb.nw0,hb.nw1,hb.hd0,hb.hd1,hb.sz0,hb.sz1,hb.id0,hb.id1,hb.ln⟩
  have ca:Ah (a.n.id=r.n.id/\a.n.sz=r.n.sz/\a.n.cm=r.n.cm):=br▸⟨rfl,rfl,rfl⟩
  obtain ⟨sg,sc,ct,hu,cs,fs⟩:=Jg am.se J (ac.out.sel▸f);have hg:∀ u:BW w6,u.w.cell? ⟨b,16,Ab⟩=Ac (I (Ac ⟨sg,0,Ab⟩) r.n.se.length sc):=λu=>ct▸(am.below u.h).blk.cell 16
  have q9:=λu:BW w6=>(am.below u.h).c9
  have ho:Nonempty (BW w6):=⟨⟨w6,An _ _⟩⟩;have n1:w6.cell? ⟨w.heap.size,1,Ab⟩=Ac (Aa O ((J:Int)+1)):=HJ.out▸dk.out.cell 1
  have gq:IntKind.i64.wrap ((J:Int)+1-1)=(J:Int):=wry
  have hs:(J:Int)<(r.n.se.length:Int):=by rw [ac.out.sel];omega
  have f8:=Z0 ct
  have hm:sg<w.heap.size:=by
   have h1:=(bm w (An _ _)).se.lts sg (by rw [ct];rfl);exact h1.2
  rw [fy];clear bn b6 hv fy ct cs fs fp gf
  go_upto_region 6 with fail
  refine rlx ?_;simp only [List.dropLast_cons_cons,List.dropLast_singleton]
  repeat go_big_quiet_step (fail)
  refine wpQuiet_nil ?_;intro wg ay;have fa:=Z0 (am.below ay);obtain ⟨hh,hr,cx,fk,fj,f7⟩:=Jg fa.se J (ac.out.sel▸f);obtain ⟨rfl,rfl⟩:sg=hh/\sc=hr:=by have:=f8.symm.trans cx;simp only [Value.slice.injEq,Bf,Addr.mk.injEq] at this;exact ⟨this.1.1,this.2.2⟩
  have c5:=fa.seAt cx J (ac.out.sel▸f) r.n.nw;refine J8 _ _ rfl rfl rfl fj f7 rfl ?_;obtain ⟨wh,cz⟩:=exq (wg.setCell ⟨sg,J,Ab⟩ (Aa O r.n.nw));rw [<-cz];rw [<-cz,<-br] at c5;have aa:=Z0 c5.1;have cc:=Z0 (((c0.mono ba).trans (ay.mono (Ap ba (by omega)))).trans c5.2)
  have ai:Ah (Blk wh w.heap.size (m.arrC (I ea en ec)) 43):=by
   have h9:=dk.out.below ay gi;unfold Ah;rw [cz];exact h9.keep (Ak _ _ _ _ (show w.heap.size≠sg by omega))
  have bu:=ai.out.lt;obtain ⟨P,g6,hP⟩:=d.ldb.nx J (d.out.ldb.nxl▸f) (ca.out.1▸fd);have bp:=d.mt J (d.out.mtl▸f) (d.out.ldb.nxl▸f) (ca.out.1▸fd);rw [hP] at bp;obtain ⟨MT,dj⟩:=exq (a.n.mt[J]'(d.out.mtl▸f));rw [<-dj] at bp;have fg:a.n.nx.getD J 0=(P:Int)+1:=by rw [Ba,As (d.out.ldb.nxl▸f),Option.getD_some,hP]
  have gc:a.n.mt.getD J 0=MT:=by rw [Ba,As (d.out.mtl▸f),Option.getD_some,dj]
  have bh:Ah (a.n.nx.getD J 0=(P:Int)+1/\a.n.mt.getD J 0=MT):=⟨fg,gc⟩;obtain ⟨ng,nc,ed,ha,cn,fn⟩:=Jg aa.nx J (d.out.ldb.nxl▸f);rw [hP] at cn;obtain ⟨mg,mc,d7,gs,cm,fm⟩:=Jg aa.mt J (d.out.mtl▸f);rw [<-dj] at cm;have aq:=Z0 ed;have d2:Ah (w.heap.size≠ng/\w.heap.size≠mg):=⟨λe=>by have h1:=Z4a (ed▸aa.nx);obtain ⟨C,hC⟩:=h1;exact blk_ne ai.out hC (by decide) e,λe=>by have h1:=Z4a (d7▸aa.mt);obtain ⟨C,hC⟩:=h1;exact blk_ne ai.out hC (by decide) e⟩;have bc:=Z0 d7;have fe:=Z0 g6;have hj:Ah (∀ h:J<a.n.nx.length,a.n.nx[J]=(P:Int)+1):=λh=>hP
  have gv:(J:Int)<(a.n.nx.length:Int):=by rw [d.out.ldb.nxl];omega
  have hc:(J:Int)<(a.n.mt.length:Int):=by rw [d.out.mtl];omega
  have iq:=g.ln;have hy:=bp.1;have h4:=bp.2;have ey:J<=7:=by omega
  clear c5 cz fg gc ed d7 cx fj f7 br fa am c0 dk ay hg q9 ho n1 gq hs f8 dj hP bp bm ac hu fk hm gi;have n7:wh.cell? ⟨w.heap.size,7,Ab⟩=Ac (Aa O m.ok):=ai.out.cell 7;have dn:Nonempty (BW wh):=⟨⟨wh,An _ _⟩⟩;have ds:=ha;have dw:=gs;have cu:∀ u:BW wh,u.w.cell? ⟨b,14,Ab⟩=Ac (I (Ac ⟨ng,0,Ab⟩) a.n.nx.length nc):=λu=>aq.out▸(aa.below u.h).blk.cell 14
  have bw:∀ u:BW wh,u.w.cell? ⟨b,15,Ab⟩=Ac (I (Ac ⟨mg,0,Ab⟩) a.n.mt.length mc):=λu=>bc.out▸(aa.below u.h).blk.cell 15
  have qn:∀ u:BW wh,u.w.cell? ⟨ng,J,Ab⟩=Ac (Aa O ((P:Int)+1)):=λu=>(u.h.cell (p:=⟨ng,J,Ab⟩) ds).trans cn
  have qm:∀ u:BW wh,u.w.cell? ⟨mg,J,Ab⟩=Ac (Aa O MT):=λu=>(u.h.cell (p:=⟨mg,J,Ab⟩) dw).trans cm
  have p4:∀ u:BW wh,u.w.cell? ⟨w.heap.size,4,Ab⟩=Ac (Aa O m.li):=λu=>(ai.out.below u.h bu).cell 4
  have p8:∀ u:BW wh,u.w.cell? ⟨w.heap.size,8,Ab⟩=Ac (Aa O m.hi):=λu=>(ai.out.below u.h bu).cell 8
  by_cases bv:m.ok=0
  ·have aj:=dh.trans (if_pos bv)
   rw [bv] at n7;unfold arNo at aj;rw [bh.out.1,bh.out.2] at aj;have au:=Z0 aj;have ir:IntKind.i64.wrap ((P:Int)+1-1)=(P:Int):=wry
   clear dh aj bv
   go_upto_region 8 with fail
   refine rqx ?_
   repeat go_big_quiet_step (fail)
   refine wpQuiet_nil ?_;intro wi i;have an:=Z0 (aa.below i);have c6:=Z0 (cc.trans (i.mono (Ap ba (by omega))))
   go_upto_if 66 with fail
   by_cases ag:m.li=(P:Int)
   case neg=>
    have ah:=Z0 (au.trans (if_pos (by omega)));have ga:=an.c19;have fx:=an.blk.free 19;have cd:(m.li != (P:Int))=true:=by simpa using ag
    rw [cd];clear ag cd au cu bw qn qm p4 p8 dn
    go_wp2_with (fail)
    (try simp only [Av,Exit.then])
    refine A8 (Au rfl _ _ _) rfl ⟨x,rfl,?_,c6.trans (an.setB 19 _)⟩;rw [ah.out];exact an.set 19 _
   have cd:(m.li != (P:Int))=false:=by simpa using ag
   have ah:=au.trans (if_neg (λh=>h (by omega)));rw [cd];obtain ⟨MN,ev⟩:=exq (min m.hi (m.li-1));obtain ⟨P2,ew⟩:∃ P2:Nat,(P2:Int)+1=max (MT+1) (min m.hi (m.li-1)+1):=⟨(max (MT+1) (min m.hi (m.li-1)+1)-1).toNat,by omega⟩;rw [<-ew] at ah;have af:Ah _:=ah;have hMNb : -1<=MN/\MN<=4096:=by omega
   have d0:P2<=a.n.log.length:=by have:=fe.out;omega
   have ak:=wrx (MT+1)
   have ce:=wrx (m.li-1)
   have az:=wrx (MN+1)
   have f2:Ah (∀ z,Ar Ad 55 #[Aa O m.hi,Aa O (m.li-1)] z λe w'=>e=Aj (Aa O MN)/\w'=z):=λz=>ev▸Xh _ _ z
   have fq:Ah (∀ z,Ar Ad 94 #[Aa O (MT+1),Aa O (MN+1)] z λe w'=>e=Aj (Aa O ((P2:Int)+1))/\w'=z):=λz=>by rw [ew,ev];exact Xt _ _ z
   obtain ⟨R2,a2⟩:∃ R2:Rn,R2={ a with n:={ a.n with nx:=a.n.nx.set J ((P2:Int)+1) } }:=⟨_,rfl⟩;rw [<-a2] at af;have bd:Ah (∀ z,Ze z B b a x->Ze (z.setCell ⟨ng,J,Ab⟩ (Aa O ((P2:Int)+1))) B b R2 x/\Ai B z (z.setCell ⟨ng,J,Ab⟩ (Aa O ((P2:Int)+1)))):=λz hz=>a2▸hz.nxAt aq J (by rw [d.out.ldb.nxl];exact f) _
   have b0:=Z0 λz hz=>Xy b R2 x J P2 z B hz (a2▸⟨g.nw0,g.nw1,g.hd0,g.hd1,g.sz0,g.sz1,g.id0,g.id1,g.ln⟩) (by omega) (by rw [a2];show J<(a.n.nx.set J _).length;rw [Bg,d.out.ldb.nxl];exact f) (by rw [a2];show J<a.n.st.length;rw [d.out.ldb.stl];exact f) ey (by simp only [a2];rw [List.getElem_set_self]) (a2▸d0)
   have f3:∀ z,Ai wh.heap.size wh z->z.frozen? ⟨ng,J,Ab⟩=false:=λz hz=>by
    obtain ⟨g9,c9,h9,-,-,f9⟩:=Jg (aa.below hz).nx J (d.out.ldb.nxl▸f);have h8:=aq.symm.trans h9;simp only [Value.slice.injEq,Bf,Addr.mk.injEq] at h8;rw [h8.1.1];exact f9
   have c3:Ah _:=f3;have et:Nonempty (BW wi):=⟨⟨wi,An _ _⟩⟩;have c:=Z0 i;have g7:∀ u:BW wi,u.w.cell? ⟨b,14,Ab⟩=Ac (I (Ac ⟨ng,0,Ab⟩) a.n.nx.length nc):=λu=>cu ⟨u.w,c.trans (u.h.mono c.size)⟩
   have d3:∀ u:BW wi,u.w.cell? ⟨b,15,Ab⟩=Ac (I (Ac ⟨mg,0,Ab⟩) a.n.mt.length mc):=λu=>bw ⟨u.w,c.trans (u.h.mono c.size)⟩
   have rm:∀ u:BW wi,u.w.cell? ⟨mg,J,Ab⟩=Ac (Aa O MT):=λu=>qm ⟨u.w,c.trans (u.h.mono c.size)⟩
   have r4:∀ u:BW wi,u.w.cell? ⟨w.heap.size,4,Ab⟩=Ac (Aa O m.li):=λu=>p4 ⟨u.w,c.trans (u.h.mono c.size)⟩
   have r8:∀ u:BW wi,u.w.cell? ⟨w.heap.size,8,Ab⟩=Ac (Aa O m.hi):=λu=>p8 ⟨u.w,c.trans (u.h.mono c.size)⟩
   have g4:Ah _:=qn;clear ag cd au ah ev ew d0 a2 f3 i cu bw qn qm p4 p8 dn
   go_upto_region 10 with fail
   refine rlx ?_;simp only [List.dropLast_cons_cons,List.dropLast_singleton]
   repeat (first | go_big_quiet_step ((first | (go_at_call 55;refine (f2 _).mono ?_;rintro e w9 ⟨rfl,rfl⟩;exact ⟨rfl,⟨_,rfl⟩⟩) | (go_at_call 94;refine (fq _).mono ?_;rintro e w9 ⟨rfl,rfl⟩;exact ⟨rfl,⟨_,rfl⟩⟩))))
   refine wpQuiet_nil ?_;intro wj ae;have o:=Z0 (c.trans (ae.mono c.size));refine J8 _ _ rfl rfl rfl (g4 ⟨wj,o.out⟩) (c3 wj o) rfl ?_;have hS:=bd.out wj (aa.below o);obtain ⟨wk,ar⟩:=exq (wj.setCell ⟨ng,J,Ab⟩ (Aa O ((P2:Int)+1)));rw [<-ar] at hS ⊢;have ad:=Z0 hS.1;have dg:=Z0 ((cc.trans (o.mono (Ap ba (by omega)))).trans hS.2)
   have n1:wk.cell? ⟨w.heap.size,1,Ab⟩=Ac (Aa O ((J:Int)+1)):=by
    rw [<-HJ.out,ar];exact (Blk.keep (ai.out.below o bu) (Ak _ _ _ _ d2.1)).cell 1
   clear hS ar g7 d3 rm r4 r8 et ae
   go_wp2_with (first
    |(go_at_call 116;refine Am (b0 wk ad) ?_;rintro e wz ⟨v9,y9,rfl,a7,a4⟩;have b2:Ah _:=a7;have ch:=Z0 (dg.trans a4);clear a7 a4))
   (try simp only [Av,Exit.then])
   exact A8 (Au rfl _ _ _) rfl ⟨_,rfl,af.out▸b2,ch.out⟩
  ·have ig:(m.ok == 0)=false:=by simpa using bv
   have aj:=dh.trans (if_neg bv);unfold arYes at aj;rw [bh.out.1,bh.out.2] at aj;obtain ⟨M2,dc⟩:=exq (max MT m.li);obtain ⟨V2,da⟩:=exq (max ((P:Int)+1) (max MT m.li+1));obtain ⟨RM,eq⟩:=exq (arMt a m J);obtain ⟨RX,d9⟩:=exq (arNx a m J);rw [<-da,<-d9] at aj;have au:=Z0 aj;have bo:Ah (RM={ a with n:={ a.n with mt:=a.n.mt.set J M2 } }):=by unfold Ah;rw [eq,dc];unfold arMt;rw [bh.out.2]
   have dm:Ah (RX={ RM with n:={ RM.n with nx:=a.n.nx.set J V2 } }):=by unfold Ah;rw [d9,eq,da];unfold arNx;rw [bh.out.1,bh.out.2]
   have ic:0<=M2/\M2<=5000:=by have:=fe.out;omega
   have h0:(P:Int)+1<=V2:=by omega
   have hf:=Z0 dc;have g3:Ah (V2=max ((P:Int)+1) (M2+1)):=dc▸da
   obtain ⟨la,lc,ej⟩:=aa.log.shape;have ez:=Z0 ej;have f4:∀ u:BW wh,u.w.cell? ⟨b,12,Ab⟩=Ac (I la a.n.log.length lc):=λu=>ej▸(aa.below u.h).blk.cell 12
   clear dh aj bv eq d9 dc da ej
   go_upto_region 12 with fail
   refine rqx ?_
   repeat go_big_quiet_step (fail)
   refine wpQuiet_nil ?_;intro wi i;have an:=Z0 (aa.below i);have c6:=Z0 (cc.trans (i.mono (Ap ba (by omega))))
   go_upto_if 106 with fail
   by_cases ag:(a.n.log.length:Int)<m.li
   ·have ah:=Z0 (au.trans (if_pos ag))
    have ga:=an.c19;have fx:=an.blk.free 19;rw [show decide ((a.n.log.length:Int)<m.li)=true from decide_eq_true ag]
    have HF:Ah (Ze (wi.setCell ⟨b,19,Ab⟩ (Aa O 3)) B b RP x/\Ai B w (wi.setCell ⟨b,19,Ab⟩ (Aa O 3))):=by
     unfold Ah;rw [ah.out];exact ⟨an.set 19 _,c6.trans (an.setB 19 _)⟩
    clear ag au cu bw qn qm p4 p8 dn f4 ah
    go_wp2_with (fail)
    (try simp only [Av,Exit.then])
    first
     | exact A8 (Au rfl _ _ _) rfl ⟨x,rfl,HF.1,HF.2⟩
     | exact A8 (Au rfl _ _ _) rfl ⟨rfl,⟨x,HF.1⟩,HF.2⟩
   rw [show decide ((a.n.log.length:Int)<m.li)=false from decide_eq_false ag];have ah:Ah _:=au.trans (if_neg ag);have dp:Ah (∀ z,Ar Ad 94 #[Aa O MT,Aa O m.li] z λe w'=>e=Aj (Aa O M2)/\w'=z):=λz=>hf.out▸Xt _ _ z
   have dt:Ah (∀ z,Ar Ad 94 #[Aa O ((P:Int)+1),Aa O (M2+1)] z λe w'=>e=Aj (Aa O V2)/\w'=z):=λz=>g3.out▸Xt _ _ z
   have c:=Z0 i;have et:Nonempty (BW wi):=⟨⟨wi,An _ _⟩⟩;have d3:∀ u:BW wi,u.w.cell? ⟨b,15,Ab⟩=Ac (I (Ac ⟨mg,0,Ab⟩) a.n.mt.length mc):=λu=>bw ⟨u.w,c.trans (u.h.mono c.size)⟩
   have rm:∀ u:BW wi,u.w.cell? ⟨mg,J,Ab⟩=Ac (Aa O MT):=λu=>qm ⟨u.w,c.trans (u.h.mono c.size)⟩
   have r4:∀ u:BW wi,u.w.cell? ⟨w.heap.size,4,Ab⟩=Ac (Aa O m.li):=λu=>p4 ⟨u.w,c.trans (u.h.mono c.size)⟩
   have ek:Ah _:=qm;have f1:=Z0 (ai.out.below i bu)
   have fl:Ah (∀ z,Ze z B b a x->z.frozen? ⟨mg,J,Ab⟩=false):=λz hz=>by
    obtain ⟨g9,c9,h9,-,-,f9⟩:=Jg hz.mt J (d.out.mtl▸f);have h8:=bc.symm.trans h9;simp only [Value.slice.injEq,Bf,Addr.mk.injEq] at h8;rw [h8.1.1];exact f9
   clear ag au i cu bw qn qm p4 p8 dn f4 cn fn cm fm
   go_upto_region 14 with fail
   refine rlx ?_;simp only [List.dropLast_cons_cons,List.dropLast_singleton]
   repeat go_big_quiet_step ((go_at_call 94;refine (dp _).mono ?_;rintro e w9 ⟨rfl,rfl⟩;exact ⟨rfl,⟨_,rfl⟩⟩))
   refine wpQuiet_nil ?_;intro wj ae;have o:=Z0 (c.trans (ae.mono c.size));have ef:=Z0 (aa.below o);refine J8 _ _ rfl rfl rfl (ek ⟨wj,o.out⟩) (fl wj ef) rfl ?_;have hS:=ef.mtAt bc J (d.out.mtl▸f) M2;obtain ⟨wk,ar⟩:=exq (wj.setCell ⟨mg,J,Ab⟩ (Aa O M2));rw [<-ar,<-bo.out] at hS;rw [<-ar];have ad:=Z0 hS.1;have dg:=Z0 ((cc.trans (o.mono (Ap ba (by omega)))).trans hS.2);have d5:Ah (Blk wk w.heap.size (m.arrC (I ea en ec)) 43):=ar▸(ai.out.below o bu).keep (Ak _ _ _ _ d2.2)
   have dz:RM.n.mt.length=a.n.mt.length:=bo.out▸Bg
   have a3:RM.n.nx=a.n.nx:=by rw [bo.out]
   obtain ⟨g2,gx,du,dy,fv,gu⟩:=Jg ad.nx J (by rw [a3,d.out.ldb.nxl];exact f);obtain ⟨rfl,rfl⟩:ng=g2/\nc=gx:=by have:=aq.symm.trans du;simp only [Value.slice.injEq,Bf,Addr.mk.injEq] at this;exact ⟨this.1.1,this.2.2⟩
   obtain ⟨hp,gw,dx,dq,gt,hx⟩:=Jg ad.mt J (by rw [dz,d.out.mtl];exact f);obtain ⟨rfl,rfl⟩:mg=hp/\mc=gw:=by have:=bc.symm.trans dx;simp only [Value.slice.injEq,Bf,Addr.mk.injEq] at this;exact ⟨this.1.1,this.2.2⟩
   have a5:wk.cell? ⟨ng,J,Ab⟩=Ac (Aa O ((P:Int)+1)):=by rw [fv];simp only [a3];rw [hj.out]
   have gg:wk.cell? ⟨mg,J,Ab⟩=Ac (Aa O M2):=ar▸World.cell?_setCell_same _ _ _ (ek ⟨wj,o.out⟩)
   have hn:Nonempty (BW wk):=⟨⟨wk,An _ _⟩⟩;have g5:∀ u:BW wk,u.w.cell? ⟨b,14,Ab⟩=Ac (I (Ac ⟨ng,0,Ab⟩) a.n.nx.length nc):=λu=>aq.out▸(ad.below u.h).blk.cell 14
   have he:∀ u:BW wk,u.w.cell? ⟨b,15,Ab⟩=Ac (I (Ac ⟨mg,0,Ab⟩) a.n.mt.length mc):=λu=>bc.out▸(ad.below u.h).blk.cell 15
   have sn:∀ u:BW wk,u.w.cell? ⟨ng,J,Ab⟩=Ac (Aa O ((P:Int)+1)):=λu=>(u.h.cell (p:=⟨ng,J,Ab⟩) dy).trans a5
   have sm:∀ u:BW wk,u.w.cell? ⟨mg,J,Ab⟩=Ac (Aa O M2):=λu=>(u.h.cell (p:=⟨mg,J,Ab⟩) dq).trans gg
   have iu:=wrx (M2+1)
   have f5:Ah _:=sn
   have c3:Ah (∀ z,Ai wk.heap.size wk z->z.frozen? ⟨ng,J,Ab⟩=false):=λz hz=>by
    obtain ⟨g9,c9,h9,-,-,f9⟩:=Jg (ad.below hz).nx J (by rw [a3,d.out.ldb.nxl];exact f);have h8:=aq.symm.trans h9;simp only [Value.slice.injEq,Bf,Addr.mk.injEq] at h8;rw [h8.1.1];exact f9
   have eh:=Z0 a3;clear hS ar d3 rm r4 et ae du dx dy dq fv gu gt hx a5 gg dz a3 ek fl an c6 ef o c dp
   go_upto_region 15 with fail
   refine rlx ?_;simp only [List.dropLast_cons_cons,List.dropLast_singleton]
   repeat go_big_quiet_step ((go_at_call 94;refine (dt _).mono ?_;rintro e w9 ⟨rfl,rfl⟩;exact ⟨rfl,⟨_,rfl⟩⟩))
   refine wpQuiet_nil ?_;intro c2 t;refine J8 _ _ rfl rfl rfl (f5 ⟨c2,t⟩) (c3 c2 t) rfl ?_;have hS:=(ad.below t).nxAt aq J (by rw [eh.out,d.out.ldb.nxl];exact f) V2;obtain ⟨wl,ce⟩:=exq (c2.setCell ⟨ng,J,Ab⟩ (Aa O V2));rw [<-ce,eh.out,<-dm.out] at hS;rw [<-ce];have ao:=Z0 hS.1;have c1:=Z0 ((dg.trans (t.mono (Ap ad.lo (Be ad.lt)))).trans hS.2);have a6:Ah (Blk wl w.heap.size (m.arrC (I ea en ec)) 43):=ce▸(d5.out.below t d5.out.lt).keep (Ak _ _ _ _ d2.1)
   have y:Ah (RX.n.log=a.n.log/\RX.n.id=a.n.id/\RX.n.sz=a.n.sz/\RX.n.cm=a.n.cm/\RX.n.mt.length=N/\RX.n.nx=a.n.nx.set J V2/\RX.n.st=a.n.st):=by
    rw [dm.out,bo.out];exact ⟨rfl,rfl,rfl,rfl,by show (a.n.mt.set J M2).length=N;rw [Bg];exact d.mtl,rfl,rfl⟩
   have j:Ah (NdB RX.n):=by rw [dm.out,bo.out];exact ⟨g.nw0,g.nw1,g.hd0,g.hd1,g.sz0,g.sz1,g.id0,g.id1,g.ln⟩
   clear hS ce g5 he sn sm hn f5 c3 t ad dg d5 eh bo dm dt f1 aa cc ai bu ds dw;obtain ⟨lo,ee⟩:∃ lo:Nat,RX.n.cm=(lo:Int):=⟨RX.n.cm.toNat,by rw [y.out.2.2.2.1,ca.out.2.2];omega⟩;obtain ⟨C,hC⟩:=exq (Yx RX.n lo a.n.log.length);obtain ⟨RC,d1⟩:=exq (arCm RX);have a1:Ah (RC={ RX with n:={ RX.n with cm:=(C:Int) } }):=by unfold Ah;rw [d1,hC];unfold arCm;rw [y.out.1,ee];rfl
   have af:Ah (RP=if V2<=(a.n.log.length:Int) then RC.sendE J else RC):=d1▸ah
   have db:Ah (∀ k,Yx RX.n lo (k+1)=if k+1<=lo then lo else if Z07 RX.n (k+1)=true then k+1 else Yx RX.n lo k):=λk=>rfl
   have ei:Ah (∀ k,k<=lo->Yx RX.n lo k=lo):=λk hk=>by
    cases k with
    | zero=>rfl
    | succ k=>rw [db.out k,if_pos hk]
   have ep:=Z0 hC;have b3:=Z0 ee;have c12:wl.cell? ⟨b,12,Ab⟩=Ac (I la a.n.log.length lc):=ez.out▸ao.blk.cell 12
   have eo:=Z0 λk h1 h2 z hz=>l4agreed_run ao j k N z hz h1 (y.out.1▸h2) (by rw [y.out.2.2.1,ca.out.2.1];exact hN) y.2.2.2.2.1 gk (by rw [y.out.2.2.1,ca.out.2.1];exact gd)
   clear ee hC d1 ah
   go_upto_region 17 with fail
   go_loopw [5] (λkv wr=>∃ k:Nat,k<=a.n.log.length/\kv=Aa O (k:Int)/\C=Yx RX.n lo k/\Ai wl.heap.size wl wr) (λkv _=>(B0 kv).toNat)
   case atStart=>exact ⟨a.n.log.length,Ao _,rfl,ep.out,An _ _⟩
   case round=>
    obtain ⟨k,hk,rfl,f0,d4⟩:=hrel;have cp:=Z0 f0;have al:=Z0 d4;have av:=Z0 (ao.below d4);have c8:wr.cell? ⟨b,8,Ab⟩=Ac (Aa O (lo:Int)):=b3.out▸av.blk.cell 8
    clear f0 d4 c12;by_cases it:lo<k
    ·obtain ⟨q,rfl⟩:∃ q,k=q+1:=⟨k-1,by omega⟩
     have gz:(lo:Int)<(q:Int)+1:=by omega
     have bk:=db.out q;rw [ifo] at bk;have de:Ah _:=eo.out (q+1) (by omega) hk wr al;have ip:IntKind.i64.wrap ((q:Int)+1-1)=(q:Int):=wry
     have ij:q<=4096:=by omega
     cases bz:Z07 RX.n (q+1)
     ·rw [bz,ifd] at bk
      have bj:=Z0 (cp.trans bk);have bg:=de.out;rw [bz] at bg;have c4:Ah (Ar Ad 152 #[Aw (ndC RX.n x),Aa O ((q:Int)+1)] wr λe w'=>e=Aj (.bool false)/\Ai wr.heap.size wr w'):=bg;have G3:=Z0 trivial;clear bk bz bg de
      go_wp2_with (first
       |(have e1:=G3;refine Zd 36 _ rfl ?_;clear e1;refine Xz rfl _ rfl rfl av ?_;clear G3)
       |(go_at_call 152;refine Am c4 ?_;rintro e wq ⟨rfl,b7⟩;have go:=Z0 (al.trans (b7.mono al.size));clear b7))
      go_roundw
      case rel=>exact ⟨q,by omega,by go_num,bj.out,go.out⟩
      case measure=>simp [B0] <;> omega
     ·rw [bz,if_pos rfl] at bk
      have bj:=Z0 (cp.trans bk);have bg:=de.out;rw [bz] at bg;have c4:Ah (Ar Ad 152 #[Aw (ndC RX.n x),Aa O ((q:Int)+1)] wr λe w'=>e=Aj (.bool true)/\Ai wr.heap.size wr w'):=bg;have G3:=Z0 trivial
      have HF:Ah (∀ wq,Ai wr.heap.size wr wq->Ze (wq.setCell ⟨b,8,Ab⟩ (Aa O ((q:Int)+1))) B b RC x/\Ai B w (wq.setCell ⟨b,8,Ab⟩ (Aa O ((q:Int)+1)))/\Blk (wq.setCell ⟨b,8,Ab⟩ (Aa O ((q:Int)+1))) w.heap.size (m.arrC (I ea en ec)) 43/\wq.cell? ⟨b,8,Ab⟩=Ac (Aa O (lo:Int))/\wq.frozen? ⟨b,8,Ab⟩=false):=λwq hq=>by
       have eb:=av.below hq;refine ⟨?_,?_,?_,b3.out▸eb.blk.cell 8,eb.blk.free 8⟩
       ·rw [a1.out,bj.out];exact eb.set 8 _
       ·exact ((c1.trans (al.mono (Ap ao.lo (Be ao.lt)))).trans (hq.mono (Ap av.lo (Be av.lt)))).setCell (p:=⟨b,8,Ab⟩) ao.lo _
       ·exact ((a6.out.below al a6.out.lt).below hq (a6.out.below al a6.out.lt).lt).grown (Rd.frame 8 _)
      clear bk bz bg de
      go_upto_region 21 with (first
       |(have e1:=G3;refine Zd 36 _ rfl ?_;clear e1;refine Xz rfl _ rfl rfl av ?_;clear G3)
       |(go_at_call 152;refine Am c4 ?_;rintro e wq ⟨rfl,b7⟩;obtain ⟨h1,h2,h3,d8,g8⟩:=HF.out wq b7;have fw:Ah _:=h1;have gh:Ah _:=h2;have gj:Ah _:=h3;clear h1 h2 h3 b7))
      obtain ⟨wm,ak⟩:=exq (wq.setCell ⟨b,8,Ab⟩ (Aa O ((q:Int)+1)));rw [<-ak];have bx:Ze wm B b RC x:=ak▸fw
      have cq:Ai B w wm:=ak▸gh
      have bb:Blk wm w.heap.size (m.arrC (I ea en ec)) 43:=ak▸gj
      clear ak fw gh gj HF d8 g8 c4 bj av al cp c8;have v:=Z0 bx;have cj:=Z0 cq;have n1:wm.cell? ⟨w.heap.size,1,Ab⟩=Ac (Aa O ((J:Int)+1)):=HJ.out▸bb.cell 1
      have be:=Z0 bb;have ab:Ah (RC.n.log=a.n.log/\RC.n.nx=a.n.nx.set J V2/\RC.n.st=a.n.st):=a1.out▸⟨y.1,y.2.2.2.2.2.1,y.2.2.2.2.2.2⟩
      have d6:Ah (NdB RC.n):=a1.out▸⟨j.nw0,j.nw1,j.hd0,j.hd1,j.sz0,j.sz1,j.id0,j.id1,j.ln⟩
      have cr:J<RC.n.nx.length:=by rw [ab.out.2.1,Bg,d.out.ldb.nxl];exact f
      obtain ⟨cw,eu,a9,fc,a5,em⟩:=Jg v.nx J cr;have e14:wm.cell? ⟨b,14,Ab⟩=Ac (I (Ac ⟨cw,0,Ab⟩) a.n.nx.length eu):=by have h9:=v.blk.cell 14;rw [h9];show Ac x.vn=_;rw [a9,ab.out.2.1,Bg]
      have en:wm.cell? ⟨cw,J,Ab⟩=Ac (Aa O V2):=by rw [a5];simp only [ab.out.2.1];rw [List.getElem_set_self]
      have c12:wm.cell? ⟨b,12,Ab⟩=Ac (I la a.n.log.length lc):=ez.out▸v.blk.cell 12
      obtain ⟨P3,co⟩:∃ P3:Nat,V2=(P3:Int)+1:=⟨(V2-1).toNat,by omega⟩;have cf:=Z0 co;clear bx cq bb a9 a5 em co db ei ep b3 eo ao c1 a6 a1 y j bc aq;go_quiet (fail)
      obtain ⟨wn,az⟩:=exq (wm.drewN nq);have aw:Ai wm.heap.size wm wn:=az▸bdr
      rw [<-az];have bd:=Z0 (v.below aw);have bi:=Z0 (cj.trans (aw.mono (Ap v.lo (Be v.lt))));have gn:wn.cell? ⟨w.heap.size,1,Ab⟩=Ac (Aa O ((J:Int)+1)):=HJ.out▸(be.out.below aw be.out.lt).cell 1
      clear az aw n1 e14 en c12 v cj be
      go_upto_if 193 with fail
      by_cases l:V2<=(a.n.log.length:Int)
      ·have ax:=Z0 (af.trans (if_pos l))
       have b0:Ah _:=Xy b RC x J P3 wn B bd d6 (by omega) cr (by rw [ab.out.2.2,d.out.ldb.stl];exact f) ey (by simp only [ab.out.2.1];rw [List.getElem_set_self];exact cf) (by rw [ab.out.1];have:=cf.out;omega);rw [show decide (V2<=(a.n.log.length:Int))=true from decide_eq_true l];clear l af
       go_wp2_with (first
        |(go_at_call 116;refine Am b0 ?_;rintro e wz ⟨v9,y9,rfl,a7,a4⟩;have b2:Ah _:=a7;have ch:=Z0 (bi.trans a4);clear a7 a4))
       (try simp only [Av,Exit.then])
       exact bodyPost_end (Au rfl _ _ _) rfl ⟨_,rfl,ax.out▸b2,ch.out⟩
      ·have ax:=Z0 (af.trans (if_neg l))
       rw [show decide (V2<=(a.n.log.length:Int))=false from decide_eq_false l];have cg:Ah (Ze wn B b RP x):=ax.out▸bd
       clear l af ax
       go_wp2_with fail
       (try simp only [Av,Exit.then])
       first
        | exact bodyPost_end (Au rfl _ _ _) rfl ⟨x,rfl,cg.out,bi.out⟩
        | exact bodyPost_end (Au rfl _ _ _) rfl ⟨rfl,⟨x,cg.out⟩,bi.out⟩
    ·have gz:¬(lo:Int)<(k:Int):=by omega
     have bj:=Z0 (cp.trans (ei k (by omega)));have HF:Ah (Ze wr B b RC x):=by unfold Ah;rw [a1.out,bj.out,<-b3.out];exact av
     go_upto_region 21 with fail
     have bx:=HF.out;have fh:Ai B w wr/\Blk wr w.heap.size (m.arrC (I ea en ec)) 43:=⟨ c1.trans (al.mono (Ap ao.lo (Be ao.lt))),a6.out.below al a6.out.lt⟩;obtain ⟨wm,ak⟩:=exq (wr);rw [<-ak] at bx fh;obtain ⟨cq,bb⟩:=fh;rw [<-ak];clear ak HF bj av al cp c8;have v:=Z0 bx;have cj:=Z0 cq;have n1:wm.cell? ⟨w.heap.size,1,Ab⟩=Ac (Aa O ((J:Int)+1)):=HJ.out▸bb.cell 1
     have be:=Z0 bb;have ab:Ah (RC.n.log=a.n.log/\RC.n.nx=a.n.nx.set J V2/\RC.n.st=a.n.st):=a1.out▸⟨y.1,y.2.2.2.2.2.1,y.2.2.2.2.2.2⟩
     have d6:Ah (NdB RC.n):=a1.out▸⟨j.nw0,j.nw1,j.hd0,j.hd1,j.sz0,j.sz1,j.id0,j.id1,j.ln⟩
     have cr:J<RC.n.nx.length:=by rw [ab.out.2.1,Bg,d.out.ldb.nxl];exact f
     obtain ⟨cw,eu,a9,fc,a5,em⟩:=Jg v.nx J cr;have e14:wm.cell? ⟨b,14,Ab⟩=Ac (I (Ac ⟨cw,0,Ab⟩) a.n.nx.length eu):=by have h9:=v.blk.cell 14;rw [h9];show Ac x.vn=_;rw [a9,ab.out.2.1,Bg]
     have en:wm.cell? ⟨cw,J,Ab⟩=Ac (Aa O V2):=by rw [a5];simp only [ab.out.2.1];rw [List.getElem_set_self]
     have c12:wm.cell? ⟨b,12,Ab⟩=Ac (I la a.n.log.length lc):=ez.out▸v.blk.cell 12
     obtain ⟨P3,co⟩:∃ P3:Nat,V2=(P3:Int)+1:=⟨(V2-1).toNat,by omega⟩;have cf:=Z0 co;clear bx cq bb a9 a5 em co db ei ep b3 eo ao c1 a6 a1 y j bc aq;go_quiet (fail)
     obtain ⟨wn,az⟩:=exq (wm.drewN nq);have aw:Ai wm.heap.size wm wn:=az▸bdr
     rw [<-az];have bd:=Z0 (v.below aw);have bi:=Z0 (cj.trans (aw.mono (Ap v.lo (Be v.lt))));have gn:wn.cell? ⟨w.heap.size,1,Ab⟩=Ac (Aa O ((J:Int)+1)):=HJ.out▸(be.out.below aw be.out.lt).cell 1
     clear az aw n1 e14 en c12 v cj be
     go_upto_if 193 with fail
     by_cases l:V2<=(a.n.log.length:Int)
     ·have ax:=Z0 (af.trans (if_pos l))
      have b0:Ah _:=Xy b RC x J P3 wn B bd d6 (by omega) cr (by rw [ab.out.2.2,d.out.ldb.stl];exact f) ey (by simp only [ab.out.2.1];rw [List.getElem_set_self];exact cf) (by rw [ab.out.1];have:=cf.out;omega);rw [show decide (V2<=(a.n.log.length:Int))=true from decide_eq_true l];clear l af
      go_wp2_with (first
       |(go_at_call 116;refine Am b0 ?_;rintro e wz ⟨v9,y9,rfl,a7,a4⟩;have b2:Ah _:=a7;have ch:=Z0 (bi.trans a4);clear a7 a4))
      (try simp only [Av,Exit.then])
      exact bodyPost_end (Au rfl _ _ _) rfl ⟨_,rfl,ax.out▸b2,ch.out⟩
     ·have ax:=Z0 (af.trans (if_neg l))
      rw [show decide (V2<=(a.n.log.length:Int))=false from decide_eq_false l];have cg:Ah (Ze wn B b RP x):=ax.out▸bd
      clear l af ax
      go_wp2_with fail
      (try simp only [Av,Exit.then])
      first
       | exact bodyPost_end (Au rfl _ _ _) rfl ⟨x,rfl,cg.out,bi.out⟩
       | exact bodyPost_end (Au rfl _ _ _) rfl ⟨rfl,⟨x,cg.out⟩,bi.out⟩
def msB (m:Mg):Int:=Jr m.ki m.fr m.td m.tm m.li m.lt m.cm m.ok m.hi m.es
theorem Z2a (m:Mg)(h:msB m=0):(1<=m.ki/\m.ki<=6)/\(1<=m.fr/\m.fr<=7)/\m.fr≠m.td/\0<=m.li/\m.li<=4096/\(m.ki=5->m.es.length<=32)/\0<=m.hi/\m.hi<=4096:=by
 unfold msB Jr at h;split at h
 ·simp at h
 rename_i h1;split at h
 ·simp at h
 rename_i h2;split at h
 ·simp at h
 split at h
 ·simp at h
 rename_i h4;split at h
 ·simp at h
 rename_i h5;split at h
 ·simp at h
 rename_i h6;have i:=(Zj _ _ _).1 (by simpa using h1);have c:Z0n m.fr m.td=true:=by simpa using h2
 have g:Z0i m.ki m.tm m.li m.lt=true:=by simpa using h4
 have d:Yt m.ki m.cm m.ok m.hi=true:=by simpa using h5
 have b:Xd m.ki m.li m.lt m.tm m.es=true:=by simpa using h6
 have p:=posB_li g;unfold Z0n at c;simp only [Al,bne_iff_ne] at c;have f:=(Zj _ _ _).1 c.1.1;unfold Yt at d;simp only [Al] at d;have g1:=(Zj _ _ _).1 d.2
 have a:0<=m.hi/\m.hi<=4096:=by
  have j:(if m.ki=6/\m.ok=0 then (4096:Int) else 0)<=4096:=by split <;> omega
  omega
 refine ⟨i,f,c.2,p.1,p.2,?_,a.1,a.2⟩;intro e;unfold Xd at b;rw [if_pos e] at b;simp only [Al,decide_eq_true_eq] at b;exact b.1.1
def mgB (n:Nd)(m:Mg):Bool:=(msB m != 0) || (m.td != n.id) || decide (n.sz<m.fr)
theorem Z8b (r:Rn)(m:Mg):r.message (decide (msB m≠0)) m=if mgB r.n m=true then { r with code:=1 } else if m.ki=1 then r.preAsk m else if m.ki=2 then r.preReply m else if m.ki=3 then r.voteAsk m else if m.ki=4 then r.voteReply m else if m.ki=5 then r.append m else r.appReply m:=by
 unfold Rn.message;have hi:mgB r.n m=true↔decide (msB m≠0)=true∨m.td≠r.n.id∨r.n.sz<m.fr:=by unfold mgB;simp [or_assoc]
 by_cases a:mgB r.n m=true
 ·rw [if_pos a,if_pos (hi.1 a)]
 ·rw [if_neg a,if_neg (λh=>a (hi.2 h))]
theorem l4message_any (b:Nat)(r:Rn)(x:RV)(m:Mg)(ea:Option Addr)(ec:Nat)(w:Ag)(B:Nat)(h:Ze w B b r x)(he:Es w (I ea m.es.length ec) m.es)(a3:∀ k,(Value.slice ea m.es.length ec).ownBlock=Ac k->k<B)(a0:m.es.length<=1048576)(hb:NdB r.n)(hd : -(2^63)<=r.draw)(hD:r.draw<2^63)(hL:x.L = [])(az:0<=r.n.tm)(a2:r.n.tm<=1073741824)(ae:r.n.sz%2=1)(ao:r.n.gr.length<=1000)(a4:r.n.ro=3->LdM r.n r.n.sz.toNat)(aw:0<=r.n.cm) :
  Ar Ad 77 #[Ae (Ac ⟨b,0,Ab⟩),Aw (m.arrC (I ea m.es.length ec))] w λe w'=>∃ x',e=Aj (.tuple #[])/\Ze w' B b (r.message (decide (msB m≠0)) m) x'/\Ai B w w':=by
 have al:Ah (∀ z,Ai w.heap.size w z->Ze z B b r x):=λz hz=>h.below hz
 have an:Ah (∀ z,Ai w.heap.size w z->Es z (I ea m.es.length ec) m.es):=λz hz=>he.below hz
 have aa:=Ap h.lo (Be h.lt);have HQ:Ah (r.message (decide (msB m≠0)) m=_):=Z8b r m;generalize r.message (decide (msB m≠0)) m=RP at *;obtain ⟨f,ak⟩:=exq (w.alloc (.cells (m.arrC (I ea m.es.length ec)) 43));have af:Ah (Ai w.heap.size w f):=ak▸baq
 have ac:Ah (Blk f w.heap.size (m.arrC (I ea m.es.length ec)) 43):=ak▸Blk.new _ _ _
 have ag:=ac.out.lt;have ai:Ah (∀ z,Ai f.heap.size f z->Ar Ad 21 #[Aw (m.arrC (I ea m.es.length ec))] z λe w'=>e=Aj (Aa O (msB m))/\Ai z.heap.size z w'):=λz hz=>Z35 m.ki m.fr m.td m.tm m.li m.lt m.cm m.ok m.hi _ m.es z (an z (af.trans (hz.mono (by omega)))) a0
 have aq:=Z0 (Z2a m);have HV:Ah (mgB r.n m=((msB m != 0) || (m.td != r.n.id) || decide (r.n.sz<m.fr))):=rfl;have p2:∀ u:BW f,u.w.cell? ⟨w.heap.size,2,Ab⟩=Ac (Aa O m.td):=λu=>(ac.out.below u.h ag).cell 2
 have p1:∀ u:BW f,u.w.cell? ⟨w.heap.size,1,Ab⟩=Ac (Aa O m.fr):=λu=>(ac.out.below u.h ag).cell 1
 have q0:=λu:BW f=>((al _ af).below u.h).c0
 have q1:=λu:BW f=>((al _ af).below u.h).c1
 have pn:∀ u:BW f,Sem.run Ad (loadVar 43 ⟨w.heap.size,0,Ab⟩) u.w=.ok (Aw (m.arrC (I ea m.es.length ec))) u.w:=λu=>Z0e (ac.out.below u.h ag) 43 underlying43 rfl (by rw [Yc];rfl)
 have a1:Nonempty (BW f):=⟨⟨f,An _ _⟩⟩;generalize hMB:msB m=MB at *;clear h he hMB;go_enter func77,ntmps77
 go_upto_region 1 with fail
 rw [<-ak];clear ak
 go_cut [26] (λs wx=>s=.bool (mgB r.n m)/\Ai f.heap.size f wx)
 case first=>
  generalize mgB r.n m=VB at *;cases am:(MB != 0)
  ·cases ax:(m.td != r.n.id)
   ·rw [am,ax] at HV
    refine rqx ?_
    repeat (first | (go_big_quiet_want;refine Jp (W:=f) 43 (.tmp 3) rfl rfl pn ?_;go_big_quiet_on;simp only [Act.put,Bj,By,Bt]) | go_big_quiet_step ((go_at_call 21;exact bwx (ai _ (BW.h _)))))
    refine wpQuiet_nil ?_;intro w6 l
    go_wp2_with fail
    go_meet;exact ⟨by rw [HV.out];rfl,l⟩
   ·rw [am,ax] at HV
    refine rqx ?_
    repeat (first | (go_big_quiet_want;refine Jp (W:=f) 43 (.tmp 3) rfl rfl pn ?_;go_big_quiet_on;simp only [Act.put,Bj,By,Bt]) | go_big_quiet_step ((go_at_call 21;exact bwx (ai _ (BW.h _)))))
    refine wpQuiet_nil ?_;intro w6 l
    go_wp2_with fail
    go_meet;exact ⟨by rw [HV.out];rfl,l⟩
  ·rw [am] at HV
   refine rqx ?_
   repeat (first | (go_big_quiet_want;refine Jp (W:=f) 43 (.tmp 3) rfl rfl pn ?_;go_big_quiet_on;simp only [Act.put,Bj,By,Bt]) | go_big_quiet_step ((go_at_call 21;exact bwx (ai _ (BW.h _)))))
   refine wpQuiet_nil ?_;intro w6 l
   go_wp2_with fail
   go_meet;exact ⟨by rw [HV.out];rfl,l⟩
 case rest=>
  obtain ⟨rfl,aj⟩:=hcut;obtain ⟨w5,av⟩:=exq (wc);rw [<-av] at aj;subst av;have t:=Z0 (af.trans (aj.mono (by omega)));have ab:=Z0 (ac.out.below aj ag);have p:=Z0 (al _ t);clear aj p2 p1 q0 q1 pn a1 ai af ac ag al
  go_upto_if 26 with fail
  by_cases hv:mgB r.n m=true
  ·have HF:Ah (Ze (w5.setCell ⟨b,19,Ab⟩ (Aa O 1)) B b RP x/\Ai B w (w5.setCell ⟨b,19,Ab⟩ (Aa O 1))):=by
    unfold Ah;rw [HQ.out,if_pos hv];exact ⟨p.set 19 _,(t.mono aa).trans (p.setB 19 _)⟩
   have a7:=p.blk.cell 19;have a6:=p.blk.free 19;rw [hv];clear HQ hv
   go_wp2_with (fail)
   (try simp only [Av,Exit.then])
   first
    | exact A8 (Au rfl _ _ _) rfl ⟨x,rfl,HF.1,HF.2⟩
    | exact A8 (Au rfl _ _ _) rfl ⟨rfl,⟨x,HF.1⟩,HF.2⟩
  have ah:mgB r.n m=false:=by simpa using hv
  have g:=HQ.trans (if_neg hv)
  have ay:MB=0:=by
   have h9:=HV.out;rw [ah] at h9;have h8:=h9.symm;simp only [Bool.or_eq_false_iff] at h8;simpa using h8.1.1
  have ar:m.td=r.n.id/\¬ r.n.sz<m.fr:=by
   have h9:=HV.out;rw [ah] at h9;have h8:=h9.symm;simp only [Bool.or_eq_false_iff] at h8;exact ⟨by simpa using h8.1.2,by simpa using h8.2⟩
  have HZ:Ah _:=aq.out ay;have au:=Z0 ar;obtain ⟨J,hJ⟩:∃ J:Nat,m.fr=(J:Int)+1:=⟨(m.fr-1).toNat,by have:=HZ.2.1;omega⟩;have HJ:=Z0 hJ;have a5:(J:Int)+1<=r.n.sz:=by have:=au.2;omega
  have a9:(J:Int)+1≠r.n.id:=by have q:=HZ.2.2.1;have y:=au.1;omega
  have n0:=ab.out.cell 0;rw [ah];clear HQ hv ah HV ay ar aq hJ;by_cases q:m.ki=1
  ·have HH:Ah _:=l4preAsk_any b r x m ea m.es.length ec w5 B p hb (by rw [hL];simp)
   have HF:=Z0 (g.trans (if_pos q));have b1:(m.ki == 1)=true:=by simpa using q
   have v:=Z0 trivial;clear g q
   go_wp2_with (first
    |(have i:=v;refine Zd 43 (.tmp 3) rfl ?_;clear i;refine Z7 rfl 43 (.tmp 3) rfl w.heap.size rfl ab.out underlying43 rfl Yc rfl ?_;clear v)
    |(go_at_call 119;refine Am HH ?_;rintro e wz ⟨x9,rfl,c,a⟩;have j:Ah _:=c;have o:=Z0 ((t.mono aa).trans a);clear c a))
   (try simp only [Av,Exit.then])
   exact bodyPost_end (Au rfl _ _ _) rfl ⟨x9,rfl,HF.out▸j,o.out⟩
  by_cases y:m.ki=2
  ·have HH:Ah _:=Z80 b r x m ea m.es.length ec w5 B p hb hd hD (by rw [hL];simp) az a2 ae ao
   have HF:=Z0 ((g.trans (if_neg q)).trans (if_pos y));have b1:(m.ki == 1)=false:=by simpa using q
   have b2:(m.ki == 2)=true:=by simpa using y
   have v:=Z0 trivial;clear g q y
   go_wp2_with (first
    |(have i:=v;refine Zd 43 (.tmp 3) rfl ?_;clear i;refine Z7 rfl 43 (.tmp 3) rfl w.heap.size rfl ab.out underlying43 rfl Yc rfl ?_;clear v)
    |(go_at_call 120;refine Am HH ?_;rintro e wz ⟨x9,rfl,c,a⟩;have j:Ah _:=c;have o:=Z0 ((t.mono aa).trans a);clear c a))
   (try simp only [Av,Exit.then])
   exact bodyPost_end (Au rfl _ _ _) rfl ⟨x9,rfl,HF.out▸j,o.out⟩
  by_cases h3:m.ki=3
  ·have HH:Ah _:=l4voteAsk_any b r x m ea m.es.length ec w5 B p hb hd hD (by rw [hL];simp)
   have HF:=Z0 (((g.trans (if_neg q)).trans (if_neg y)).trans (if_pos h3));have b1:(m.ki == 1)=false:=by simpa using q
   have b2:(m.ki == 2)=false:=by simpa using y
   have b3:(m.ki == 3)=true:=by simpa using h3
   have v:=Z0 trivial;clear g q y h3
   go_wp2_with (first
    |(have i:=v;refine Zd 43 (.tmp 3) rfl ?_;clear i;refine Z7 rfl 43 (.tmp 3) rfl w.heap.size rfl ab.out underlying43 rfl Yc rfl ?_;clear v)
    |(go_at_call 121;refine Am HH ?_;rintro e wz ⟨x9,rfl,c,a⟩;have j:Ah _:=c;have o:=Z0 ((t.mono aa).trans a);clear c a))
   (try simp only [Av,Exit.then])
   exact bodyPost_end (Au rfl _ _ _) rfl ⟨x9,rfl,HF.out▸j,o.out⟩
  by_cases h4:m.ki=4
  ·have HH:Ah _:=Z7j b r x m ea m.es.length ec w5 B p hb hd hD hL ae ao
   have HF:=Z0 ((((g.trans (if_neg q)).trans (if_neg y)).trans (if_neg h3)).trans (if_pos h4));have b1:(m.ki == 1)=false:=by simpa using q
   have b2:(m.ki == 2)=false:=by simpa using y
   have b3:(m.ki == 3)=false:=by simpa using h3
   have b4:(m.ki == 4)=true:=by simpa using h4
   have v:=Z0 trivial;clear g q y h3 h4
   go_wp2_with (first
    |(have i:=v;refine Zd 43 (.tmp 3) rfl ?_;clear i;refine Z7 rfl 43 (.tmp 3) rfl w.heap.size rfl ab.out underlying43 rfl Yc rfl ?_;clear v)
    |(go_at_call 122;refine Am HH ?_;rintro e wz ⟨x9,rfl,c,a⟩;have j:Ah _:=c;have o:=Z0 ((t.mono aa).trans a);clear c a))
   (try simp only [Av,Exit.then])
   exact bodyPost_end (Au rfl _ _ _) rfl ⟨x9,rfl,HF.out▸j,o.out⟩
  by_cases h5:m.ki=5
  ·have HH:Ah _:=l4append_any b r x m ea ec w5 B p (an _ t) a3 hb hd hD (by rw [hL];simp) HZ.2.2.2.1 HZ.2.2.2.2.1 (HZ.2.2.2.2.2.1 (by omega))
   have HF:=Z0 (((((g.trans (if_neg q)).trans (if_neg y)).trans (if_neg h3)).trans (if_neg h4)).trans (if_pos h5));have b1:(m.ki == 1)=false:=by simpa using q
   have b2:(m.ki == 2)=false:=by simpa using y
   have b3:(m.ki == 3)=false:=by simpa using h3
   have b4:(m.ki == 4)=false:=by simpa using h4
   have b5:(m.ki == 5)=true:=by simpa using h5
   have v:=Z0 trivial;clear g q y h3 h4 h5
   go_wp2_with (first
    |(have i:=v;refine Zd 43 (.tmp 3) rfl ?_;clear i;refine Z7 rfl 43 (.tmp 3) rfl w.heap.size rfl ab.out underlying43 rfl Yc rfl ?_;clear v)
    |(go_at_call 123;refine Am HH ?_;rintro e wz ⟨x9,rfl,c,a⟩;have j:Ah _:=c;have o:=Z0 ((t.mono aa).trans a);clear c a))
   (try simp only [Av,Exit.then])
   exact bodyPost_end (Au rfl _ _ _) rfl ⟨x9,rfl,HF.out▸j,o.out⟩
  have HH:Ah _:=Z60 b r x m J ea m.es.length ec w5 B p hb hd hD (by rw [hL];simp) ae HJ (by have:=HJ.out;omega) (by have:=HJ.out;have:=HZ.2.2.1;omega) a4 aw HZ.2.2.2.1 HZ.2.2.2.2.1 HZ.2.2.2.2.2.2.1 HZ.2.2.2.2.2.2.2;have HF:=Z0 ((((((g.trans (if_neg q)).trans (if_neg y)).trans (if_neg h3)).trans (if_neg h4)).trans (if_neg h5)));have b1:(m.ki == 1)=false:=by simpa using q
  have b2:(m.ki == 2)=false:=by simpa using y
  have b3:(m.ki == 3)=false:=by simpa using h3
  have b4:(m.ki == 4)=false:=by simpa using h4
  have b5:(m.ki == 5)=false:=by simpa using h5
  have v:=Z0 trivial;clear g q y h3 h4 h5
  go_wp2_with (first
   |(have i:=v;refine Zd 43 (.tmp 3) rfl ?_;clear i;refine Z7 rfl 43 (.tmp 3) rfl w.heap.size rfl ab.out underlying43 rfl Yc rfl ?_;clear v)
   |(go_at_call 124;refine Am HH ?_;rintro e wz ⟨x9,rfl,c,a⟩;have j:Ah _:=c;have o:=Z0 ((t.mono aa).trans a);clear c a))
  (try simp only [Av,Exit.then])
  exact bodyPost_end (Au rfl _ _ _) rfl ⟨x9,rfl,HF.out▸j,o.out⟩
structure LdT (n:Nd) (N:Nat):Prop where
 ldb:LdB n N
 sel:n.se.length=N
 se:∀ y∈n.se,0<=y/\y<=n.nw
 st:∀ y∈n.st,0<=y/\y<=n.nw
theorem heardK_le (n:Nd):∀ k,Yu n k<=k
 | 0=>Ao _
 | k+1=>by
  have:=heardK_le n k;rw [Yu];split <;> omega
theorem beatK_n (r:Rn)(e:0<=r.n.nw)(a:∀ y∈r.n.st,0<=y/\y<=r.n.nw):∀ k,∃ s,(Rn.beatK k r).n={ r.n with st:=s }/\s.length=r.n.st.length/\∀ y∈s,0<=y/\y<=r.n.nw
 | 0=>⟨r.n.st,rfl,rfl,a⟩
 | k+1=>by
  obtain ⟨s,c,b,d⟩:=beatK_n r e a k;rw [Rn.beatK];split
  ·refine ⟨s.set k r.n.nw,?_,by rw [Bg];exact b,?_⟩
   ·show ({ (Rn.beatK k r).n with st:=(Rn.beatK k r).n.st.set k (Rn.beatK k r).n.nw } : Nd)=_
    rw [c]
   ·intro y f
    rcases List.mem_or_eq_of_mem_set f with h | h
    ·exact d y h
    ·rw [h];exact ⟨e,Int.le_refl _⟩
  ·exact ⟨s,c,b,d⟩
theorem tick_eq (r0:Rn):r0.tick=if r0.n.nw=1099511627776 then { r0 with code:=7 } else
  if r0.n.ro=3 then
   (if Xx (((Yu { r0.n with nw:=r0.n.nw+1 } r0.n.sz.toNat+1:Nat)):Int) r0.n.sz=true then Rn.beatK r0.n.sz.toNat { r0 with n:={ r0.n with nw:=r0.n.nw+1 } } else (Rn.lone { r0 with n:={ r0.n with nw:=r0.n.nw+1 } }).timer)
  else if r0.n.nw+1<r0.n.dl then { r0 with n:={ r0.n with nw:=r0.n.nw+1 } }
  else if r0.n.tm=1073741824 then (Rn.lone { r0 with n:={ r0.n with nw:=r0.n.nw+1 } }).timer
  else Rn.allK ⟨1,0,0,r0.n.tm+1,r0.n.log.length,Y9 r0.n.log,0,0,0,[]⟩ r0.n.sz.toNat { (Rn.lone { r0 with n:={ r0.n with nw:=r0.n.nw+1 } }).timer with n:={ (Rn.lone { r0 with n:={ r0.n with nw:=r0.n.nw+1 } }).timer.n with ro:=1,gr:=[r0.n.id] } }:=by
 unfold Rn.tick;split
 ·rfl
 rw [show (((Yu { r0.n with nw:=r0.n.nw+1 } r0.n.sz.toNat+1:Nat)):Int)=1+(Yu { r0.n with nw:=r0.n.nw+1 } r0.n.sz.toNat:Int) by push_cast;omega]
theorem l4tick_any (b:Nat)(r:Rn)(x:RV)(w:Ag)(B:Nat)(h:Ze w B b r x)(hb:NdB r.n)(hd : -(2^63)<=r.draw)(hD:r.draw<2^63)(hl:x.L.length<=900)(bm:r.n.sz%2=1)(cz:0<=r.n.tm)(dd:r.n.tm<=1073741824)(cy:r.n.ro=3->LdT r.n r.n.sz.toNat) :
  Ar Ad 76 #[Ae (Ac ⟨b,0,Ab⟩)] w λe w'=>∃ x',e=Aj (.tuple #[])/\Ze w' B b r.tick x'/\Ai B w w':=by
 have HR:=Z0 h;have ep:=Ap h.lo (Be h.lt);have ee:=h.lt;have HQ:Ah (r.tick=_):=tick_eq r;generalize r.tick=RP at *;have c9:w.cell? ⟨b,9,Ab⟩=Ac (Aa O r.n.nw):=h.blk.cell 9;have f9:=h.blk.free 9;by_cases ak:r.n.nw=1099511627776
 ·have bc:=Z0 (HQ.trans (if_pos ak))
  have ek:w.cell? ⟨b,19,Ab⟩=Ac (Aa O r.code):=h.blk.cell 19;have ei:=h.blk.free 19;rw [ak] at c9;clear HQ h ak hb;go_enter func76,ntmps76
  go_wp2_with (fail)
  (try simp only [Av,Exit.then])
  refine A8 (Au rfl _ _ _) rfl ⟨x,rfl,?_,HR.setB 19 _⟩;rw [bc.out];exact HR.set 19 _
 have dt:(r.n.nw == 1099511627776)=false:=by simpa using ak
 have bc:=HQ.trans (if_neg ak);have cg:Ah _:=bc;have dw:IntKind.i64.wrap (r.n.nw+1)=r.n.nw+1:=by have:=hb.nw0;have:=hb.nw1;rw [Bl];omega
 obtain ⟨a,q⟩:∃ a:Rn,a={ r with n:={ r.n with nw:=r.n.nw+1 } }:=⟨_,rfl⟩;have d:Ah (NdB a.n):=by rw [q];exact ⟨by show 0<=r.n.nw+1;have:=hb.nw0;omega,by show r.n.nw+1<=_;have:=hb.nw1;omega,hb.hd0,by show r.n.hd<=r.n.nw+1;have:=hb.hd1;omega,hb.sz0,hb.sz1,hb.id0,hb.id1,hb.ln⟩
 have HE:Ah (a.n.ro=r.n.ro/\a.n.nw=r.n.nw+1/\a.n.dl=r.n.dl/\a.n.tm=r.n.tm/\a.n.id=r.n.id/\a.n.sz=r.n.sz/\a.draw=r.draw/\a.n.log=r.n.log):=by rw [q];exact ⟨rfl,rfl,rfl,rfl,rfl,rfl,rfl,rfl⟩
 have ba:Ah (RP=if a.n.ro=3 then
   (if Xx (((Yu a.n a.n.sz.toNat+1:Nat)):Int) a.n.sz=true then Rn.beatK a.n.sz.toNat a else (Rn.lone a).timer)
  else if a.n.nw<a.n.dl then a
  else if a.n.tm=1073741824 then (Rn.lone a).timer
  else Rn.allK ⟨1,0,0,a.n.tm+1,a.n.log.length,Y9 a.n.log,0,0,0,[]⟩ a.n.sz.toNat { (Rn.lone a).timer with n:={ (Rn.lone a).timer.n with ro:=1,gr:=[a.n.id] } }):=by rw [q];exact cg
 have ce:Ah (a.n.ro=3->LdT a.n a.n.sz.toNat):=by
  rw [q];intro h3;have h9:=cy h3;exact ⟨⟨h9.ldb.nxl,h9.ldb.stl,h9.ldb.nx⟩,h9.sel,λy hy=>by have:=h9.se y hy;exact ⟨this.1,by show y<=r.n.nw+1;omega⟩,λy hy=>by have:=h9.st y hy;exact ⟨this.1,by show y<=r.n.nw+1;omega⟩⟩
 obtain ⟨w0,a8⟩:=exq (w.setCell ⟨b,9,Ab⟩ (Aa O (r.n.nw+1)));have g:Ah (Ze w0 B b a x):=by rw [a8,q];exact h.set 9 _
 have a7:Ah (Ai B w w0):=by rw [a8];exact h.setB 9 _
 have bh:Ah (-(2^63)<=a.draw/\a.draw<2^63):=by rw [q];exact ⟨hd,hD⟩
 have d8:0<=a.n.tm:=by rw [q];exact cz
 have d9:a.n.tm<=1073741824:=by rw [q];exact dd
 have a1:a.n.sz%2=1:=by rw [q];exact bm
 clear HQ bc cg ak h cy q HE hb hd hD cz dd bm HR;go_enter func76,ntmps76
 go_upto_region 3 with fail
 rw [<-a8];clear a8 c9 f9 dt dw;have k6:w0.cell? ⟨b,6,Ab⟩=Ac (Aa O a.n.ro):=g.blk.cell 6;by_cases ag:a.n.ro=3
 ·have dq:(a.n.ro == 3)=true:=by simpa using ag
  have ae:=ba.trans (if_pos ag);have f:=Z0 (ce ag);obtain ⟨N,hN⟩:∃ N:Nat,a.n.sz=N:=⟨a.n.sz.toNat,by have:=d.sz0;omega⟩;have ed:N<=7:=by have:=d.sz1;omega
  have cn:a.n.sz.toNat=N:=by omega
  rw [cn] at ae f;have m:Ah _:=ae;have HN:=Z0 hN;have cv:Ah (∀ k,Yu a.n k<=k):=heardK_le _;have dc:Ah (∀ k,Yu a.n (k+1)=Yu a.n k+if (k:Int)+1≠a.n.id/\a.n.nw-a.n.se.getD k 0<a.n.el then 1 else 0):=λk=>rfl
  have c8:Ah (Yu a.n 0=0):=rfl;have d7:=d.nw0;have eb:=d.nw1;clear ba ae ce ag hN cn
  go_upto_region 6 with fail
  go_loopw [2,3] (λav jv wr=>∃ k:Nat,k<=N/\jv=Aa O ((k:Int)+1)/\av=Aa O ((Yu a.n k+1:Nat):Int)/\Ai w0.heap.size w0 wr) (λ_ jv _=>N+1-(B0 jv).toNat)
  case atStart=>exact ⟨0,Bb _,rfl,by rw [c8.out];rfl,An _ _⟩
  case round=>
   obtain ⟨k,hk,rfl,rfl,aj⟩:=hrel;have aw:=Z0 aj;have v:=Z0 (g.below aj);have c1:wr.cell? ⟨b,1,Ab⟩=Ac (Aa O (N:Int)):=by rw [<-HN.out];exact v.blk.cell 1
   have d2:=cv.out k;have c:=dc.out k;clear aj k6;by_cases az:k<N
   ·have dz:((k:Int)+1)<=(N:Int):=by omega
    have c0:wr.cell? ⟨b,0,Ab⟩=Ac (Aa O a.n.id):=v.blk.cell 0;have c9:wr.cell? ⟨b,9,Ab⟩=Ac (Aa O a.n.nw):=v.blk.cell 9;have c2:wr.cell? ⟨b,2,Ab⟩=Ac (Aa O a.n.el):=v.blk.cell 2;obtain ⟨sg,sc,c5,ca,cs,-⟩:=Jg v.se k (by rw [f.out.sel];exact az);have c16:wr.cell? ⟨b,16,Ab⟩=Ac (I (Ac ⟨sg,0,Ab⟩) a.n.se.length sc):=by rw [<-c5];exact v.blk.cell 16
    have et:=f.se _ (Bp (show k<a.n.se.length by rw [f.out.sel];exact az));have a0:a.n.se.getD k 0=a.n.se[k]'(by rw [f.out.sel];exact az):=by rw [Ba,As (by rw [f.out.sel];exact az)];rfl
    rw [a0] at c;have d1:(k:Int)<(a.n.se.length:Int):=by rw [f.out.sel];omega
    clear a0 c5;generalize (a.n.se[k]'(by rw [f.out.sel];exact az))=SE at *;have di:IntKind.i64.wrap ((k:Int)+1-1)=(k:Int):=wry
    have d5:=wrx (a.n.nw-SE)
    have eo:IntKind.i64.wrap (((Yu a.n k+1:Nat):Int)+1)=((Yu a.n k+1+1:Nat):Int):=by rw [Bl];push_cast;omega
    by_cases hj:(k:Int)+1=a.n.id
    ·have bq:(((k:Int)+1) != a.n.id)=false:=by simpa using hj
     rw [if_neg (λh=>h.1 hj)] at c;have l:Ah (Yu a.n (k+1)=Yu a.n k):=by rw [c];rfl
     clear c hj;generalize hhK:Yu a.n k=HK at *
     go_upto_region 8 with fail
     go_quiet (fail)
     go_wp2_with fail
     go_roundw
     case rel=>exact ⟨k+1,by omega,by go_num,by rw [l.out],aw.trans bdr⟩
     case measure=>simp [B0];omega
    ·have bq:(((k:Int)+1) != a.n.id)=true:=by simpa using hj
     by_cases hg:a.n.nw-SE<a.n.el
     ·rw [if_pos ⟨hj,hg⟩] at c
      have l:=Z0 c;have b0:=decide_eq_true hg;clear c hj;generalize hhK:Yu a.n k=HK at *
      go_upto_region 8 with fail
      go_quiet (fail)
      go_wp2_with fail
      go_roundw
      case rel=>exact ⟨k+1,by omega,by go_num,by rw [l.out];go_num,aw.trans bdr⟩
      case measure=>simp [B0];omega
     ·rw [if_neg (λh=>hg h.2)] at c
      have l:Ah (Yu a.n (k+1)=Yu a.n k):=by rw [c];rfl
      have b0:=decide_eq_false hg;clear c hj;generalize hhK:Yu a.n k=HK at *
      go_upto_region 8 with fail
      go_quiet (fail)
      go_wp2_with fail
      go_roundw
      case rel=>exact ⟨k+1,by omega,by go_num,by rw [l.out],aw.trans bdr⟩
      case measure=>simp [B0];omega
   ·obtain rfl:k=N:=by omega
    have dz:¬((k:Int)+1)<=(k:Int):=by omega
    have HM:Ah (∀ z,Ar Ad 100 #[Aa O ((Yu a.n k+1:Nat):Int),Aa O (k:Int)] z λe w'=>e=Aj (.bool (Xx ((Yu a.n k+1:Nat):Int) a.n.sz))/\w'=z):=λz=>by
     have h9:=Z1c ((Yu a.n k+1:Nat):Int) (k:Int) (by rw [<-HN.out];exact a1) (by omega) (by omega) z;rw [maj_same (by rw [<-HN.out];exact a1),<-HN.out] at h9;rw [<-HN.out];exact h9
    have an:=Z0 (a7.trans (aw.mono (Ap g.lo (Be g.lt))));obtain ⟨wp,bv⟩:=exq (wr);rw [<-bv] at an v c1;rw [<-bv];clear c d2 cv dc c8 bv aw g a7;obtain ⟨MJ,de⟩:=exq (Xx ((Yu a.n k+1:Nat):Int) a.n.sz);rw [<-de] at HM m;generalize Yu a.n k+1=cnt at *;clear de;by_cases am:MJ=true
    case neg=>
     have cr:MJ=false:=by simpa using am
     have ac:=Z0 (m.trans (if_neg am));rw [cr] at HM;clear m am cr
     go_wp2_with (first
      |(go_at_call 100;refine (HM _).mono ?_;rintro e w' ⟨rfl,bo⟩;have ao:=bo.symm;subst ao)
      |(go_at_call 114;refine Am (Z1m b a x wp B v) ?_;rintro e w5 ⟨rfl,h5,b5,-⟩;have a4:=Z0 h5;have a3:=Z0 (an.trans b5);clear h5 b5)
      |(go_at_call 115;refine Am (Z0x b a.lone x.lone w5 B a4 bh.1 bh.2 d.nw0 d.nw1) ?_;rintro e w6 ⟨rfl,h6,b6,-⟩;have t:=Z0 h6;have ar:=Z0 (a3.trans b6);clear h6 b6))
     (try simp only [Av,Exit.then])
     exact A8 (Au rfl _ _ _) rfl ⟨x.lone,rfl,by rw [ac.out];exact t,ar.out⟩
    have ac:=Z0 (m.trans (if_pos am));rw [am] at HM;clear m am;have d0:=Z0 (beatK_n a d.nw0 f.st);have dy:Ah (∀ j,Rn.beatK (j+1) a=if (j:Int)+1≠a.n.id/\a.n.bt<=a.n.nw-(Rn.beatK j a).n.st.getD j 0 then (Rn.beatK j a).sendE j else Rn.beatK j a):=λj=>rfl
    have da:Ah (Rn.beatK 0 a=a):=rfl
    go_upto_region 14 with (first
     |(go_at_call 100;refine (HM _).mono ?_;rintro e w' ⟨rfl,bo⟩;have ao:=bo.symm;subst ao))
    clear c1 HM
    go_loopw [4] (λjv wr=>∃ j:Nat,j<=k/\jv=Aa O ((j:Int)+1)/\∃ X:RV,Ze wr B b (Rn.beatK j a) X/\X.L.length<=x.L.length+j/\Ai B w wr) (λjv _=>k+1-(B0 jv).toNat)
    case atStart=>exact ⟨0,Bb _,rfl,x,by rw [da.out];exact v,Ao _,an.out⟩
    case round=>
     obtain ⟨j,ej,rfl,X,hR,co,aj⟩:=hrel;have i:=Z0 hR;have au:=Z0 aj;have a5:=Z0 co;obtain ⟨s,ab,cf,b3⟩:=d0.out j;have c:=dy.out j;have ay:=Z0 ab;have c1:wr.cell? ⟨b,1,Ab⟩=Ac (Aa O (k:Int)):=by rw [<-HN.out];have h9:=hR.blk.cell 1;rw [h9];show Ac (Value.int O (Rn.beatK j a).n.sz)=_;rw [ab]
     clear hR co aj;by_cases bi:j<k
     ·have cu:((j:Int)+1)<=(k:Int):=by omega
      have c0:wr.cell? ⟨b,0,Ab⟩=Ac (Aa O a.n.id):=by have h9:=i.blk.cell 0;rw [h9];show Ac (Value.int O (Rn.beatK j a).n.id)=_;rw [ab]
      have c9:wr.cell? ⟨b,9,Ab⟩=Ac (Aa O a.n.nw):=by have h9:=i.blk.cell 9;rw [h9];show Ac (Value.int O (Rn.beatK j a).n.nw)=_;rw [ab]
      have c3:wr.cell? ⟨b,3,Ab⟩=Ac (Aa O a.n.bt):=by have h9:=i.blk.cell 3;rw [h9];show Ac (Value.int O (Rn.beatK j a).n.bt)=_;rw [ab]
      have bj:(Rn.beatK j a).n.st=s:=by rw [ab]
      have ca:s.length=k:=by rw [cf,f.out.ldb.stl]
      have cd:=i.st;rw [bj] at cd c;obtain ⟨tg,tc,db,em,ct,-⟩:=Jg cd j (by omega);have c17:wr.cell? ⟨b,17,Ab⟩=Ac (I (Ac ⟨tg,0,Ab⟩) s.length tc):=by rw [<-db];exact i.blk.cell 17
      have er:=b3 _ (Bp (show j<s.length by omega));have a0:s.getD j 0=s[j]'(by omega):=by rw [Ba,As (by omega)];rfl
      rw [a0] at c;have d1:(j:Int)<(s.length:Int):=by omega
      have dk:=Z0 ca;clear a0;generalize (s[j]'(by omega))=TE at *;clear db ab cf b3 bj cd ca;have di:IntKind.i64.wrap ((j:Int)+1-1)=(j:Int):=wry
      have d5:=wrx (a.n.nw-TE)
      by_cases af:(j:Int)+1=a.n.id
      ·have bq:(((j:Int)+1) != a.n.id)=false:=by simpa using af
       rw [if_neg (λh=>h.1 af)] at c;have l:=Z0 c;clear c af
       go_upto_region 16 with fail
       go_quiet (fail)
       go_wp2_with fail
       go_roundw
       case rel=>exact ⟨j+1,by omega,by go_num,X,by rw [l.out];exact i.below bdr,by have:=a5.out;omega,au.trans bdr⟩
       case measure=>simp [B0];omega
      ·have bq:(((j:Int)+1) != a.n.id)=true:=by simpa using af
       by_cases hg:a.n.bt<=a.n.nw-TE
       ·rw [if_pos ⟨af,hg⟩] at c
        have l:=Z0 c;have b0:=decide_eq_true hg;obtain ⟨P,cp,hP⟩:=f.ldb.nx j (by rw [f.out.ldb.nxl];exact bi) af
        have dj:=Z0 λz hz=>
         Xy b (Rn.beatK j a) X j P z B (i.below hz) (by rw [ay.out];exact d.st s) (by have:=a5.out;omega) (by rw [ay.out];show j<a.n.nx.length;rw [f.out.ldb.nxl];exact bi) (by rw [ay.out];show j<s.length;have:=dk.out;omega) (by omega) (by simp only [ay.out];exact hP) (by rw [ay.out];exact cp)
        clear c af cp hP
        go_upto_region 16 with fail
        go_quiet (fail)
        obtain ⟨wq,bp⟩:=exq (wr.drewN nq);have cj:Ah (Ai wr.heap.size wr wq):=by rw [bp];exact bdr
        rw [<-bp];clear bp c1 c0 c9 c3 c17 ct
        go_wp2_with (first
         |(go_at_call 116;refine Am (dj wq cj) ?_;rintro e wz ⟨v9,y9,rfl,cq,cx⟩;have dm:=Z0 cq;have du:=Z0 ((au.trans (cj.mono (Ap i.lo (Be i.lt)))).trans cx);clear cq cx))
        go_roundw
        case rel=>exact ⟨j+1,by omega,by go_num,X.sent v9 y9,by rw [l.out];exact dm,by have:=a5.out;show (X.L ++ [y9]).length<=_;rw [List.length_append,List.length_singleton];omega,du.out⟩
        case measure=>simp [B0];omega
       ·rw [if_neg (λh=>hg h.2)] at c
        have l:=Z0 c;have b0:=decide_eq_false hg;clear c af
        go_upto_region 16 with fail
        go_quiet (fail)
        go_wp2_with fail
        go_roundw
        case rel=>exact ⟨j+1,by omega,by go_num,X,by rw [l.out];exact i.below bdr,by have:=a5.out;omega,au.trans bdr⟩
        case measure=>simp [B0];omega
     ·obtain rfl:j=k:=by omega
      have cu:¬((j:Int)+1)<=(j:Int):=by omega
      have HF:Ah (Ze wr B b RP X):=by unfold Ah;rw [ac.out];exact i
      clear c ab cf b3
      go_wp2_with fail
      (try simp only [Av,Exit.then])
      first
       | exact A8 (Au rfl _ _ _) rfl ⟨X,rfl,HF.out,au.out⟩
       | exact A8 (Au rfl _ _ _) rfl ⟨rfl,⟨X,HF.out⟩,au.out⟩
 ·have dq:(a.n.ro == 3)=false:=by simpa using ag
  have ae:Ah _:=ba.trans (if_neg ag);clear ba ce ag;have k9:w0.cell? ⟨b,9,Ab⟩=Ac (Aa O a.n.nw):=g.blk.cell 9;have d6:w0.cell? ⟨b,10,Ab⟩=Ac (Aa O a.n.dl):=g.blk.cell 10
  go_upto_region 18 with fail
  go_quiet (fail)
  obtain ⟨w4,b8⟩:=exq (w0.drewN nq);have bx:Ai w0.heap.size w0 w4:=by rw [b8];exact bdr
  rw [<-b8];have bz:=Z0 (g.below bx);have br:=Z0 (a7.trans (bx.mono (Ap g.lo (Be g.lt))));clear b8 bx k6 k9 d6 g a7
  go_upto_if 134 with fail
  by_cases al:a.n.nw<a.n.dl
  ·have m:=Z0 (ae.trans (if_pos al))
   rw [show decide (a.n.nw<a.n.dl)=true from decide_eq_true al];clear al ae
   go_wp2_with fail
   (try simp only [Av,Exit.then])
   exact A8 (Au rfl _ _ _) rfl ⟨x,rfl,by rw [m.out];exact bz,br.out⟩
  rw [show decide (a.n.nw<a.n.dl)=false from decide_eq_false al];have m:Ah _:=ae.trans (if_neg al);obtain ⟨R2,ax⟩:=exq ((Rn.lone a).timer);obtain ⟨X2,b2⟩:=exq (x.lone);have cw:Ah (∀ z,Ze z B b a.lone x.lone->Ar Ad 115 #[Ae (Ac ⟨b,0,Ab⟩)] z λe w'=>e=Aj (.tuple #[])/\Ze w' B b R2 X2/\Ai B z w'/\z.grownBy w' (Ac b)):=λz hz=>by rw [ax,b2];exact Z0x b _ _ z B hz bh.1 bh.2 d.nw0 d.nw1
  have bn:Ah (R2.n.tm=a.n.tm/\R2.n.log=a.n.log/\R2.n.id=a.n.id/\R2.n.sz=a.n.sz):=by rw [ax];exact ⟨rfl,rfl,rfl,rfl⟩
  have ac:Ah (RP=if a.n.tm=1073741824 then R2 else Rn.allK ⟨1,0,0,a.n.tm+1,a.n.log.length,Y9 a.n.log,0,0,0,[]⟩ a.n.sz.toNat { R2 with n:={ R2.n with ro:=1,gr:=[a.n.id] } }):=by rw [ax];exact m
  have aa:Ah (NdB R2.n):=by rw [ax];exact ⟨d.nw0,d.nw1,d.hd0,d.hd1,d.sz0,d.sz1,d.id0,d.id1,d.ln⟩
  have dg:Ah (X2.L.length<=900):=by rw [b2];exact hl
  clear al ae m ax b2
  go_upto_region 21 with (first
   |(go_at_call 114;refine Am (Z1m b a x w4 B bz) ?_;rintro e w5 ⟨rfl,h5,b5,-⟩;have a4:=Z0 h5;have a3:=Z0 (br.trans b5);clear h5 b5)
   |(go_at_call 115;refine Am (cw w5 a4) ?_;rintro e w6 ⟨rfl,h6,b6,-⟩;have t:=Z0 h6;have ar:=Z0 (a3.trans b6);clear h6 b6))
  have c4:w6.cell? ⟨b,4,Ab⟩=Ac (Aa O a.n.tm):=by rw [<-bn.out.1];exact t.blk.cell 4
  by_cases ai:a.n.tm=1073741824
  ·have bb:=Z0 (ac.trans (if_pos ai))
   rw [ai] at c4;clear ai ac
   go_wp2_with fail
   (try simp only [Av,Exit.then])
   exact A8 (Au rfl _ _ _) rfl ⟨X2,rfl,by rw [bb.out];exact t,ar.out⟩
  have eu:(a.n.tm == 1073741824)=false:=by simpa using ai
  have bb:Ah _:=ac.trans (if_neg ai);clear ai ac bz br a4 a3 cw;have c6:w6.cell? ⟨b,6,Ab⟩=Ac (Aa O R2.n.ro):=t.blk.cell 6;have f6:=t.blk.free 6
  go_upto_region 23 with fail
  obtain ⟨w8,bd⟩:=exq (w6.setCell ⟨b,6,Ab⟩ (Aa O 1));have ah:Ah (Ze w8 B b { R2 with n:={ R2.n with ro:=1 } } X2):=by rw [bd];exact t.set 6 _
  have ch:Ah (Ai B w w8):=by rw [bd];exact ar.setCell (p:=⟨b,6,Ab⟩) t.lo _
  rw [<-bd];clear bd c4 c6 f6 t ar;have c0:w8.cell? ⟨b,0,Ab⟩=Ac (Aa O a.n.id):=by rw [<-bn.out.2.2.1];exact ah.blk.cell 0
  have bw:Ah (∀ z,z=(w8.setCell ⟨b,13,Ab⟩ (I (Ac ⟨w8.heap.size,0,Ab⟩) 1 1)).alloc (.cells #[Aa O a.n.id] 3)->Ze z B b { R2 with n:={ R2.n with ro:=1,gr:=[a.n.id] } } { X2 with vg:=I (Ac ⟨w8.heap.size,0,Ab⟩) 1 1 }/\Ai B w z):=λz hz=>by
   have:=ah.grantAt baq (ownI_one w8 w8.heap.size (Ao _) a.n.id);rw [hz,<-World.setCell_alloc_past _ _ _ _ ah.out.lt];exact ⟨this.1,ch.trans this.2.1⟩
  have c13:∀ o:Obj,(w8.alloc o).cell? ⟨b,13,Ab⟩=Ac X2.vg:=λo=>(ah.below baq).blk.cell 13
  have dv:∀ o:Obj,(w8.alloc o).frozen? ⟨b,13,Ab⟩=false:=λo=>(ah.below baq).blk.free 13
  have eg:=ah.lt
  go_upto_region 24 with fail
  obtain ⟨wa,a6⟩:=exq ((w8.setCell ⟨b,13,Ab⟩ (I (Ac ⟨w8.heap.size,0,Ab⟩) 1 1)).alloc (.cells #[Aa O a.n.id] 3));have b7:=(bw wa a6).1;have dh:Ah _:=(bw wa a6).2;rw [<-a6];obtain ⟨R3,a2⟩:∃ R3:Rn,R3={ R2 with n:={ R2.n with ro:=1,gr:=[a.n.id] } }:=⟨_,rfl⟩;obtain ⟨X3,bu⟩:∃ X3:RV,X3={ X2 with vg:=I (Ac ⟨w8.heap.size,0,Ab⟩) 1 1 }:=⟨_,rfl⟩;rw [<-a2,<-bu] at b7;have ad:=Z0 b7;have bg:Ah (R3.n.tm=a.n.tm/\R3.n.log=a.n.log/\R3.n.id=a.n.id/\R3.n.sz=a.n.sz):=by rw [a2];exact bn
  have d4:Ah (X3.L.length<=900):=by rw [bu];exact dg
  have be:Ah (NdB R3.n):=by rw [a2];exact ⟨aa.nw0,aa.nw1,aa.hd0,aa.hd1,aa.sz0,aa.sz1,aa.id0,aa.id1,aa.ln⟩
  have d3:Ah (RP=Rn.allK ⟨1,0,0,a.n.tm+1,a.n.log.length,Y9 a.n.log,0,0,0,[]⟩ R3.n.sz.toNat R3):=by unfold Ah;rw [bg.out.2.2.2,a2];exact bb
  clear a6 bw c13 dv c0 ah ch b7 a2 bu bb;obtain ⟨la,lc,cc⟩:=ad.log.shape;rw [bg.out.2.1] at cc;have q4:∀ u:BW wa,u.w.cell? ⟨b,4,Ab⟩=Ac (Aa O a.n.tm):=λu=>by rw [<-bg.out.1];exact (ad.below u.h).blk.cell 4
  have ef:∀ u:BW wa,u.w.cell? ⟨b,12,Ab⟩=Ac (I la a.n.log.length lc):=λu=>by rw [<-cc];exact (ad.below u.h).blk.cell 12
  have f:Ah (∀ z,Ai wa.heap.size wa z->Ar Ad 118 #[Aw (ndC R3.n X3)] z λe w'=>e=Aj (Aa O (Y9 a.n.log))/\Ai z.heap.size z w'):=λz hz=>by rw [<-bg.out.2.1];exact Z47 ad be z hz
  have dn:Ah (∀ z,Ai wa.heap.size wa z->Ar Ad 117 #[Ae (Ac ⟨b,0,Ab⟩),Aw (mqN 1 0 0 (a.n.tm+1) (a.n.log.length:Int) (Y9 a.n.log) 0 0 0 (I Ab 0 0))] z λe w'=>∃ x',e=Aj (.tuple #[])/\Ze w' B b (Rn.allK ⟨1,0,0,a.n.tm+1,a.n.log.length,Y9 a.n.log,0,0,0,[]⟩ R3.n.sz.toNat R3) x'/\Ai B z w'/\x'.L.length<=X3.L.length+7):=λz hz=>l4all_any b R3 X3 ⟨1,0,0,a.n.tm+1,a.n.log.length,Y9 a.n.log,0,0,0,[]⟩ Ab 0 z B (ad.below hz) (Zh.nil _ _) (by have:=d4.out;omega) (by have:=be.sz0;omega) be.sz1 be.id0
  have dx:=Ap ad.lo (Be ad.lt);have eq:=wrx (a.n.tm+1)
  have qn:∀ u:BW wa,Sem.run Ad (loadVar 36 ⟨b,0,Ab⟩) u.w=.ok (Aw (ndC R3.n X3)) u.w:=λu=>Z1s (ad.below u.h)
  have eh:Nonempty (BW wa):=⟨⟨wa,An _ _⟩⟩;clear cc;refine rlx ?_;simp only [List.dropLast_cons_cons,List.dropLast_singleton]
  repeat (first | (go_big_quiet_want;refine Jp (W:=wa) 36 (.tmp 174) rfl rfl qn ?_;go_big_quiet_on;simp only [Act.put,Bj,By,Bt]) | go_big_quiet_step ((go_at_call 118;exact bwx (f _ (BW.h _)))))
  refine wpQuiet_nil ?_;intro wb aq;refine Yg (N:=117) rfl (λ_ _=>by go_simp) #[Ae (Ac ⟨b,0,Ab⟩),Aw (mqN 1 0 0 (a.n.tm+1) (a.n.log.length:Int) (Y9 a.n.log) 0 0 0 (I Ab 0 0))] (by simp only [List.map_toArray,List.map_cons,List.map_nil];rfl) ?_;refine (dn wb aq).mono ?_;rintro e w9 ⟨x9,rfl,c7,a9,-⟩;refine ⟨_,rfl,?_⟩;have dp:Ah _:=c7;have ds:=Z0 ((dh.trans (aq.mono dx)).trans a9);clear c7 a9
  go_wp2_with fail
  (try simp only [Av,Exit.then])
  exact bodyPost_end (Au rfl _ _ _) rfl ⟨_,rfl,by rw [d3.out];exact dp,ds.out⟩
section
variable {w:Ag}{g k:Nat}{v:Af}{l:List Int}
theorem Src.alloc (h:Src w g v l k)(o:Obj):Src (w.alloc o) g v l k:=h.below baq
theorem Src.lt (h:Src w g v l k):g<w.heap.size:=h.1
def NoU8 (C:Array Af):Prop:=∀(j:Nat) (n:Int),C[j]?≠Ac (Value.int .u8 n)
def isU8:Af->Bool
 | Aa .u8 _=>true
 | _=>false
variable {C:Array Af}
theorem Zr (h:C.toList.all (λx=>!isU8 x)=true:=by rfl):NoU8 C:=λj n e=>by
 have a:(Aa .u8 n:Af)∈C.toList:=by
  rw [<-Array.getElem?_toList] at e;exact List.mem_of_getElem? e
 have:=List.all_eq_true.1 h _ a;simp [isU8] at this
variable {b:Nat}
theorem Src.setB {t:Ax}(h:Src w g v l k)(o:Blk w b C t)(a:b≠g)(j:Nat)(c:j<C.size)(p:NoU8 C)(y:Af):Src (w.setCell ⟨b,j,Ab⟩ y) g v l k:=by
 obtain ⟨q,f,r,s,m⟩:=h;have d:w.cell? ⟨b,j,Ab⟩=Ac C[j]:=by rw [o.cell j];exact Bo c
 refine ⟨by simpa [World.setCell] using q,λi=>by rw [World.frozen?_setCell];exact f i,src_set r d (λn e=>p j n (by rw [Bo c,e])) y,?_,?_⟩
 ·rw [World.cell?_setCell_other _ _ _ _ (by intro e;injection e with e _ _;exact a e)];exact s
 ·rw [World.cell?_setCell_other _ _ _ _ (by intro e;injection e with e _ _;exact a e)];exact m
theorem Src.row {t:Ax}(h:Src w g v l k)(q:Blk w b C t)(f:b≠g)(x:NoU8 C)(d:Array Af):Src (w.setRow b d) g v l k:=by
 obtain ⟨z,y,⟨s,r,a,cap,rfl,hc⟩,u,h5⟩:=h;have c:=setRow_other w b g d (λe=>f e.symm)
 have n:g<(w.setRow b d).heap.size:=by
  rcases B1 g (w.setRow b d).heap.size with h' | h'
  ·exact h'
  ·rw [Array.getElem?_eq_none h',Bo z] at c
   cases c
 refine ⟨n,λi=>?_,⟨s,r,a,cap,rfl,λi hi=>?_⟩,(World.cell?_of_block (w:=w) c).trans u,(World.cell?_of_block (w:=w) c).trans h5⟩
 ·have:=y i
  simp only [World.frozen?,c] at this ⊢;exact this
 ·obtain ⟨j,o,rfl,p⟩:=hc i hi
  refine ⟨j,o,rfl,λm hm=>?_⟩;by_cases e:j=b
  ·subst e
   have:=p m hm;rw [q.cell] at this;exact absurd this (x _ _)
  ·exact (World.cell?_of_block (w:=w) (setRow_other w b j d e)).trans (p m hm)
variable {w1:Ag}{row:Option Nat}
theorem Yn (h:w.grownBy w1 row)(a:w.heap.size<=b)(j:Nat)(x:Af):w.grownBy (w1.setCell ⟨b,j,Ab⟩ x) row:=
 ⟨h.os,h.tape,h.output,by simpa [World.setCell] using h.size,λk hk hne=>(Ak _ _ _ _ (by simp only;omega)).trans (h.block k hk hne)⟩
theorem Xi (h:w.grownBy w1 row){t:Ax}(d:Blk w1 b C t)(c:w.heap.size<=b)(a:Array Af):w.grownBy (w1.setRow b a) row:=by
 exact ⟨h.os,h.tape,h.output,by simpa [World.setRow] using h.size,λk hk hne=>(setRow_other w1 b k a (by omega)).trans (h.block k hk hne)⟩
end
structure Dr (w0 w:Ag) (g:Nat) (v:Af) (l:List Int) (k:Nat) (F:List (Nat×Array Af×Ax)):Prop where
 grown:w0.grownBy w (Ac g)
 src:Src w g v l k
 gl:g<w0.heap.size
 bs0:Bs w0 v l
 blks:∀(i:Nat) x,F[i]? = Ac x->w0.heap.size<=x.1/\Blk w x.1 x.2.1 x.2.2/\NoU8 x.2.1
 dis:∀(i j:Nat) x y,F[i]? = Ac x->F[j]? = Ac y->x.1=y.1->i=j
section
variable {w0 w w':Ag} {g k k':Nat} {v:Af} {l:List Int} {F:List (Nat×Array Af×Ax)}
theorem Dr.start (h:Src w g v l k):Dr w w g v l k []:=
 ⟨⟨rfl,rfl,rfl,Ao _,λ_ _ _=>rfl⟩,h,h.lt,h.2.2.1,λi x e=>(by simp at e),λi j x y e=>(by simp at e)⟩
variable {b:Nat}{C:Array Af}
theorem Dr.blk (h:Dr w0 w g v l k F)(i:Nat){t:Ax}(hi:F[i]? = Ac (b,C,t):=by rfl):Blk w b C t:=(h.blks i _ hi).2.1
theorem Dr.ge (h:Dr w0 w g v l k F)(i:Nat){t:Ax}(hi:F[i]? = Ac (b,C,t)):w0.heap.size<=b:=(h.blks i _ hi).1
theorem Dr.lt (h:Dr w0 w g v l k F)(i:Nat){t:Ax}(hi:F[i]? = Ac (b,C,t)):b<w.heap.size:=(h.blk i hi).lt
theorem Dr.ne (h:Dr w0 w g v l k F)(i:Nat){t:Ax}(hi:F[i]? = Ac (b,C,t)):b≠g:=by
 have c:=h.ge i hi;have a:=h.gl;omega
theorem Dr.size (h:Dr w0 w g v l k F):w0.heap.size<=w.heap.size:=h.grown.size
theorem Dr.call (h:Dr w0 w g v l k F)(c:Src w' g v l k')(a:w.grownBy w' (Ac g)):Dr w0 w' g v l k' F:=
 ⟨Z8 h.grown a,c,h.gl,h.bs0,λi x e=>⟨(h.blks i x e).1,((h.blks i x e).2.1).grown a (by have f:=(h.blks i x e).1;have d:=h.gl;omega),(h.blks i x e).2.2⟩,h.dis⟩
theorem Dr.below (h:Dr w0 w g v l k F)(a:Ai w.heap.size w w'):Dr w0 w' g v l k F:=
 h.call (h.src.below a) ⟨a.os,a.tape,a.output,a.size,λk hk _=>a.block k hk⟩
theorem Dr.other (h:Dr w0 w g v l k F)(o:Obj):Dr w0 (w.alloc o) g v l k F:=h.below baq
theorem Dr.drew (h:Dr w0 w g v l k F):Dr w0 w.drew g v l k F:=h.below (An _ _).drew
theorem Dr.drewN (h:Dr w0 w g v l k F)(n:Nat):Dr w0 (w.drewN n) g v l k F:=h.below bdr
theorem Dr.new (h:Dr w0 w g v l k F)(C:Array Af)(t:Ax)(c:NoU8 C):Dr w0 (w.alloc (.cells C t)) g v l k (F ++ [(w.heap.size,C,t)]):=by
 have a:=h.other (.cells C t);refine ⟨a.grown,a.src,a.gl,h.bs0,λi x e=>?_,λi j x y ei ej e=>?_⟩
 ·rcases B1 i F.length with hi | hi
  ·rw [List.getElem?_append_left hi] at e;exact a.blks i x e
  ·rw [List.getElem?_append_right hi] at e
   rcases Nat.eq_zero_or_pos (i-F.length) with hz | hz
   ·rw [hz] at e;simp at e;subst e;exact ⟨h.size,Blk.new _ _ _,c⟩
   ·rw [Bv (by simp;omega)] at e;cases e
 ·have key:∀(i:Nat) x,(F ++ [(w.heap.size,C,t)])[i]? = Ac x->(i<F.length/\F[i]? = Ac x/\x.1<w.heap.size)∨(i=F.length/\x.1=w.heap.size):=λi x e=>by
   rcases B1 i F.length with hi | hi
   ·rw [List.getElem?_append_left hi] at e;exact .inl ⟨hi,e,((h.blks i x e).2.1).lt⟩
   ·rw [List.getElem?_append_right hi] at e
    rcases Nat.eq_zero_or_pos (i-F.length) with hz | hz
    ·rw [hz] at e;simp at e;subst e;exact .inr ⟨by omega,rfl⟩
    ·rw [Bv (by simp;omega)] at e;cases e
  rcases key i x ei with ⟨a1,a2,a3⟩ | ⟨a1,a2⟩ <;> rcases key j y ej with ⟨b1,b2,b3⟩ | ⟨b1,b2⟩
  ·exact h.dis i j x y a2 b2 e
  ·omega
  ·omega
  ·omega
theorem Dr.set (h:Dr w0 w g v l k F)(i:Nat){t:Ax}(hi:F[i]? = Ac (b,C,t))(j:Nat)(o:j<C.size)(y:Af)(r:isU8 y=false:=by rfl) :
  Dr w0 (w.setCell ⟨b,j,Ab⟩ y) g v l k (F.set i (b,C.setIfInBounds j y,t)):=by
 have c:=(List.getElem?_eq_some_iff.1 hi).1;refine ⟨Yn h.grown (h.ge i hi) _ _,h.src.setB (h.blk i hi) (h.ne i hi) j o (h.blks i _ hi).2.2 y,h.gl,h.bs0,λn x e=>?_,λn m x y' en em e=>?_⟩
 ·rw [List.getElem?_set] at e
  by_cases a:i=n
  ·subst a
   simp [c] at e;subst e;refine ⟨h.ge i hi,(h.blk i hi).set j y,λq m e=>?_⟩;rw [Array.getElem?_setIfInBounds] at e;split at e
   ·(try split at e)
    ·injection e with e;subst e;simp [isU8] at r
   ·exact (h.blks i _ hi).2.2 q m e
  ·rw [if_neg a] at e
   exact ⟨(h.blks n x e).1,((h.blks n x e).2.1).set_other _ (λe'=>a (h.dis i n _ _ hi e e'.symm)),(h.blks n x e).2.2⟩
 ·have key:∀(n:Nat) (x:Nat×Array Af×Ax),(F.set i (b,C.setIfInBounds j y,t))[n]? = Ac x->∃ z:Nat×Array Af×Ax,F[n]? = Ac z/\z.1=x.1:=λn x e=>by
   rw [List.getElem?_set] at e;by_cases a:i=n
   ·subst a
    simp [c] at e;subst e;exact ⟨_,hi,rfl⟩
   ·rw [if_neg a] at e
    exact ⟨_,e,rfl⟩
  obtain ⟨z1,p,d⟩:=key n x en;obtain ⟨s,b1,f⟩:=key m y' em;exact h.dis n m z1 s p b1 (by rw [d,f,e])
theorem Dr.row (h:Dr w0 w g v l k F)(i:Nat){t:Ax}(hi:F[i]? = Ac (b,C,t))(a:Array Af)(f:NoU8 a) :
  Dr w0 (w.setRow b a) g v l k (F.set i (b,a,t)):=by
 have d:=(List.getElem?_eq_some_iff.1 hi).1;refine ⟨Xi h.grown (h.blk i hi) (h.ge i hi) _,h.src.row (h.blk i hi) (h.ne i hi) (h.blks i _ hi).2.2 a,h.gl,h.bs0,λn x e=>?_,λn m x y' en em e=>?_⟩
 ·rw [List.getElem?_set] at e
  by_cases c:i=n
  ·subst c
   simp [d] at e;subst e;exact ⟨h.ge i hi,(h.blk i hi).row a,f⟩
  ·rw [if_neg c] at e
   exact ⟨(h.blks n x e).1,((h.blks n x e).2.1).row_other _ (λe'=>c (h.dis i n _ _ hi e e'.symm)),(h.blks n x e).2.2⟩
 ·have key:∀(n:Nat) (x:Nat×Array Af×Ax),(F.set i (b,a,t))[n]? = Ac x->∃ z:Nat×Array Af×Ax,F[n]? = Ac z/\z.1=x.1:=λn x e=>by
   rw [List.getElem?_set] at e;by_cases c:i=n
   ·subst c
    simp [d] at e;subst e;exact ⟨_,hi,rfl⟩
   ·rw [if_neg c] at e
    exact ⟨_,e,rfl⟩
  obtain ⟨z1,p,j⟩:=key n x en;obtain ⟨q,b1,o⟩:=key m y' em;exact h.dis n m z1 q p b1 (by rw [j,o,e])
variable {B:Nat}
theorem Z84 (h:Src w g v l k)(h0:Bs w0 v l)(hw:w0.heap.size<=B)(n:g<B)(c:Ai B w w'):Src w' g v l k:=by
 obtain ⟨z,x,⟨t,s,a,cap,rfl,hc⟩,u,h5⟩:=h;obtain ⟨_,_,a',q,e,f⟩:=h0;injection e with e1 e2 e3;subst e1 e3;refine ⟨Bk z c.size,λi=>by rw [c.frozen (p:=⟨g,i,Ab⟩) n];exact x i,⟨t,s,a,cap,rfl,λi hi=>?_⟩,(c.cell (p:=⟨g,0,Ab⟩) n).trans u,(c.cell (p:=⟨g,1,Ab⟩) n).trans h5⟩;obtain ⟨b,d,rfl,y⟩:=hc i hi;obtain ⟨b',r,j,o⟩:=f i hi;injection j with j;injection j with e1' e2';subst e1' e2';exact ⟨b,d,rfl,λm hm=>(c.cell (p:=⟨b,d+m,Ab⟩) (Bk (Xp (o m hm)) hw)).trans (y m hm)⟩
theorem Dr.belowB (h:Dr w0 w g v l k F)(a:Ai B w w')(c:w0.heap.size<=B)(d:∀ x∈F,x.1<B):Dr w0 w' g v l k F:=
 ⟨⟨a.os.trans h.grown.os,a.tape.trans h.grown.tape,a.output.trans h.grown.output,Ap h.grown.size a.size,λq hq hne=>(a.block q (by omega)).trans (h.grown.block q hq hne)⟩,
  Z84 h.src h.bs0 c (Bk h.gl c) a,h.gl,h.bs0,λi x e=>⟨(h.blks i x e).1,((h.blks i x e).2.1).below a (d x (List.mem_of_getElem? e)),(h.blks i x e).2.2⟩,h.dis⟩
theorem Dr.grew (h:Dr w0 w g v l k F){u u':Af}(c:Ye w u w' u')(d:∀ q,u.ownBlock=Ac q->w0.heap.size<=q)(f:∀ x∈F,u.ownBlock≠Ac x.1):Dr w0 w' g v l k F:=by
 have a:=(An _ _).grown c.g h.size d
 refine ⟨⟨a.os.trans h.grown.os,a.tape.trans h.grown.tape,a.output.trans h.grown.output,Ap h.grown.size a.size,λq hq hne=>(a.block q hq).trans (h.grown.block q hq hne)⟩,
  Z84 h.src h.bs0 (Ao _) h.gl a,h.gl,h.bs0,λi x e=>⟨(h.blks i x e).1,((h.blks i x e).2.1).keep (c.block ((h.blks i x e).2.1).lt (f x (List.mem_of_getElem? e))),(h.blks i x e).2.2⟩,h.dis⟩
theorem ownsRow.neBlk {w:Ag}{a e size n:Nat}{v:Af}{i:List Af}{t:Ax}(h:w.ownsRow a e size v n i)(j:Blk w b C t)(d:e≠t):v.ownBlock≠Ac b:=λhv=>by
 rcases h.2 with ⟨e1,_⟩ | ⟨q,cap,cur,e1,_,hh,_⟩
 ·subst e1;cases hv
 ·subst e1
  injection hv with hv;have c:q=b:=hv;subst c;have f:=j;rw [f] at hh;injection hh with hh;injection hh with _ hh _;exact d hh.symm
theorem Dr.nilF (h:Dr w0 w g v l k F):Dr w0 w g v l k []:=⟨h.grown,h.src,h.gl,h.bs0,λi x e=>(by simp at e),λi j x y e=>(by simp at e)⟩
theorem Dr.one {x:Nat×Array Af×Ax}(h:Dr w0 w g v l k (x :: F)):Dr w0 w g v l k [x]:=
 ⟨h.grown,h.src,h.gl,h.bs0,λi y e=>(by cases i with | zero=>exact h.blks 0 y e | succ i=>simp at e),λi j a b ei ej e=>(by cases i with | succ i=>simp at ei | zero=>cases j with | succ j=>simp at ej | zero=>rfl)⟩
theorem Dr.pick (h:Dr w0 w g v l k F)(n:Nat)(hL:l.length<=1048576:=by assumption)(c:k<=900000000:=by omega)(a:0<n:=by omega)(d:n<=4294967296:=by omega) :
  Ar Ad 53 #[Ae (Ac ⟨g,0,Ab⟩),Aa O n] w λe w'=>e=Aj (Aa O (Z4 l k n:Nat))/\Dr w0 w' g v l (k+Zf n) F:=
 (Zk g w v l k n hL c a d h.src).mono λe w' ⟨h1,h2,h3⟩=>⟨h1,h.call h2 h3⟩
end
end Go.Proofs.YtmmpoppgabadmaaGreat
