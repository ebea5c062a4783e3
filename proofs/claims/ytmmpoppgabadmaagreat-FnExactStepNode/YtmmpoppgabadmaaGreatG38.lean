import Derived.Test.YtmmpoppgabadmaaGreatG36
import Derived.Test.YtmmpoppgabadmaaGreatG37
import Derived.Test.YtmmpoppgabadmaaGreatG12
import Derived.Test.YtmmpoppgabadmaaGreatG10
set_option linter.unusedVariables false
set_option linter.unusedSimpArgs false
set_option maxRecDepth 100000
set_option maxHeartbeats 16000000
namespace Go.Proofs.YtmmpoppgabadmaaGreat
open Go.RowKit Go.Maps
def Z01 (p:Int->Bool)(lf:Int->Bool)(id:Int):Nat->Nat
 | 0=>0
 | k+1=>Z01 p lf id k+if (k:Int)+1≠id/\p ((k:Int)+1)=true/\lf ((k:Int)+1)=false then 1 else 0
theorem cntL_le (p lf:Int->Bool)(id:Int):∀ k,Z01 p lf id k<=k
 | 0=>Nat.le_refl _
 | k+1=>by
  have:=cntL_le p lf id k;rw [Z01];split <;> omega
theorem Z4d (p lf:Int->Bool)(id:Int):∀ k:Nat,(∀ y:Int,1<=y->y<=k->y≠id->lf y=true)->Z01 p lf id k=0
 | 0,_=>rfl
 | k+1,h=>by
  rw [Z01,Z4d p lf id k (fun y h1 h2 h3=>h y h1 (by omega) h3),if_neg];rintro ⟨h1,-,h3⟩;rw [h _ (by omega) (by omega) h1] at h3;cases h3
theorem Z59 (p lf:Int->Bool)(id y:Int):∀ k:Nat,(k:Int)<y->Z01 p (fun z=>lf z && !(z == y)) id k=Z01 p lf id k
 | 0,_=>rfl
 | k+1,h=>by
  rw [Z01,Z01,Z59 p lf id y k (by omega)];have:(((k:Int)+1) == y)=false:=by rw [beq_eq_false_iff_ne];omega
  simp only [this,Bool.not_false,Bool.and_true]
theorem Z4e (p lf:Int->Bool)(id y:Int)(h1:1<=y)(hid:y≠id)(hl:lf y=true):∀ k:Nat,y<=k->Z01 p (fun z=>lf z && !(z == y)) id k=Z01 p lf id k+if p y=true then 1 else 0
 | 0,h=>by omega
 | k+1,h=>by
  rw [Z01,Z01];by_cases e:(k:Int)+1=y
  ·rw [Z59 p lf id y k (by omega)]
   rw [e];simp [hl,hid]
  ·rw [Z4e p lf id y h1 hid hl k (by omega)]
   have:(((k:Int)+1) == y)=false:=by rw [beq_eq_false_iff_ne];exact e
   simp only [this,Bool.not_false,Bool.and_true];omega
theorem Z50 (b:Nat)(r:Rn)(x:CV)(eb:Nat)(p:Int->Bool)(w:World)(B:Nat)(h:Z0 w B b r x)(hro:r.n.ro=3)
  (HP:∀ z y q,Below w.heap.size w z->x.f y=some q->Calls Tryz.prog 153 #[.pointer (some ⟨q,0,none⟩),.pointer (some ⟨eb,0,none⟩)] z fun e w'=>e=.returned (.bool (p y))/\Below z.heap.size z w') :
  Calls Tryz.prog 154 #[.pointer (some ⟨b,0,none⟩),.func (.func 153) #[] #[.pointer (some ⟨eb,0,none⟩)]] w fun e w'=>e=.returned (.bool (Xe (1+(Z01 p (fun _=>false) r.n.id r.n.sz.toNat:Int)) r.n.sz))/\Below w.heap.size w w':=by
 have z0:=h.ci.sz0;have z1:=h.ci.sz1;obtain ⟨N,hN⟩:∃ N:Nat,r.n.sz=(N:Int):=⟨r.n.sz.toNat,by omega⟩;have hN2:r.n.sz.toNat=N:=by omega
 have HPk:Hid (∀ y q,x.f y=some q->1<=y/\y<=N/\y≠r.n.id):=fun y q e=>by have:=(h.pk y).1 (by rw [e];rfl);omega
 have HPs:Hid (∀ y:Int,1<=y->y<=N->y≠r.n.id->(x.f y).isSome=true):=fun y h1 h2 h3=>(h.pk y).2 ⟨hro,h1,by omega,h3⟩
 have HPM:Hid (IM ptV w x.pm x.f):=h.pm;have c19:w.cell? ⟨b,19,none⟩=some (.map (some x.pm)):=h.blk.cell 19;have hlt:=h.lt;have HR:Hid _:=h;have HPp:Hid (∀ z y q,Below w.heap.size w z->x.f y=some q->Calls Tryz.prog 153 #[.pointer (some ⟨q,0,none⟩),.pointer (some ⟨eb,0,none⟩)] z fun e w'=>e=.returned (.bool (p y))/\Below z.heap.size z w'):=HP;have HPl:Hid (∀ z,Below w.heap.size w z->z.cell? ⟨b,1,none⟩=some (.int .i64 (N:Int))):=fun z hz=>by rw [<-hN];exact (h.below hz).blk.cell 1
 have hpm:=h.pm.lt;rw [hN2];have HM:Hid (∀ k:Nat,majB (1+(k:Int)) (N:Int)=Xe (1+(k:Int)) r.n.sz):=fun k=>by have h9:=majB_P (k+1) (N:Int);push_cast at h9;rw [hN,show (1+(k:Int))=(k:Int)+1 by omega];exact h9
 have hn3:3<=N:=by omega
 have hn7:N<=7:=by omega
 obtain ⟨MQ,hMQ⟩:∃ MQ,MQ=Xe (1+(Z01 p (fun _=>false) r.n.id N:Int)) r.n.sz:=⟨_,rfl⟩;rw [<-hMQ];have HMQ:Hid _:=hMQ;clear h HP hN hN2 hMQ;go_enter Tryz.func154,Tryz.ntmps154
 go_wp2_with (first
  |(at_range;refine Z26 _ rfl _ 78 rfl 126 Tryz.underlying78 x.pm rfl HPM.out ?_;intro w1 cnt1 hr1 hg1 hs1;have HR1:Hid (IR ptV w1 x.pm w.heap.size x.f (fun y=>(x.f y).isSome) cnt1):=hr1;have HB1:Hid (Below w.heap.size w w1):=⟨hg1.os,hg1.tape,hg1.output,hg1.size,fun k hk=>hg1.block k hk (by simp)⟩;clear hr1 hg1 hs1))
 go_frame
 go_loopw [5,7] (fun cv sv wr=>∃(lf:Int->Bool) (cnt:Nat),cv=.int .i64 (1+(Z01 p lf r.n.id N:Int))/\IR ptV wr x.pm w.heap.size x.f lf cnt/\Below w.heap.size w wr/\(∀ y,lf y=true->∃ q,x.f y=some q)) (fun _ _ wr=>wr.rangeLeft x.pm w.heap.size)
 case atStart=>exact ⟨_,_,by rw [Z4d p _ r.n.id N (fun y h1 h2 h3=>HPs.out y h1 h2 h3)];rfl,HR1.out,HB1.out,fun y hy=>Option.isSome_iff_exists.1 hy⟩
 case round=>
  obtain ⟨lf,cnt,rfl,hIR,hB,hlf⟩:=hrel;have HIR:Hid (IR ptV wr x.pm w.heap.size x.f lf cnt):=hIR;have HB:Hid _:=hB;have hcl:=cntL_le p lf r.n.id N;have HLf:Hid (∀ y,lf y=true->∃ q,x.f y=some q):=hlf;clear hIR hB hlf;obtain ⟨C,hC⟩:∃ C:Nat,C=Z01 p lf r.n.id N:=⟨_,rfl⟩;rw [<-hC] at hcl ⊢;have HC:Hid _:=hC;clear hC;have HIRo:Hid (wr.rangeLeft x.pm w.heap.size=cnt):=HIR.out.left_eq;rcases HIR.out.next 0 with ⟨h0,hl,hrun⟩ | ⟨y,q,w2,cnt2,hly,hfy,hIR2,hlt2,hg2,hs2,hrun,hen2⟩
  ·have HCf:Hid (C=Z01 p (fun _=>false) r.n.id N):=by
    unfold Hid;rw [HC.out];congr 1
    funext y
    exact hl y
   have d1:=HPl.out wr HB.out;have HMj:Hid (∀ z,Calls Tryz.prog 112 #[.int .i64 (1+(C:Int)),.int .i64 (N:Int)] z fun e w'=>e=.returned (.bool MQ)/\w'=z):=fun z=>by rw [HMQ.out,<-HCf.out,<-HM.out C];exact J4 _ _ (by omega) (by omega) z
   clear hl h0
   go_wp2_with (first
    |(go_at_call 112;refine Calls.mono (HMj.out _) ?_;rintro e w5 ⟨rfl,hw⟩;obtain rfl:=hw.symm;clear hw))
   go_ret;exact ⟨rfl,HB.out⟩
  ·have HI2:Hid (IR ptV w2 x.pm w.heap.size x.f (fun z=>lf z && !(z == y)) cnt2):=hIR2
   have HB2:Hid (Below w.heap.size w w2):=HB.out.grown hg2 HB.out.size (fun k e=>by injection e with e;omega);have hy:=HPk.out y q hfy;have HSt:Hid (Z01 p (fun z=>lf z && !(z == y)) r.n.id N=C+if p y=true then 1 else 0):=by unfold Hid;rw [HC.out];exact Z4e p lf r.n.id y hy.1 hy.2.2 hly N hy.2.1
   have HCt:Hid (cnt2<cnt):=hlt2;have HCl:Hid (∀ z,Below w.heap.size w z->Calls Tryz.prog 153 #[.pointer (some ⟨q,0,none⟩),.pointer (some ⟨eb,0,none⟩)] z fun e w'=>e=.returned (.bool (p y))/\Below z.heap.size z w'):=fun z hz=>HPp.out z y q hz hfy
   have HLf2:Hid (∀ z,(lf z && !(z == y))=true->∃ q,x.f z=some q):=fun z hz=>HLf.out z (by rw [Bool.and_eq_true] at hz;exact hz.1)
   unfold ptV at hrun hen2;clear hIR2 hlt2 hg2 hs2 hly hfy hy;generalize p y=py at *;cases py
   ·go_wp2_with (first
     |(go_at_call 153;refine Calls.mono (HCl.out _ HB2.out) ?_;rintro e w3 ⟨rfl,hb3⟩;have HB3:Hid (Below w.heap.size w w3):=HB2.out.trans (hb3.mono HB2.out.size);have HI3:Hid (IR ptV w3 x.pm w.heap.size x.f (fun z=>lf z && !(z == y)) cnt2):=HI2.out.keep (hb3.block _ HI2.out.im.lt) (hb3.block _ HI2.out.lt);clear hb3))
    go_roundw
    case rel=>exact ⟨_,cnt2,by rw [HSt.out];simp,HI3.out,HB3.out,HLf2.out⟩
    case measure=>rw [HI3.out.left_eq,HIRo.out];exact HCt.out
   ·have hwr:IntKind.i64.wrap (1+(C:Int)+1)=1+(C:Int)+1:=by rw [IntKind.wrap_i64];omega
    go_wp2_with (first
     |(go_at_call 153;refine Calls.mono (HCl.out _ HB2.out) ?_;rintro e w3 ⟨rfl,hb3⟩;have HB3:Hid (Below w.heap.size w w3):=HB2.out.trans (hb3.mono HB2.out.size);have HI3:Hid (IR ptV w3 x.pm w.heap.size x.f (fun z=>lf z && !(z == y)) cnt2):=HI2.out.keep (hb3.block _ HI2.out.im.lt) (hb3.block _ HI2.out.lt);clear hb3))
    go_roundw
    case rel=>exact ⟨_,cnt2,by rw [HSt.out];simp;omega,HI3.out,HB3.out,HLf2.out⟩
    case measure=>rw [HI3.out.left_eq,HIRo.out];exact HCt.out
theorem Z4w (b:Nat)(r:Rn)(x:CV)(eb:Nat)(p:Int->Bool)(w:World)(B:Nat)(h:Z0 w B b r x)(hro:r.n.ro=3)
  (HP:∀ z y q,Below w.heap.size w z->x.f y=some q->Calls Tryz.prog 183 #[.pointer (some ⟨q,0,none⟩),.pointer (some ⟨eb,0,none⟩)] z fun e w'=>e=.returned (.bool (p y))/\Below z.heap.size z w') :
  Calls Tryz.prog 154 #[.pointer (some ⟨b,0,none⟩),.func (.func 183) #[] #[.pointer (some ⟨eb,0,none⟩)]] w fun e w'=>e=.returned (.bool (Xe (1+(Z01 p (fun _=>false) r.n.id r.n.sz.toNat:Int)) r.n.sz))/\Below w.heap.size w w':=by
 have z0:=h.ci.sz0;have z1:=h.ci.sz1;obtain ⟨N,hN⟩:∃ N:Nat,r.n.sz=(N:Int):=⟨r.n.sz.toNat,by omega⟩;have hN2:r.n.sz.toNat=N:=by omega
 have HPk:Hid (∀ y q,x.f y=some q->1<=y/\y<=N/\y≠r.n.id):=fun y q e=>by have:=(h.pk y).1 (by rw [e];rfl);omega
 have HPs:Hid (∀ y:Int,1<=y->y<=N->y≠r.n.id->(x.f y).isSome=true):=fun y h1 h2 h3=>(h.pk y).2 ⟨hro,h1,by omega,h3⟩
 have HPM:Hid (IM ptV w x.pm x.f):=h.pm;have c19:w.cell? ⟨b,19,none⟩=some (.map (some x.pm)):=h.blk.cell 19;have hlt:=h.lt;have HR:Hid _:=h;have HPp:Hid (∀ z y q,Below w.heap.size w z->x.f y=some q->Calls Tryz.prog 183 #[.pointer (some ⟨q,0,none⟩),.pointer (some ⟨eb,0,none⟩)] z fun e w'=>e=.returned (.bool (p y))/\Below z.heap.size z w'):=HP;have HPl:Hid (∀ z,Below w.heap.size w z->z.cell? ⟨b,1,none⟩=some (.int .i64 (N:Int))):=fun z hz=>by rw [<-hN];exact (h.below hz).blk.cell 1
 have hpm:=h.pm.lt;rw [hN2];have HM:Hid (∀ k:Nat,majB (1+(k:Int)) (N:Int)=Xe (1+(k:Int)) r.n.sz):=fun k=>by have h9:=majB_P (k+1) (N:Int);push_cast at h9;rw [hN,show (1+(k:Int))=(k:Int)+1 by omega];exact h9
 have hn3:3<=N:=by omega
 have hn7:N<=7:=by omega
 obtain ⟨MQ,hMQ⟩:∃ MQ,MQ=Xe (1+(Z01 p (fun _=>false) r.n.id N:Int)) r.n.sz:=⟨_,rfl⟩;rw [<-hMQ];have HMQ:Hid _:=hMQ;clear h HP hN hN2 hMQ;go_enter Tryz.func154,Tryz.ntmps154
 go_wp2_with (first
  |(at_range;refine Z26 _ rfl _ 78 rfl 126 Tryz.underlying78 x.pm rfl HPM.out ?_;intro w1 cnt1 hr1 hg1 hs1;have HR1:Hid (IR ptV w1 x.pm w.heap.size x.f (fun y=>(x.f y).isSome) cnt1):=hr1;have HB1:Hid (Below w.heap.size w w1):=⟨hg1.os,hg1.tape,hg1.output,hg1.size,fun k hk=>hg1.block k hk (by simp)⟩;clear hr1 hg1 hs1))
 go_frame
 go_loopw [5,7] (fun cv sv wr=>∃(lf:Int->Bool) (cnt:Nat),cv=.int .i64 (1+(Z01 p lf r.n.id N:Int))/\IR ptV wr x.pm w.heap.size x.f lf cnt/\Below w.heap.size w wr/\(∀ y,lf y=true->∃ q,x.f y=some q)) (fun _ _ wr=>wr.rangeLeft x.pm w.heap.size)
 case atStart=>exact ⟨_,_,by rw [Z4d p _ r.n.id N (fun y h1 h2 h3=>HPs.out y h1 h2 h3)];rfl,HR1.out,HB1.out,fun y hy=>Option.isSome_iff_exists.1 hy⟩
 case round=>
  obtain ⟨lf,cnt,rfl,hIR,hB,hlf⟩:=hrel;have HIR:Hid (IR ptV wr x.pm w.heap.size x.f lf cnt):=hIR;have HB:Hid _:=hB;have hcl:=cntL_le p lf r.n.id N;have HLf:Hid (∀ y,lf y=true->∃ q,x.f y=some q):=hlf;clear hIR hB hlf;obtain ⟨C,hC⟩:∃ C:Nat,C=Z01 p lf r.n.id N:=⟨_,rfl⟩;rw [<-hC] at hcl ⊢;have HC:Hid _:=hC;clear hC;have HIRo:Hid (wr.rangeLeft x.pm w.heap.size=cnt):=HIR.out.left_eq;rcases HIR.out.next 0 with ⟨h0,hl,hrun⟩ | ⟨y,q,w2,cnt2,hly,hfy,hIR2,hlt2,hg2,hs2,hrun,hen2⟩
  ·have HCf:Hid (C=Z01 p (fun _=>false) r.n.id N):=by
    unfold Hid;rw [HC.out];congr 1
    funext y
    exact hl y
   have d1:=HPl.out wr HB.out;have HMj:Hid (∀ z,Calls Tryz.prog 112 #[.int .i64 (1+(C:Int)),.int .i64 (N:Int)] z fun e w'=>e=.returned (.bool MQ)/\w'=z):=fun z=>by rw [HMQ.out,<-HCf.out,<-HM.out C];exact J4 _ _ (by omega) (by omega) z
   clear hl h0
   go_wp2_with (first
    |(go_at_call 112;refine Calls.mono (HMj.out _) ?_;rintro e w5 ⟨rfl,hw⟩;obtain rfl:=hw.symm;clear hw))
   go_ret;exact ⟨rfl,HB.out⟩
  ·have HI2:Hid (IR ptV w2 x.pm w.heap.size x.f (fun z=>lf z && !(z == y)) cnt2):=hIR2
   have HB2:Hid (Below w.heap.size w w2):=HB.out.grown hg2 HB.out.size (fun k e=>by injection e with e;omega);have hy:=HPk.out y q hfy;have HSt:Hid (Z01 p (fun z=>lf z && !(z == y)) r.n.id N=C+if p y=true then 1 else 0):=by unfold Hid;rw [HC.out];exact Z4e p lf r.n.id y hy.1 hy.2.2 hly N hy.2.1
   have HCt:Hid (cnt2<cnt):=hlt2;have HCl:Hid (∀ z,Below w.heap.size w z->Calls Tryz.prog 183 #[.pointer (some ⟨q,0,none⟩),.pointer (some ⟨eb,0,none⟩)] z fun e w'=>e=.returned (.bool (p y))/\Below z.heap.size z w'):=fun z hz=>HPp.out z y q hz hfy
   have HLf2:Hid (∀ z,(lf z && !(z == y))=true->∃ q,x.f z=some q):=fun z hz=>HLf.out z (by rw [Bool.and_eq_true] at hz;exact hz.1)
   unfold ptV at hrun hen2;clear hIR2 hlt2 hg2 hs2 hly hfy hy;generalize p y=py at *;cases py
   ·go_wp2_with (first
     |(go_at_call 183;refine Calls.mono (HCl.out _ HB2.out) ?_;rintro e w3 ⟨rfl,hb3⟩;have HB3:Hid (Below w.heap.size w w3):=HB2.out.trans (hb3.mono HB2.out.size);have HI3:Hid (IR ptV w3 x.pm w.heap.size x.f (fun z=>lf z && !(z == y)) cnt2):=HI2.out.keep (hb3.block _ HI2.out.im.lt) (hb3.block _ HI2.out.lt);clear hb3))
    go_roundw
    case rel=>exact ⟨_,cnt2,by rw [HSt.out];simp,HI3.out,HB3.out,HLf2.out⟩
    case measure=>rw [HI3.out.left_eq,HIRo.out];exact HCt.out
   ·have hwr:IntKind.i64.wrap (1+(C:Int)+1)=1+(C:Int)+1:=by rw [IntKind.wrap_i64];omega
    go_wp2_with (first
     |(go_at_call 183;refine Calls.mono (HCl.out _ HB2.out) ?_;rintro e w3 ⟨rfl,hb3⟩;have HB3:Hid (Below w.heap.size w w3):=HB2.out.trans (hb3.mono HB2.out.size);have HI3:Hid (IR ptV w3 x.pm w.heap.size x.f (fun z=>lf z && !(z == y)) cnt2):=HI2.out.keep (hb3.block _ HI2.out.im.lt) (hb3.block _ HI2.out.lt);clear hb3))
    go_roundw
    case rel=>exact ⟨_,cnt2,by rw [HSt.out];simp;omega,HI3.out,HB3.out,HLf2.out⟩
    case measure=>rw [HI3.out.left_eq,HIRo.out];exact HCt.out
end Go.Proofs.YtmmpoppgabadmaaGreat
namespace Go.Proofs.YtmmpoppgabadmaaGreat
open Go.RowKit Go.Maps
def Z47 (n:Nd)(y:Int):Bool:=decide (n.nw-n.se.getD (y-1).toNat 0<n.el)
theorem heard_cnt (n:Nd):∀ k,Z01 (Z47 n) (fun _=>false) n.id k=Y6 n k
 | 0=>rfl
 | k+1=>by
  rw [Z01,Y6,heard_cnt n k];congr 1;unfold Z47;rw [show ((k:Int)+1-1).toNat=k by omega];by_cases h1:(k:Int)+1=n.id <;> by_cases h2:n.nw-n.se.getD k 0<n.el <;> simp [h1,h2]
theorem heard1_any (b:Nat)(r:Rn)(x:CV)(eb:Nat)(w:World)(B:Nat)(h:Z0 w B b r x)(he:Blk w eb #[.pointer (some ⟨b,0,none⟩)] 74)(y:Int)(q:Nat)(hq:x.f y=some q)(hn0:0<=r.n.nw)(hn1:r.n.nw<=1099511627776)(hs0:0<=r.n.se.getD (y-1).toNat 0)(hs1:r.n.se.getD (y-1).toNat 0<=r.n.nw) :
  Calls Tryz.prog 153 #[.pointer (some ⟨q,0,none⟩),.pointer (some ⟨eb,0,none⟩)] w fun e w'=>e=.returned (.bool (Z47 r.n y))/\Below w.heap.size w w':=by
 have c9:w.cell? ⟨b,9,none⟩=some (.int .i64 r.n.nw):=h.blk.cell 9;have c2:w.cell? ⟨b,2,none⟩=some (.int .i64 r.n.el):=h.blk.cell 2;have ce:w.cell? ⟨eb,0,none⟩=some (.pointer (some ⟨b,0,none⟩)):=he.cell 0;have cq:w.cell? ⟨q,2,none⟩=some (.int .i64 (r.n.se.getD (y-1).toNat 0)):=(h.pf y q hq).1.cell 2;have HQ:Hid (Z47 r.n y=decide (r.n.nw-r.n.se.getD (y-1).toNat 0<r.n.el)):=rfl;clear h he hq;generalize Z47 r.n y=hp at *;generalize r.n.se.getD (y-1).toNat 0=S at *;have hw:IntKind.i64.wrap (r.n.nw-S)=r.n.nw-S:=by rw [IntKind.wrap_i64];omega
 rw [HQ.out];clear HQ;go_enter Tryz.func153,Tryz.ntmps153;go_wp2;go_quiet (fail)
 go_wp2;go_ret;exact ⟨rfl,Zo _ _ _⟩
def Rn.tickL (r:Rn):Rn:=if Xe (1+(Y6 r.n r.n.sz.toNat:Int)) r.n.sz=true then r.beatK r.n.sz.toNat else r.lone.timer
def Rn.beat1 (r:Rn)(k:Nat)(a:Rn):Rn:=if r.n.bt<=r.n.nw-a.n.st.getD k 0 then a.sendE k else a
theorem Z5c (r:Rn)(k:Nat):Rn.beatK (k+1) r=if (k:Int)+1=r.n.id then Rn.beatK k r else r.beat1 k (Rn.beatK k r):=by
 rw [Rn.beatK];unfold Rn.beat1;by_cases h1:(k:Int)+1=r.n.id
 ·rw [if_pos h1,if_neg (fun h=>h.1 h1)]
 ·rw [if_neg h1]
  by_cases h2:r.n.bt<=r.n.nw-(Rn.beatK k r).n.st.getD k 0
  ·rw [if_pos ⟨h1,h2⟩,if_pos h2]
  ·rw [if_neg (fun h=>h2 h.2),if_neg h2]
theorem Z5b (b:Nat)(r:Rn)(x:CV)(w:World)(B:Nat)(h:Z0 w B b r x)(hro:r.n.ro=3)(hd : -(2^63)<=r.draw)(hD:r.draw<2^63)(hn0:0<=r.n.nw)(hn1:r.n.nw<=1099511627776)(hLt:LdT r.n r.n.sz.toNat)(hll:r.n.log.length<=4096)(hl:x.L.length<=900) :
  Calls Tryz.prog 127 #[.pointer (some ⟨b,0,none⟩)] w fun e w'=>e=.returned (.tuple #[])/\∃ x',Z0 w' B b r.tickL x'/\Tch b w x w' x':=by
 have HR:Hid _:=h;obtain ⟨W,hW⟩:∃ W,W=w.alloc (.cells #[.pointer (some ⟨b,0,none⟩)] 74):=⟨_,rfl⟩;have HB:Hid (Below w.heap.size w W):=by unfold Hid;rw [hW];exact Below.alloc0 _
 have HE:Hid (Blk W w.heap.size #[.pointer (some ⟨b,0,none⟩)] 74):=by unfold Hid;rw [hW];exact Blk.new _ _ _
 have HCW:Hid (Z0 W B b r x):=h.below HB.out;have i0:=h.ci.id0;have i1:=h.ci.id1;have z0:=h.ci.sz0;have z1:=h.ci.sz1
 have HSu:Hid (Calls Tryz.prog 154 #[.pointer (some ⟨b,0,none⟩),.func (.func 153) #[] #[.pointer (some ⟨w.heap.size,0,none⟩)]] W fun e w'=>e=.returned (.bool (Xe (1+(Y6 r.n r.n.sz.toNat:Int)) r.n.sz))/\Below W.heap.size W w'):=by
  unfold Hid;rw [<-heard_cnt];refine Z50 b r x w.heap.size (Z47 r.n) W B HCW.out hro fun z y q hz hq=>?_
  have hp:=(HCW.out.pk y).1 (by rw [hq];rfl)
  have hse:r.n.se.getD (y-1).toNat 0∈r.n.se:=by
   rw [List.getD_eq_getElem?_getD,List.getElem?_eq_getElem (by rw [hLt.sel];omega)];exact List.getElem_mem _
  have:=hLt.se _ hse;exact heard1_any b r x w.heap.size z B (HCW.out.below hz) (HE.out.below hz HE.out.lt) y q hq hn0 hn1 this.1 this.2
 have c1:∀ z,Below W.heap.size W z->z.cell? ⟨w.heap.size,0,none⟩=some (.pointer (some ⟨b,0,none⟩)):=fun z hz=>(HE.out.below hz HE.out.lt).cell 0
 have HC1:Hid (∀ z,Below W.heap.size W z->z.cell? ⟨w.heap.size,0,none⟩=some (.pointer (some ⟨b,0,none⟩))):=c1;have cW:=c1 W (Below.refl _ _);have hE1:∀ z x',Tch b W x z x'->z.cell? ⟨w.heap.size,0,none⟩=some (.pointer (some ⟨b,0,none⟩)):=fun z x' ht=>(ht.blk HE.out (HCW.out.hasnt HE.out (by decide) (by decide) (by decide) (by decide))).cell 0
 have HE1:Hid (∀ z x',Tch b W x z x'->z.cell? ⟨w.heap.size,0,none⟩=some (.pointer (some ⟨b,0,none⟩))):=hE1;cases hm:Xe (1+(Y6 r.n r.n.sz.toNat:Int)) r.n.sz
 ·have HQ:Hid (r.tickL=r.lone.timer):=by unfold Hid Rn.tickL;rw [hm];rfl
  rw [HQ.out];rw [hm] at HSu;have HFo:Hid (∀ z,Below W.heap.size W z->Calls Tryz.prog 155 #[.pointer (some ⟨b,0,none⟩),.int .i64 0] z fun e w'=>e=.returned (.tuple #[])/\Z0 w' B b r.lone x.lone/\Tch b z x w' x.lone):=fun z hz=>Z0v b r x 0 z B (HCW.out.below hz)
  have HTm:Hid (∀ z,Z0 z B b r.lone x.lone->Calls Tryz.prog 156 #[.pointer (some ⟨b,0,none⟩)] z fun e w'=>e=.returned (.tuple #[])/\Z0 w' B b r.lone.timer x.lone/\Tch b z x.lone w' x.lone):=fun z hz=>Jg b r.lone x.lone z B hz hd hD hn0 hn1
  clear h c1 hE1 hm HQ hLt;generalize r.lone.timer=RT at *;generalize r.lone=RL at *;go_enter Tryz.func127,Tryz.ntmps127
  go_upto_region 1 with fail
  rw [<-hW];clear hW
  go_wp2_with (first
   |(go_at_call 154;refine Calls.mono HSu.out ?_;rintro e w1 ⟨rfl,hb1⟩;have HB1:Hid _:=hb1;have c2:=HC1.out w1 hb1;clear hb1)
   |(go_at_call 155;refine Calls.mono (HFo.out _ HB1.out) ?_;rintro e w2 ⟨rfl,h2,t2⟩;have H2:Hid _:=h2;have T2:Hid (Tch b W x w2 x.lone):=Tch.head HB1.out t2;have c3:=HE1.out w2 _ T2.out;clear h2 t2)
   |(go_at_call 156;refine Calls.mono (HTm.out _ H2.out) ?_;rintro e w3 ⟨rfl,h3,t3⟩;have H3:Hid _:=h3;have T3:Hid (Tch b W x w3 x.lone):=T2.out.trans t3;clear h3 t3))
  (try simp only [Exit.inBlock,Exit.then])
  first
   | exact bodyPost_end (results_none rfl _ _ _) rfl ⟨rfl,_,H3.out,Tch.head HB.out T3.out⟩
   | exact bodyPost_ret (results_none rfl _ _ _) rfl ⟨rfl,_,H3.out,Tch.head HB.out T3.out⟩
 ·have HQ:Hid (r.tickL=r.beatK r.n.sz.toNat):=by unfold Hid Rn.tickL;rw [hm];rfl
  rw [HQ.out];rw [hm] at HSu;obtain ⟨N,hN⟩:∃ N:Nat,r.n.sz=(N:Int):=⟨r.n.sz.toNat,by omega⟩;have hN2:r.n.sz.toNat=N:=by omega
  have hfull:=Z1e r.n.id r.n.sz i0 i1;have hkf:=kI_full r.n.id r.n.sz i0 i1;have hkl:=fun i=>kI_lt r.n.id r.n.sz i i0 i1
  rw [hN2] at hfull hkf hkl hLt ⊢;have HG:Hid (∀ i (hi:i<(oth r.n.id N).length),(oth r.n.id N)[i]=(kI r.n.id i:Int)+1):=Z1x r.n.id i0 N;have HKf:Hid (kI r.n.id (N-1)=N):=hkf;have HFl:Hid ((oth r.n.id N).length=N-1):=hfull;have HKl:Hid (∀ i,i<N-1->(kI r.n.id i:Int)+1<=r.n.sz/\(kI r.n.id i:Int)+1≠r.n.id):=hkl;have HF:Hid (∀ i,Rn.beatK (kI r.n.id (i+1)) r=r.beat1 (kI r.n.id i) (Rn.beatK (kI r.n.id i) r)):=oth_fold r.n.id (fun k=>Rn.beatK k r) (fun k a=>r.beat1 k a) (Z5c r);have HZ:Hid (Rn.beatK (kI r.n.id 0) r=r):=oth_zero r.n.id i0 (fun k=>Rn.beatK k r) (fun k a=>r.beat1 k a) (Z5c r);have HSn:Hid (∀ k,∃ s,(Rn.beatK k r).n={ r.n with st:=s }/\s.length=r.n.st.length/\∀ y∈s,0<=y/\y<=r.n.nw):=beatK_n r hn0 hLt.st;have HLd:Hid (LdB r.n N):=hLt.ldb;have HN:Hid (r.n.sz=(N:Int)):=hN;have hn3:3<=N:=by omega
  have hn7:N<=7:=by omega
  have HOt:Hid (∀ z,Below W.heap.size W z->Calls Tryz.prog 81 #[.pointer (some ⟨b,0,none⟩)] z fun e w'=>∃ a c,e=.returned (.slice a (N-1) c)/\Z6 inC 1 3 w' z.heap.size (.slice a (N-1) c) (oth r.n.id N)/\Below z.heap.size z w'):=fun z hz=>by
   have h9:=Z2t b r x z B (HCW.out.below hz);rw [hN2] at h9;exact h9
  clear h c1 hE1 hm HQ hLt hfull hkf hkl hN hN2 i0 i1 z0 z1;go_enter Tryz.func127,Tryz.ntmps127
  go_upto_region 1 with fail
  rw [<-hW];clear hW
  go_wp2_with (first
   |(go_at_call 154;refine Calls.mono HSu.out ?_;rintro e w1 ⟨rfl,hb1⟩;have HB1:Hid _:=hb1;have c2:=HC1.out w1 hb1;clear hb1)
   |(go_at_call 81;refine Calls.mono (HOt.out _ HB1.out) ?_;rintro e w2 ⟨oa,oc,rfl,ho2,hb2⟩;have HO2:Hid (Z6 inC 1 3 w2 w1.heap.size (.slice oa (N-1) oc) (oth r.n.id N)):=ho2;have HB2:Hid (Below W.heap.size W w2):=HB1.out.trans (hb2.mono HB1.out.size);clear ho2 hb2))
  go_loopw [4,17] (fun sj iv wr=>∃(i:Nat) (xi:CV),i<=N-1/\iv=.int .i64 (i:Int)/\xi.L.length<=x.L.length+i/\Z0 wr B b (Rn.beatK (kI r.n.id i) r) xi/\Tch b W x wr xi/\Z6 inC 1 3 wr w1.heap.size (.slice oa (N-1) oc) (oth r.n.id N)) (fun _ iv _=>N-(RowKit.intOf iv).toNat)
  case atStart=>exact ⟨0,x,by omega,rfl,by omega,by rw [HZ.out];exact HCW.out.below HB2.out,Tch.below0 _ _ HB2.out,HO2.out⟩
  case round=>
   obtain ⟨i,xi,hi,rfl,hxl,hC,hT,hO⟩:=hrel;obtain ⟨wq,hwq⟩:∃ z,z=wr:=⟨_,rfl⟩;rw [<-hwq] at hC hT hO;subst hwq;have HC:Hid _:=hC;have HT:Hid _:=hT;have HO:Hid (Z6 inC 1 3 wq w1.heap.size (.slice oa (N-1) oc) (oth r.n.id N)):=hO;by_cases hlt:i<N-1
   ·obtain ⟨g,off,rfl,hc⟩:=in_at HO.out (by rw [HFl.out];omega) i (by rw [HFl.out];omega)
    rw [HG.out] at hc;have h1d:decide ((i:Int)<((N-1:Nat):Int))=true:=decide_eq_true (by omega);have h1:(i:Int)<((N-1:Nat):Int):=by omega
    obtain ⟨hk1,hk2⟩:=HKl.out i hlt;obtain ⟨s,hs1,hs2,hs3⟩:=HSn.out (kI r.n.id i);obtain ⟨P,hP1,hP2⟩:=HLd.out.nx (kI r.n.id i) (by rw [HLd.out.nxl];have:=HN.out;omega) hk2;have hPd:r.n.nx.getD (kI r.n.id i) 0=(P:Int)+1:=by rw [List.getD_eq_getElem?_getD,List.getElem?_eq_getElem (by rw [HLd.out.nxl];have:=HN.out;omega),hP2];rfl
    clear hP2;obtain ⟨J,hJ⟩:∃ J,J=kI r.n.id i:=⟨_,rfl⟩;have hFi:=HF.out i;rw [<-hJ] at hC hc hk1 hk2 hs1 hPd hFi;obtain ⟨q,hq⟩:=Option.isSome_iff_exists.1 ((hC.pk ((J:Int)+1)).2 ⟨by rw [hs1];exact hro,by omega,by rw [hs1];exact hk1,by rw [hs1];exact hk2⟩);have hb19:=hC.blk.cell 19;have e19:wq.cell? ⟨b,19,none⟩=some (.map (some xi.pm)):=hb19;have e9:wq.cell? ⟨b,9,none⟩=some (.int .i64 r.n.nw):=by have h9:=hC.blk.cell 9;unfold crC at h9;rw [hs1] at h9;exact h9
    have e3:wq.cell? ⟨b,3,none⟩=some (.int .i64 r.n.bt):=by have h9:=hC.blk.cell 3;unfold crC at h9;rw [hs1] at h9;exact h9
    have e0:wq.cell? ⟨w.heap.size,0,none⟩=some (.pointer (some ⟨b,0,none⟩)):=HE1.out wq xi hT;obtain ⟨S,hS⟩:∃ S,S=(Rn.beatK J r).n.st.getD J 0:=⟨_,rfl⟩
    have hSb:0<=S/\S<=r.n.nw:=by
     rw [hS,hs1];show 0<=s.getD J 0/\s.getD J 0<=r.n.nw;by_cases hJs:J<s.length
     ·rw [List.getD_eq_getElem?_getD,List.getElem?_eq_getElem hJs]
      exact hs3 _ (List.getElem_mem _)
     ·rw [List.getD_eq_getElem?_getD,List.getElem?_eq_none (by omega)]
      exact ⟨Int.le_refl _,hn0⟩
    have eq3:wq.cell? ⟨q,3,none⟩=some (.int .i64 S):=by
     have h9:=(hC.pf _ q hq).1.cell 3;unfold pgC at h9;rw [show ((J:Int)+1-1).toNat=J by omega,<-hS] at h9;exact h9
    have hlk:∀ n,(Instr.lookup 78 (.map (some xi.pm)) (.int .i64 ((J:Int)+1)) false).run Tryz.prog (wq.drewN n)=.ok (.pointer (some ⟨q,0,none⟩)) (wq.drewN n):=fun n=>Z2w _ Tryz.underlying78 (zeroPt _) (hC.pm.below (Zo _ _ n)) (wf3 (by omega) (by have:=HN.out;omega)) _ (by rw [hq];rfl)
    have hlk0:(Instr.lookup 78 (.map (some xi.pm)) (.int .i64 ((J:Int)+1)) false).run Tryz.prog wq=.ok (.pointer (some ⟨q,0,none⟩)) wq:=hlk 0;have hwS:IntKind.i64.wrap (r.n.nw-S)=r.n.nw-S:=by rw [IntKind.wrap_i64];omega
    have HSe:Hid (∀ z,Below wq.heap.size wq z->Calls Tryz.prog 157 #[.pointer (some ⟨b,0,none⟩),.int .i64 ((J:Int)+1)] z fun e w'=>e=.returned (.tuple #[])/\∃ v m',Z0 w' B b ((Rn.beatK J r).sendE J) (xi.sent v m')/\Tch b z xi w' (xi.sent v m')):=fun z hz=>by
     have h9:=Jn b (Rn.beatK J r) xi ((J:Int)+1) P z B (hC.below hz) (by rw [hs1];exact hro) (by omega) (by rw [hs1];exact hk1) (by rw [hs1];exact hk2) (by
      rw [hs1];show r.n.nx.getD ((J:Int)+1-1).toNat 0=_;rw [show ((J:Int)+1-1).toNat=J by omega];exact hPd) (by rw [hs1];exact hP1) (by rw [hs1];exact hll) (by omega)
     rw [show ((J:Int)+1-1).toNat=J by omega] at h9;exact h9
    have HCq:Hid _:=hC;unfold Rn.beat1 at hFi;rw [<-hS] at hFi;by_cases hbt:r.n.bt<=r.n.nw-S
    ·rw [if_pos hbt] at hFi
     have HFi:Hid _:=hFi;have hbd:decide (r.n.bt<=r.n.nw-S)=true:=decide_eq_true hbt;clear hC hT hO hFi hS hs1 hs2 hs3 hP1 hPd hk1 hk2 hJ hq hb19 HC;generalize (J:Int)+1=y at *
     go_upto_region 8 with fail
     go_quiet (fail)
     have e0n:∀ nq,(wq.drewN nq).cell? ⟨w.heap.size,0,none⟩=some (.pointer (some ⟨b,0,none⟩)):=fun nq=>e0
     go_wp2_with (first
      |(go_at_call 157;refine Calls.mono (HSe.out _ (Zo _ _ _)) ?_;rintro e w5 ⟨rfl,v5,m5,h5,t5⟩;have H5:Hid (Z0 w5 B b (Rn.beatK (kI r.n.id (i+1)) r) (xi.sent v5 m5)):=(by unfold Hid;rw [HFi.out];exact h5);have T5:Hid (Tch b W x w5 (xi.sent v5 m5)):=HT.out.trans (Tch.head (Zo _ _ _) t5);have O5:Hid (Z6 inC 1 3 w5 w1.heap.size (.slice (some ⟨g,off,none⟩) (N-1) oc) (oth r.n.id N)):=HO.out.tch HCq.out (Tch.head (Zo _ _ _) t5) (by decide) (by decide) (by decide) (by decide);clear h5 t5))
     go_roundw
     case rel=>exact ⟨i+1,xi.sent v5 m5,by omega,by go_num,by show (xi.L ++ [m5]).length<=_;rw [List.length_append,List.length_singleton];omega,H5.out,T5.out,O5.out⟩
     case measure=>simp [RowKit.intOf];omega
    ·rw [if_neg hbt] at hFi
     have HFi:Hid _:=hFi;have hbd:decide (r.n.bt<=r.n.nw-S)=false:=decide_eq_false hbt;clear hC hT hO hFi hS hs1 hs2 hs3 hP1 hPd hk1 hk2 hJ hq hb19 HC;generalize (J:Int)+1=y at *
     go_upto_region 8 with fail
     go_quiet (fail)
     go_wp2_with fail
     go_roundw
     case rel=>exact ⟨i+1,xi,by omega,by go_num,by omega,by rw [HFi.out];exact HCq.out.below (Zo _ _ _),HT.out.tail (Zo _ _ _),HO.out.below (Zo _ _ _)⟩
     case measure=>simp [RowKit.intOf];omega
   ·obtain rfl:i=N-1:=by omega
    have h1d:decide (((N-1:Nat):Int)<((N-1:Nat):Int))=false:=decide_eq_false (by omega);have HC2:Hid (Z0 wq B b (Rn.beatK N r) xi):=by have h9:=HC.out;rw [HKf.out] at h9;exact h9
    clear hC hT hO;go_wp2
    (try simp only [Exit.inBlock,Exit.then])
    exact bodyPost_end (results_none rfl _ _ _) rfl ⟨rfl,_,HC2.out,Tch.head HB.out HT.out⟩
end Go.Proofs.YtmmpoppgabadmaaGreat
namespace Go.Proofs.YtmmpoppgabadmaaGreat
open Go.RowKit Go.Maps
theorem Z2g (m:Mg)(r:Rn):∀ k,(Rn.allK m k r).code=r.code
 | 0=>rfl
 | k+1=>by
  rw [Rn.allK];split
  ·exact Z2g m r k
  ·exact Z2g m r k
theorem Z2y (r:Rn):∀ k,(Rn.beatK k r).code=r.code
 | 0=>rfl
 | k+1=>by
  rw [Rn.beatK];split
  ·exact Z2y r k
  ·exact Z2y r k
theorem Z1o (r:Rn):∀ k,(Rn.sendK k r).code=r.code
 | 0=>rfl
 | k+1=>by
  rw [Rn.sendK];split
  ·exact Z1o r k
  ·exact Z1o r k
theorem askFirst_code (r:Rn):r.askFirst.code=r.code:=by
 unfold Rn.askFirst;split
 ·rfl
 ·exact Z2g _ _ _
theorem tickL_code (r:Rn):r.tickL.code=r.code:=by
 unfold Rn.tickL;split
 ·exact Z2y _ _
 ·rfl
theorem Z3k (r:Rn):r.tick=if r.n.nw=1099511627776 then { r with code:=7 } else if r.n.ro=3 then Rn.tickL { r with n:={ r.n with nw:=r.n.nw+1 } } else if r.n.nw+1<r.n.dl then { r with n:={ r.n with nw:=r.n.nw+1 } } else Rn.askFirst { r with n:={ r.n with nw:=r.n.nw+1 } }:=rfl
theorem tick_any (b:Nat)(r:Rn)(x:CV)(w:World)(B:Nat)(h:Z0 w B b r x)(hc:r.code=0)(ht0:0<=r.n.tm)(ht1:r.n.tm<=1073741824)(hd : -(2^63)<=r.draw)(hD:r.draw<2^63)(hn0:0<=r.n.nw)(hn1:r.n.nw<=1099511627776)(hLt:r.n.ro=3->LdT r.n r.n.sz.toNat)(hll:r.n.log.length<=4096)(hl:x.L.length<=900) :
  Calls Tryz.prog 83 #[.pointer (some ⟨b,0,none⟩)] w fun e w'=>e=.returned (.int .i64 r.tick.code)/\∃ x',Z0 w' B b r.tick x'/\Tch b w x w' x':=by
 have HR:Hid _:=h;have c9:w.cell? ⟨b,9,none⟩=some (.int .i64 r.n.nw):=h.blk.cell 9;have f9:w.frozen? ⟨b,9,none⟩=false:=h.blk.free 9;by_cases hnm:r.n.nw=1099511627776
 ·have HQ:Hid (r.tick={ r with code:=7 }):=by unfold Hid;rw [Z3k,if_pos hnm]
  rw [HQ.out];have hb:(r.n.nw == 1099511627776)=true:=by simpa using hnm
  clear h HQ hnm;go_enter Tryz.func83,Tryz.ntmps83;go_wp2;go_ret;exact ⟨rfl,x,HR.out.re (r':={ r with code:=7 }) (kp':=x.kp) HR.out.blk (fun _ _ _=>rfl) rfl rfl rfl rfl rfl rfl rfl rfl rfl Iff.rfl,Tch.refl _ _ _⟩
 have hnb:(r.n.nw == 1099511627776)=false:=by simpa using hnm
 have hwr:IntKind.i64.wrap (r.n.nw+1)=r.n.nw+1:=by rw [IntKind.wrap_i64];omega
 obtain ⟨R1,hR1⟩:∃ R1:Rn,R1={ r with n:={ r.n with nw:=r.n.nw+1 } }:=⟨_,rfl⟩;have HC1:Hid (Z0 (w.setCell ⟨b,9,none⟩ (.int .i64 (r.n.nw+1))) B b R1 x):=by unfold Hid;rw [hR1];exact h.set 9 _ rfl rfl rfl rfl rfl rfl rfl rfl rfl rfl Iff.rfl
 have HT1:Hid (Tch b w x (w.setCell ⟨b,9,none⟩ (.int .i64 (r.n.nw+1))) x):=Tch.set _ _ _ _ _;have e6:(w.setCell ⟨b,9,none⟩ (.int .i64 (r.n.nw+1))).cell? ⟨b,6,none⟩=some (.int .i64 r.n.ro):=by have h9:=HC1.out.blk.cell 6;rw [hR1] at h9;exact h9
 have e9:(w.setCell ⟨b,9,none⟩ (.int .i64 (r.n.nw+1))).cell? ⟨b,9,none⟩=some (.int .i64 (r.n.nw+1)):=by have h9:=HC1.out.blk.cell 9;rw [hR1] at h9;exact h9
 have e10:(w.setCell ⟨b,9,none⟩ (.int .i64 (r.n.nw+1))).cell? ⟨b,10,none⟩=some (.int .i64 r.n.dl):=by have h9:=HC1.out.blk.cell 10;rw [hR1] at h9;exact h9
 have hk1:R1.code=0:=by rw [hR1];exact hc
 by_cases hro:r.n.ro=3
 ·have HQ:Hid (r.tick=R1.tickL):=by unfold Hid;rw [Z3k,if_neg hnm,if_pos hro,hR1]
  have HK:Hid (R1.tickL.code=0):=(tickL_code _).trans hk1;have hrb:(r.n.ro == 3)=true:=by simpa using hro
  have hL:=hLt hro
  have HTl:Hid (Calls Tryz.prog 127 #[.pointer (some ⟨b,0,none⟩)] (w.setCell ⟨b,9,none⟩ (.int .i64 (r.n.nw+1))) fun e w'=>e=.returned (.tuple #[])/\∃ x',Z0 w' B b R1.tickL x'/\Tch b (w.setCell ⟨b,9,none⟩ (.int .i64 (r.n.nw+1))) x w' x'):=by
   refine Z5b b R1 x _ B HC1.out (by rw [hR1];exact hro) (by rw [hR1];exact hd) (by rw [hR1];exact hD) (by rw [hR1];show 0<=r.n.nw+1;omega) (by rw [hR1];show r.n.nw+1<=_;omega) ?_ (by rw [hR1];exact hll) hl;rw [hR1];exact ⟨⟨hL.ldb.nxl,hL.ldb.stl,hL.ldb.nx⟩,hL.sel,fun y hy=>⟨(hL.se y hy).1,by have:=(hL.se y hy).2;show y<=r.n.nw+1;omega⟩,fun y hy=>⟨(hL.st y hy).1,by have:=(hL.st y hy).2;show y<=r.n.nw+1;omega⟩⟩
  rw [HQ.out];rw [HK.out];clear h HQ hnm hro hR1 hL hLt HC1 HR;generalize R1.tickL=RT at *;go_enter Tryz.func83,Tryz.ntmps83
  go_wp2_with (first
   |(go_at_call 127;refine Calls.mono HTl.out ?_;rintro e w2 ⟨rfl,x2,h2,t2⟩;have H2:Hid _:=h2;have T2:Hid (Tch b w x w2 x2):=HT1.out.trans t2;clear h2 t2))
  go_ret;exact ⟨rfl,_,H2.out,T2.out⟩
 have hrb:(r.n.ro == 3)=false:=by simpa using hro
 by_cases hdl:r.n.nw+1<r.n.dl
 ·have HQ:Hid (r.tick=R1):=by unfold Hid;rw [Z3k,if_neg hnm,if_neg hro,if_pos hdl,hR1]
  rw [HQ.out,hk1];have hdd:decide (r.n.dl<=r.n.nw+1)=false:=decide_eq_false (by omega);have hdn:¬ r.n.dl<=r.n.nw+1:=by omega
  clear h HQ hnm hro hR1 hLt HR hk1;go_enter Tryz.func83,Tryz.ntmps83
  go_upto_region 6 with fail
  generalize w.setCell ⟨b,9,none⟩ (.int .i64 (r.n.nw+1))=w1 at *;go_quiet (fail)
  go_wp2;go_ret;exact ⟨rfl,x,HC1.out.below (Zo _ _ _),HT1.out.tail (Zo _ _ _)⟩
 ·have HQ:Hid (r.tick=R1.askFirst):=by unfold Hid;rw [Z3k,if_neg hnm,if_neg hro,if_neg hdl,hR1]
  have HK:Hid (R1.askFirst.code=0):=(askFirst_code _).trans hk1;have HAf:Hid (∀ z,Z0 z B b R1 x->Calls Tryz.prog 128 #[.pointer (some ⟨b,0,none⟩)] z fun e w'=>e=.returned (.tuple #[])/\∃ x',Z0 w' B b R1.askFirst x'/\Tch b z x w' x'):=fun z hz=>askFirst_any b R1 x z B hz (by rw [hR1];exact ht0) (by rw [hR1];exact ht1) (by rw [hR1];exact hd) (by rw [hR1];exact hD) (by rw [hR1];show 0<=r.n.nw+1;omega) (by rw [hR1];show r.n.nw+1<=_;omega) (by rw [hR1];exact hll) hl
  rw [HQ.out,HK.out];have hdd:decide (r.n.dl<=r.n.nw+1)=true:=decide_eq_true (by omega);have hdn:r.n.dl<=r.n.nw+1:=by omega
  clear h HQ hnm hro hR1 hLt HR hk1;generalize R1.askFirst=RT at *;go_enter Tryz.func83,Tryz.ntmps83
  go_upto_region 6 with fail
  generalize w.setCell ⟨b,9,none⟩ (.int .i64 (r.n.nw+1))=w1 at *;go_quiet (fail)
  go_wp2_with (first
   |(go_at_call 128;refine Calls.mono (HAf.out _ (HC1.out.below (Zo _ _ _))) ?_;rintro e w2 ⟨rfl,x2,h2,t2⟩;have H2:Hid _:=h2;have T2:Hid (Tch b w x w2 x2):=(HT1.out.tail (Zo _ _ _)).trans t2;clear h2 t2))
  go_ret;exact ⟨rfl,_,H2.out,T2.out⟩
end Go.Proofs.YtmmpoppgabadmaaGreat
namespace Go.Proofs.YtmmpoppgabadmaaGreat
open Go.RowKit Go.Maps
theorem Z0.logAt {w w2 w3:World}{B b:Nat}{r:Rn}{x:CV}{v:Value}{l:List Ent}(h:Z0 w B b r x)(h2:Below w.heap.size w w2)(ho:Zd w3 B v l)(hg:Jy w2 x.vl w3 v) :
  Z0 (w3.setCell ⟨b,12,none⟩ v) B b { r with n:={ r.n with log:=l } } { x with vl:=v }/\Tch b w x (w3.setCell ⟨b,12,none⟩ v) { x with vl:=v }:=by
 obtain ⟨f1,f2,f3,f4,f5⟩:=h.bf;have f6:=h.entB;have hs2:=h2.size;have hs3:=hg.g.size;have hlt:=h.lt;have hk3:∀ k,k<w.heap.size->x.vl.ownBlock≠some k->w3.heap[k]? = w.heap[k]?:=fun k hk hne=>(hg.g.block k (by omega) (fun e=>hne e.symm)).trans (h2.block k hk)
 have hbb:Blk w3 b (crC r x) 80:=h.blk.keep (hk3 b h.lt fun e=>(f4 b e).1 rfl);have hset:∀ k,k≠b->(w3.setCell ⟨b,12,none⟩ v).heap[k]? = w3.heap[k]?:=fun k hk=>Below.heap_setCell _ _ _ _ hk
 have hall:∀ k,k≠b->k<w.heap.size->x.vl.ownBlock≠some k->(w3.setCell ⟨b,12,none⟩ v).heap[k]? = w.heap[k]?:=fun k h1 h2 h3=>(hset k h1).trans (hk3 k h2 h3)
 have hvo:∀ k,v.ownBlock=some k->x.vl.ownBlock=some k∨w.heap.size<=k:=fun k e=>by
  rcases hg.at' with e' | ⟨g,e',hk⟩
  ·rw [e] at e';exact .inl e'.symm
  ·rw [e] at e';cases e';exact .inr (by omega)
 obtain ⟨hp1,hp2⟩:=List.pairwise_cons.1 h.apE;have hpe:∀ p∈x.L,∀ k,p.v.ownBlock=some k->x.vl.ownBlock≠some k:=fun p hp k e e2=>hp1 p.v (List.mem_map.2 ⟨p,hp,rfl⟩) k e2 e
 refine ⟨⟨hbb.set 12 v,h.lo,ho.block fun k e=>hset k ?_,h.gm.keep (hall _ f1 h.gm.lt (fun e=>(f4 _ e).2.1 rfl)),h.gml,h.pm.keep (hall _ f2 h.pm.lt (fun e=>(f4 _ e).2.2.1 rfl)),h.pml,h.gp,fun y q e=>⟨(h.pf y q e).1.keep (hall q (f3 y q e).1 (h.pf y q e).1.lt (fun e2=>(f4 _ e2).2.2.2 y q e rfl)),(h.pf y q e).2⟩,h.pi,h.pk,h.out.block fun k e=>hall k (f5 k e).1 (h.out.lts k e).2 (f5 k e).2.2.2.2,h.outC,?_,?_,?_⟩,?_⟩
 ·rcases hvo k e with e' | e'
  ·exact (f4 k e').1
  ·omega
 ·intro p hp
  exact (h.ents p hp).block fun k e=>hall k (f6 p hp k e).1 (World.ownsRow.lt (h.ents p hp).2 k e).2 (hpe p hp k e)
 ·refine List.pairwise_cons.2 ⟨fun u hu k e1 e2=>?_,hp2⟩
  obtain ⟨p,hp,rfl⟩:=List.mem_map.1 hu;rcases hvo k e1 with e' | e'
  ·exact hpe p hp k e2 e'
  ·have:=(World.ownsRow.lt (h.ents p hp).2 k e2).2;omega
 ·obtain ⟨c1,c2,c3,c4,c5,c6,c7,c8,c9⟩:=h.ci
  exact ⟨c1,c2,c3,c4,c5,c6,c7,c8,c9⟩
 ·refine ⟨hg.g.os.trans h2.os,hg.g.tape.trans h2.tape,hg.g.output.trans h2.output,by simp [World.setCell];omega,fun k hk hn=>hall k (fun e=>hn (.inl e)) hk (fun e=>hn (.inr (.inr (.inr (.inr (.inl e)))))),fun k hk=>?_⟩
  rcases hk with e | e | e | e | e | e
  ·exact .inl (.inl e)
  ·exact .inl (.inr (.inl e))
  ·exact .inl (.inr (.inr (.inl e)))
  ·exact .inl (.inr (.inr (.inr (.inl e))))
  ·rcases hvo k e with e' | e'
   ·exact .inl (.inr (.inr (.inr (.inr (.inl e')))))
   ·exact .inr e'
  ·exact .inl (.inr (.inr (.inr (.inr (.inr e)))))
structure Z07 (w:World) (B b:Nat) (r:Rn) (x:CV) (ks:List Int):Prop where
 blk:Blk w b (crC r x) 80
 lo:B<=b
 log:Zd w B x.vl r.n.log
 gm:IM unV w x.gm (grF r.n.gr)
 gml:B<=x.gm
 pm:IM ptV w x.pm x.f
 pml:B<=x.pm
 gp:x.gm≠x.pm
 pf:∀ y q,x.f y=some q->Blk w q (pgC r.n y) 124/\B<=q
 pi:∀ y z q,x.f y=some q->x.f z=some q->y=z
 pk:∀ y,y∈ks↔(x.f y).isSome=true
 out:Z6 omC 10 43 w B x.vo x.L
 outC:x.L.map (·.m)=r.out
 ents:∀ p∈x.L,Zd w B p.v p.m.es
 apE:(x.vl :: x.L.map Om.v).Pairwise Zz
 ci:CI r.n
section
variable {w w':World} {B b:Nat} {r:Rn} {x:CV} {ks:List Int}
theorem Z07.at' (h:Z07 w B b r x ks)(hk:∀ y,y∈ks↔(r.n.ro=3/\1<=y/\y<=r.n.sz/\y≠r.n.id)):Z0 w B b r x:=
 ⟨h.blk,h.lo,h.log,h.gm,h.gml,h.pm,h.pml,h.gp,h.pf,h.pi,fun y=>(h.pk y).symm.trans (hk y),h.out,h.outC,h.ents,h.apE,h.ci⟩
theorem Z07.keep (h:Z07 w B b r x ks)(hk:∀ k,x.has b k->w'.heap[k]? = w.heap[k]?)(he:∀ p∈x.L,∀ k,p.v.ownBlock=some k->w'.heap[k]? = w.heap[k]?):Z07 w' B b r x ks:=
 ⟨h.blk.keep (hk _ (.inl rfl)),h.lo,h.log.block fun k e=>hk k (.inr (.inr (.inr (.inr (.inl e))))),h.gm.keep (hk _ (.inr (.inl rfl))),h.gml,h.pm.keep (hk _ (.inr (.inr (.inl rfl)))),h.pml,h.gp,fun y q e=>⟨(h.pf y q e).1.keep (hk q (.inr (.inr (.inr (.inl ⟨y,e⟩))))),(h.pf y q e).2⟩,h.pi,h.pk,h.out.block fun k e=>hk k (.inr (.inr (.inr (.inr (.inr e))))),h.outC,fun p hp=>(h.ents p hp).block fun k e=>he p hp k e,h.apE,h.ci⟩
theorem Z07.has_lt (h:Z07 w B b r x ks){k:Nat}(hk:x.has b k):k<w.heap.size:=by
 rcases hk with rfl | rfl | rfl | ⟨y,e⟩ | e | e
 ·exact h.blk.lt
 ·exact h.gm.lt
 ·exact h.pm.lt
 ·exact (h.pf y _ e).1.lt
 ·exact (World.ownsRow.lt h.log.2 k e).2
 ·exact (h.out.lts k e).2
theorem Z07.below (h:Z07 w B b r x ks)(hb:Below w.heap.size w w'):Z07 w' B b r x ks:=
 h.keep (fun k hk=>hb.block k (h.has_lt hk)) (fun p hp k e=>hb.block k (World.ownsRow.lt (h.ents p hp).2 k e).2)
theorem Z07.put {w2 w3:World}{y:Int}{q:Nat}(h:Z07 w B b r x ks)(h2:Below w.heap.size w w2)(hq:Blk w2 q (pgC r.n y) 124)(hqw:w.heap.size<=q)(hBq:B<=w.heap.size)(hg:w2.grownBy w3 (some x.pm))(hp:IM ptV w3 x.pm (fun d=>if d=y then some q else x.f d))(hy:y ∉ ks) :
  Z07 w3 B b r { x with f:=fun d=>if d=y then some q else x.f d } (ks ++ [y])/\Tch b w x w3 { x with f:=fun d=>if d=y then some q else x.f d }:=by
 have hk2:∀ k,k<w.heap.size->k≠x.pm->w3.heap[k]? = w.heap[k]?:=fun k hk hn=>(hg.block k (Nat.lt_of_lt_of_le hk h2.size) (fun e=>hn (by injection e with e))).trans (h2.block k hk)
 have hpm:=h.pm.lt;obtain ⟨pe,pc,hpo⟩:=h.pm.obj;have nb:b≠x.pm:=h.pm.ne_blk h.blk
 have hfy:x.f y=none:=by
  cases e:x.f y with
  | none=>rfl
  | some q'=>exact absurd ((h.pk y).2 (by rw [e];rfl)) hy
 refine ⟨⟨h.blk.keep (hk2 b h.blk.lt nb),h.lo,h.log.block fun k e=>hk2 k (World.ownsRow.lt h.log.2 k e).2 ?_,h.gm.keep (hk2 _ h.gm.lt h.gp),h.gml,hp,h.pml,h.gp,?_,?_,?_,h.out.block fun k e=>hk2 k (h.out.lts k e).2 ?_,h.outC,fun p hp=>(h.ents p hp).block fun k e=>hk2 k (World.ownsRow.lt (h.ents p hp).2 k e).2 ?_,h.apE,h.ci⟩,?_⟩
 ·rintro rfl
  obtain ⟨cur,s,hk⟩:=Jm h.log e;exact hmap hk hpo
 ·intro z q' e
  show Blk w3 q' (pgC r.n z) _/\B<=q';simp only at e;by_cases hz:z=y
  ·subst hz
   rw [if_pos rfl] at e;injection e with e;subst e;exact ⟨hq.keep (hg.block q hq.lt (fun e=>by injection e with e;omega)),by omega⟩
  ·rw [if_neg hz] at e
   have h9:=h.pf z q' e;exact ⟨h9.1.keep (hk2 q' h9.1.lt (h.pm.ne_blk h9.1)),h9.2⟩
 ·intro z1 z2 q' e1 e2
  simp only at e1 e2;by_cases h1:z1=y
  ·by_cases h3:z2=y
   ·omega
   ·rw [if_pos h1] at e1
    rw [if_neg h3] at e2;injection e1 with e1;have:=(h.pf z2 q' e2).1.lt;omega
  ·by_cases h3:z2=y
   ·rw [if_neg h1] at e1
    rw [if_pos h3] at e2;injection e2 with e2;have:=(h.pf z1 q' e1).1.lt;omega
   ·rw [if_neg h1] at e1
    rw [if_neg h3] at e2;exact h.pi z1 z2 q' e1 e2
 ·intro z
  simp only [List.mem_append,List.mem_singleton];by_cases hz:z=y
  ·simp [hz]
  ·simp only [hz,or_false,if_false]
   exact h.pk z
 ·rintro rfl
  obtain ⟨cur,s,hk⟩:=Z1p h.out e;exact hmap hk hpo
 ·rintro rfl
  obtain ⟨cur,s,hk⟩:=Jm (h.ents p hp) e;exact hmap hk hpo
 ·have hs:=h2.size
  refine ⟨hg.os.trans h2.os,hg.tape.trans h2.tape,hg.output.trans h2.output,Nat.le_trans h2.size hg.size,fun k hk hn=>hk2 k hk (fun e=>hn (.inr (.inr (.inl e)))),fun k hk=>?_⟩;rcases hk with e | e | e | ⟨z,e⟩ | e | e
  ·exact .inl (.inl e)
  ·exact .inl (.inr (.inl e))
  ·exact .inl (.inr (.inr (.inl e)))
  ·simp only at e
   by_cases hz:z=y
   ·rw [if_pos hz] at e
    injection e with e;exact .inr (by omega)
   ·rw [if_neg hz] at e
    exact .inl (.inr (.inr (.inr (.inl ⟨z,e⟩))))
  ·exact .inl (.inr (.inr (.inr (.inr (.inl e)))))
  ·exact .inl (.inr (.inr (.inr (.inr (.inr e)))))
end
end Go.Proofs.YtmmpoppgabadmaaGreat
namespace Go.Proofs.YtmmpoppgabadmaaGreat
open Go.RowKit Go.Maps
structure PreK (w:World) (B b:Nat) (C:Array Value) (n:Nd) (vl:Value) (g p:Nat) (gl:List Int) (f:Int->Option Nat) (ks:List Int):Prop where
 blk:Blk w b C 80
 lo:B<=b
 log:Zd w B vl n.log
 gm:IM unV w g (grF gl)
 gml:B<=g
 pm:IM ptV w p f
 pml:B<=p
 gp:g≠p
 pf:∀ y q,f y=some q->Blk w q (pgC n y) 124/\B<=q
 pi:∀ y z q,f y=some q->f z=some q->y=z
 pk:∀ y,y∈ks↔(f y).isSome=true
section
variable {w w':World} {B b:Nat} {C:Array Value} {n:Nd} {vl:Value} {g p:Nat} {gl:List Int} {f:Int->Option Nat} {ks:List Int}
theorem PreK.below (h:PreK w B b C n vl g p gl f ks)(hb:Below w.heap.size w w'):PreK w' B b C n vl g p gl f ks:=
 ⟨h.blk.keep (hb.block _ h.blk.lt),h.lo,h.log.block fun k e=>hb.block k (World.ownsRow.lt h.log.2 k e).2,h.gm.keep (hb.block _ h.gm.lt),h.gml,h.pm.keep (hb.block _ h.pm.lt),h.pml,h.gp,fun y q e=>⟨(h.pf y q e).1.keep (hb.block _ (h.pf y q e).1.lt),(h.pf y q e).2⟩,h.pi,h.pk⟩
theorem PreK.row {C':Array Value}(h:PreK w B b C n vl g p gl f ks)(hB:Blk w' b C' 80)(hk:∀ k,k≠b->w'.heap[k]? = w.heap[k]?):PreK w' B b C' n vl g p gl f ks:=by
 refine ⟨hB,h.lo,h.log.block fun k e=>hk k ?_,h.gm.keep (hk _ (h.gm.ne_blk h.blk).symm),h.gml,h.pm.keep (hk _ (h.pm.ne_blk h.blk).symm),h.pml,h.gp,fun y q e=>⟨(h.pf y q e).1.keep (hk _ ?_),(h.pf y q e).2⟩,h.pi,h.pk⟩
 ·rintro rfl
  obtain ⟨cur,s,h9⟩:=Jm h.log e;have:=Yn h9 h.blk;cases this
 ·rintro rfl
  have:=Yn (h.pf y _ e).1 h.blk;cases this
theorem grF_app (gl:List Int)(y:Int):(fun d=>if d=y then some () else grF gl d)=grF (gl ++ [y]):=by
 funext d
 unfold grF;by_cases h:d=y
 ·simp [h]
 ·simp [h]
theorem PreK.gput {y:Int}(h:PreK w B b C n vl g p gl f ks)(hg:w.grownBy w' (some g))(hp:IM unV w' g (fun d=>if d=y then some () else grF gl d)):PreK w' B b C n vl g p (gl ++ [y]) f ks:=by
 rw [grF_app] at hp;have hk2:∀ k,k<w.heap.size->k≠g->w'.heap[k]? = w.heap[k]?:=fun k hk hn=>hg.block k hk (fun e=>hn (by injection e with e))
 obtain ⟨pe,pc,hpo⟩:=h.gm.obj;refine ⟨h.blk.keep (hk2 b h.blk.lt (h.gm.ne_blk h.blk)),h.lo,h.log.block fun k e=>hk2 k (World.ownsRow.lt h.log.2 k e).2 ?_,hp,h.gml,h.pm.keep (hk2 _ h.pm.lt h.gp.symm),h.pml,h.gp,fun y q e=>⟨(h.pf y q e).1.keep (hk2 _ (h.pf y q e).1.lt (h.gm.ne_blk (h.pf y q e).1)),(h.pf y q e).2⟩,h.pi,h.pk⟩;rintro rfl;obtain ⟨cur,s,hk⟩:=Jm h.log e;exact hmap hk hpo
theorem PreK.put {w2 w3:World}{y:Int}{q:Nat}(h:PreK w B b C n vl g p gl f ks)(h2:Below w.heap.size w w2)(hq:Blk w2 q (pgC n y) 124)(hqw:w.heap.size<=q)(hBq:B<=w.heap.size)(hg:w2.grownBy w3 (some p))(hp:IM ptV w3 p (fun d=>if d=y then some q else f d))(hy:y ∉ ks) :
  PreK w3 B b C n vl g p gl (fun d=>if d=y then some q else f d) (ks ++ [y]):=by
 have hk2:∀ k,k<w.heap.size->k≠p->w3.heap[k]? = w.heap[k]?:=fun k hk hn=>(hg.block k (Nat.lt_of_lt_of_le hk h2.size) (fun e=>hn (by injection e with e))).trans (h2.block k hk)
 have hpm:=h.pm.lt;obtain ⟨pe,pc,hpo⟩:=h.pm.obj;have nb:b≠p:=h.pm.ne_blk h.blk;refine ⟨h.blk.keep (hk2 b h.blk.lt nb),h.lo,h.log.block fun k e=>hk2 k (World.ownsRow.lt h.log.2 k e).2 ?_,h.gm.keep (hk2 _ h.gm.lt h.gp),h.gml,hp,h.pml,h.gp,?_,?_,?_⟩
 ·rintro rfl
  obtain ⟨cur,s,hk⟩:=Jm h.log e;exact hmap hk hpo
 ·intro z q' e
  by_cases hz:z=y
  ·subst hz
   rw [if_pos rfl] at e;injection e with e;subst e;exact ⟨hq.keep (hg.block q hq.lt (fun e=>by injection e with e;omega)),by omega⟩
  ·rw [if_neg hz] at e
   have h9:=h.pf z q' e;exact ⟨h9.1.keep (hk2 q' h9.1.lt (h.pm.ne_blk h9.1)),h9.2⟩
 ·intro z1 z2 q' e1 e2
  by_cases h1:z1=y
  ·by_cases h3:z2=y
   ·omega
   ·rw [if_pos h1] at e1
    rw [if_neg h3] at e2;injection e1 with e1;have:=(h.pf z2 q' e2).1.lt;omega
  ·by_cases h3:z2=y
   ·rw [if_neg h1] at e1
    rw [if_pos h3] at e2;injection e2 with e2;have:=(h.pf z1 q' e1).1.lt;omega
   ·rw [if_neg h1] at e1
    rw [if_neg h3] at e2;exact h.pi z1 z2 q' e1 e2
 ·intro z
  simp only [List.mem_append,List.mem_singleton];by_cases hz:z=y
  ·simp [hz]
  ·simp only [hz,or_false,if_false]
   exact h.pk z
def rn0 (n:Nd):Rn:=⟨n,[],0,0,0⟩
theorem PreK.fin (h:PreK w B b (crC (rn0 n) ⟨vl,.slice none 0 0,[],g,p,f,0⟩) n vl g p n.gr f ks)(hk:∀ y,y∈ks↔(n.ro=3/\1<=y/\y<=n.sz/\y≠n.id))(hc:CI n):Z0 w B b (rn0 n) ⟨vl,.slice none 0 0,[],g,p,f,0⟩:=
 ⟨h.blk,h.lo,h.log,h.gm,h.gml,h.pm,h.pml,h.gp,h.pf,h.pi,fun y=>(h.pk y).symm.trans (hk y),Z6.nil _ _ _ _ _,rfl,(fun p hp=>by cases hp),(by simp),hc⟩
end
end Go.Proofs.YtmmpoppgabadmaaGreat
