import Derived.Test.YtmmpoppgabadmaaGreatG44
import Derived.Test.YtmmpoppgabadmaaGreatG31
import Derived.ArgAppend
set_option linter.unusedVariables false
set_option linter.unusedSimpArgs false
set_option maxRecDepth 100000
set_option maxHeartbeats 16000000
namespace Go.Proofs.YtmmpoppgabadmaaGreat
open Go.RowKit Go.Maps
def boxN (w:World)(v:Value):Nat:=match v with | .pointer (some a)=>(match w.cell? a with | some (.int _ k)=>k.toNat | _=>0) | _=>0
theorem boxN_at {w:World}{q:Nat}{k:Nat}{t:TypeId}(h:Blk w q #[.int .i64 (k:Int)] t):boxN w (.pointer (some ⟨q,0,none⟩))=k:=by
 have:w.cell? ⟨q,0,none⟩=some (.int .i64 (k:Int)):=h.cell 0;simp [boxN,this]
def holdP (n:Nd)(k:Nat)(y:Int):Bool:=decide ((k:Int)<=n.mt.getD (y-1).toNat 0)
theorem hold_cnt (n:Nd)(p:Nat):∀ k,Z01 (holdP n p) (fun _=>false) n.id k=Z10 n p k
 | 0=>rfl
 | k+1=>by
  rw [Z01,Z10,hold_cnt n p k];congr 1;unfold holdP;rw [show ((k:Int)+1-1).toNat=k by omega];by_cases h1:(k:Int)+1=n.id <;> by_cases h2:(p:Int)<=n.mt.getD k 0 <;> simp [h1,h2]
structure LogR (n:Nd):Prop where
 rise:n.log.Pairwise (fun a c=>a.t<=c.t)
 top:∀ e∈n.log,e.t<=n.tm
theorem Z2x (l:List Ent)(p:Nat)(h:p<l.length):Yb l (p+1)=(l[p]).t:=by
 unfold Yb;rw [if_neg (by omega),show p+1-1=p by omega,List.getElem?_eq_getElem h];rfl
theorem LogR.lower {n:Nd}(h:LogR n)(k:Nat)(hk:k<n.log.length)(hne:Yb n.log (k+1)≠n.tm):∀ j,j<=k->Yb n.log (j+1)≠n.tm:=by
 intro j hj;rw [Z2x _ _ hk] at hne;rw [Z2x _ _ (by omega)];have h1:=h.top _ (List.getElem_mem hk);by_cases e:j=k
 ·subst e;exact hne
 ·have h2:=List.pairwise_iff_getElem.1 h.rise j k (by omega) hk (by omega)
  omega
theorem commitP_low (n:Nd)(lo:Nat):∀ k,k<=lo->Yt n lo k=lo
 | 0,_=>rfl
 | k+1,h=>by rw [Yt,if_pos h]
theorem Z3c (n:Nd)(lo:Nat):∀ k,(∀ j,j<k->Yb n.log (j+1)≠n.tm)->Yt n lo k=lo
 | 0,_=>rfl
 | k+1,h=>by
  rw [Yt];split
  ·rfl
  ·rw [if_neg]
   ·exact Z3c n lo k (fun j hj=>h j (by omega))
   ·unfold Xu
    rw [Bool.and_eq_true];rintro ⟨-,h2⟩;exact h k (by omega) (by simpa using h2)
theorem hold1_any (b:Nat)(r:Rn)(x:CV)(eb k:Nat)(w:World)(B:Nat)(h:Z0 w B b r x)(he:Blk w eb #[.int .i64 (k:Int)] 3)(y:Int)(q:Nat)(hq:x.f y=some q) :
  Calls Tryz.prog 183 #[.pointer (some ⟨q,0,none⟩),.pointer (some ⟨eb,0,none⟩)] w fun e w'=>e=.returned (.bool (holdP r.n k y))/\Below w.heap.size w w':=by
 have ce:w.cell? ⟨eb,0,none⟩=some (.int .i64 (k:Int)):=he.cell 0;have cq:w.cell? ⟨q,1,none⟩=some (.int .i64 (r.n.mt.getD (y-1).toNat 0)):=(h.pf y q hq).1.cell 1;have HQ:Hid (holdP r.n k y=decide ((k:Int)<=r.n.mt.getD (y-1).toNat 0)):=rfl;clear h he hq;generalize holdP r.n k y=hp at *;generalize r.n.mt.getD (y-1).toNat 0=S at *;rw [HQ.out];clear HQ;go_enter Tryz.func183,Tryz.ntmps183;go_wp2;go_quiet (fail)
 go_wp2;go_ret;exact ⟨rfl,Zo _ _ _⟩
theorem commit_any (b:Nat)(r:Rn)(x:CV)(w:World)(B:Nat)(h:Z0 w B b r x)(hro:r.n.ro=3)(hll:r.n.log.length<=4096)(hc0:0<=r.n.cm)(hR:LogR r.n) :
  Calls Tryz.prog 174 #[.pointer (some ⟨b,0,none⟩)] w fun e w'=>e=.returned (.tuple #[])/\Z0 w' B b { r with n:={ r.n with cm:=(Yt r.n r.n.cm.toNat r.n.log.length:Int) } } x/\Tch b w x w' x:=by
 have HR:Hid _:=h;obtain ⟨la,lc,hvl⟩:=h.log.shape;have HEs:Hid (Es w (.slice la r.n.log.length lc) r.n.log):=by unfold Hid;rw [<-hvl];exact h.es hll
 have HVl:Hid (x.vl=.slice la r.n.log.length lc):=hvl;have hlt:=h.lt;have HLR:Hid _:=hR;obtain ⟨CP,hCP⟩:∃ CP:Nat,CP=Yt r.n r.n.cm.toNat r.n.log.length:=⟨_,rfl⟩;rw [<-hCP];have HCP:Hid _:=hCP;obtain ⟨LN,hLN⟩:∃ LN,LN=r.n.log.length:=⟨_,rfl⟩;have HLN:Hid _:=hLN;obtain ⟨CM,hCM⟩:∃ CM:Nat,(CM:Int)=r.n.cm:=⟨r.n.cm.toNat,by omega⟩;have HCM:Hid (r.n.cm.toNat=CM):=by unfold Hid;omega
 have HCMi:Hid ((CM:Int)=r.n.cm):=hCM;have HC:Hid (∀ z,Below w.heap.size w z->Z0 z B b r x/\z.cell? ⟨b,12,none⟩=some (.slice la LN lc)/\z.cell? ⟨b,8,none⟩=some (.int .i64 (CM:Int))/\z.cell? ⟨b,4,none⟩=some (.int .i64 r.n.tm)/\z.frozen? ⟨b,8,none⟩=false):=fun z hz=>⟨h.below hz,by rw [hLN,<-hvl];exact (h.below hz).blk.cell 12,by rw [hCM];exact (h.below hz).blk.cell 8,(h.below hz).blk.cell 4,(h.below hz).blk.free 8⟩
 rw [<-hLN] at hll
 have HFin:Hid (∀ z,Below w.heap.size w z->CP=CM->Z0 z B b { r with n:={ r.n with cm:=(CP:Int) } } x/\Tch b w x z x):=fun z hz e=>by
  rw [e,hCM];exact ⟨h.below hz,Tch.below0 _ _ hz⟩
 have HFin2:Hid (∀ z (k:Nat) (K:Int),K=(k:Int)->Below w.heap.size w z->CP=k->Z0 (z.setCell ⟨b,8,none⟩ (.int .i64 K)) B b { r with n:={ r.n with cm:=(CP:Int) } } x/\Tch b w x (z.setCell ⟨b,8,none⟩ (.int .i64 K)) x):=fun z k K hK hz e=>by
  rw [e,<-hK];exact ⟨(h.below hz).set 8 _ rfl rfl rfl rfl rfl rfl rfl rfl rfl rfl Iff.rfl,(Tch.below0 _ _ hz).trans (Tch.set _ _ _ _ _)⟩
 obtain ⟨d0,c12,c8,c4,g8⟩:=HC.out w (Below.refl _ _);clear h hvl hCP hLN hCM hR d0;go_enter Tryz.func174,Tryz.ntmps174;go_wp2
 go_loopw [2,3] (fun pv fv wr=>∃(kb k:Nat),pv=.pointer (some ⟨kb,0,none⟩)/\Blk wr kb #[.int .i64 (k:Int)] 3/\w.heap.size<=kb/\k<=LN/\CP=Yt r.n CM k/\Below w.heap.size w wr) (fun pv _ wr=>boxN wr pv)
 case atStart=>exact ⟨w.heap.size,LN,rfl,Blk.new _ _ _,Nat.le_refl _,Nat.le_refl _,by rw [HCP.out,HCM.out,HLN.out],Below.alloc0 _⟩
 case round=>
  obtain ⟨kb,k,rfl,hK,hkb,hkL,hcp,hB⟩:=hrel;obtain ⟨wq,hwq⟩:∃ z,z=wr:=⟨_,rfl⟩;rw [<-hwq] at hK hB;subst hwq;have HK:Hid (Blk wq kb _ 3):=hK;have HB:Hid _:=hB;have HCk:Hid _:=hcp;obtain ⟨hCq,d12,d8,d4,f8⟩:=HC.out wq hB;have HCq:Hid _:=hCq;have dk:wq.cell? ⟨kb,0,none⟩=some (.int .i64 (k:Int)):=hK.cell 0;have hkl:=hK.lt;clear hK hB hcp hCq c12 c8 c4 g8;by_cases h1:CM<k
  ·obtain ⟨j,rfl⟩:∃ j,k=j+1:=⟨k-1,by omega⟩
   have h1d:decide ((CM:Int)<(j:Int)+1)=true:=decide_eq_true (by omega);have hEq:=HEs.out.below HB.out;obtain ⟨-,-,a',c',ee,hcc⟩:=hEq
   obtain ⟨g,off,rfl,hj⟩:∃ g off,la=some ⟨g,off,none⟩/\wq.cell? ⟨g,off+j*7,none⟩=some (.int .i64 (r.n.log[j]'(by have:=HLN.out;omega)).t):=by
    simp only [Value.slice.injEq] at ee;obtain ⟨rfl,-,rfl⟩:=ee;obtain ⟨g,off,rfl,hj⟩:=hcc j (by have:=HLN.out;omega);exact ⟨g,off,rfl,(hj j (by have:=HLN.out;omega)).1⟩
   have hta:Yb r.n.log (j+1)=(r.n.log[j]'(by have:=HLN.out;omega)).t:=Z2x _ _ _;clear ee hcc a' c';have HTa:Hid _:=hta;clear hta;generalize (r.n.log[j]'(by have:=HLN.out;omega)).t=TJ at *;have hwj:IntKind.i64.wrap ((j:Int)+1-1)=(j:Int):=by rw [IntKind.wrap_i64];omega
   have hj0:(0:Int)<=(j:Int):=by omega
   have hjn:(j:Int)<(LN:Int):=by omega
   have hjt:((j:Int)).toNat=j:=by omega
   cases h2:(TJ == r.n.tm)
   ·have HE:Hid (CP=CM):=by
     unfold Hid;rw [HCk.out];refine Z3c r.n CM (j+1) (fun i hi=>HLR.out.lower j (by have:=HLN.out;omega) ?_ i (by omega));rw [HTa.out];simpa using h2
    go_upto_region 1 with fail
    go_quiet (fail)
    go_wp2
    (try simp only [Exit.inBlock,Exit.then])
    exact bodyPost_end (results_none rfl _ _ _) rfl ⟨rfl,HFin.out _ (HB.out.trans (Zo _ _ _)) HE.out⟩
   ·have HAg:Hid (Xu r.n (j+1)=Xe (1+(Z10 r.n ((j+1:Nat):Int) r.n.sz.toNat:Int)) r.n.sz):=by
     unfold Hid Xu;rw [HTa.out,show decide (TJ=r.n.tm)=true from by simpa using h2,Bool.and_true]
    have HSu:Hid (∀ z,Below wq.heap.size wq z->Calls Tryz.prog 154 #[.pointer (some ⟨b,0,none⟩),.func (.func 183) #[] #[.pointer (some ⟨kb,0,none⟩)]] z fun e w'=>e=.returned (.bool (Xu r.n (j+1)))/\Below z.heap.size z w'):=fun z hz=>by
     rw [HAg.out,<-hold_cnt];refine Z4w b r x kb (holdP r.n (j+1)) z B (HCq.out.below hz) hro fun u y q hu hq=>?_
     have hzu:Below wq.heap.size wq u:=hz.trans (hu.mono hz.size);exact hold1_any b r x kb (j+1) u B (HCq.out.below hzu) (HK.out.below hzu HK.out.lt) y q hq
    have dkn:∀ n,(wq.drewN n).cell? ⟨kb,0,none⟩=some (.int .i64 ((j:Int)+1)):=fun n=>dk
    have HN1:Hid (Yt r.n CM (j+1)=if Xu r.n (j+1)=true then j+1 else Yt r.n CM j):=by unfold Hid;rw [Yt,if_neg (by omega)]
    have Hd8:Hid (∀ z,Below wq.heap.size wq z->z.cell? ⟨kb,0,none⟩=some (.int .i64 ((j:Int)+1))/\z.frozen? ⟨kb,0,none⟩=false/\z.cell? ⟨b,8,none⟩=some (.int .i64 (CM:Int))/\z.frozen? ⟨b,8,none⟩=false):=fun z hz=>⟨(HK.out.below hz HK.out.lt).cell 0,(HK.out.below hz HK.out.lt).free 0,(HC.out z (HB.out.trans (hz.mono HB.out.size))).2.2.1,(HC.out z (HB.out.trans (hz.mono HB.out.size))).2.2.2.2⟩
    cases ha:Xu r.n (j+1)
    ·rw [ha] at HSu
     have HNx:Hid (CP=Yt r.n CM j):=by unfold Hid;rw [HCk.out,HN1.out,ha];rfl
     go_upto_region 1 with fail
     go_quiet (fail)
     go_wp2_with (first
      |(go_at_call 154;refine Calls.mono (HSu.out _ (Zo _ _ _)) ?_;rintro e w3 ⟨rfl,hb3⟩;have HB3:Hid (Below wq.heap.size wq w3):=(Zo _ _ _).trans hb3;obtain ⟨e1,e2,e3,e4⟩:=Hd8.out w3 HB3.out;have hz3:=HB3.out.size;clear hb3))
     have hzb:=HB.out.size
     go_roundw
     case rel=>exact ⟨w3.heap.size,j,rfl,Blk.new _ _ _,by omega,by omega,HNx.out,(HB.out.trans (HB3.out.mono HB.out.size)).alloc (by omega) _⟩
     case measure=>
      rw [boxN_at HK.out,boxN_at (Blk.new w3 #[.int .i64 (j:Int)] 3)];omega
    ·rw [ha] at HSu
     have HNx:Hid (CP=j+1):=by unfold Hid;rw [HCk.out,HN1.out,ha];rfl
     go_upto_region 1 with fail
     go_quiet (fail)
     go_wp2_with (first
      |(go_at_call 154;refine Calls.mono (HSu.out _ (Zo _ _ _)) ?_;rintro e w3 ⟨rfl,hb3⟩;have HB3:Hid (Below wq.heap.size wq w3):=(Zo _ _ _).trans hb3;obtain ⟨e1,e2,e3,e4⟩:=Hd8.out w3 HB3.out;clear hb3))
     (try simp only [Exit.inBlock,Exit.then])
     have HF:Hid _:=HFin2.out w3 (j+1) ((j:Int)+1) (by omega) (HB.out.trans (HB3.out.mono HB.out.size)) HNx.out
     first
      | exact bodyPost_ret (results_none rfl _ _ _) rfl ⟨rfl,HF.out⟩
      | exact bodyPost_end (results_none rfl _ _ _) rfl ⟨rfl,HF.out⟩
  ·have h1d:decide ((CM:Int)<(k:Int))=false:=decide_eq_false (by omega)
   have HE:Hid (CP=CM):=by unfold Hid;rw [HCk.out];exact commitP_low r.n CM k (by omega)
   go_upto_region 1 with fail
   go_quiet (fail)
   go_wp2
   (try simp only [Exit.inBlock,Exit.then])
   exact bodyPost_end (results_none rfl _ _ _) rfl ⟨rfl,HFin.out _ (HB.out.trans (Zo _ _ _)) HE.out⟩
end Go.Proofs.YtmmpoppgabadmaaGreat
namespace Go.Proofs.YtmmpoppgabadmaaGreat
open Go.RowKit Go.Maps
theorem rise_pw (most:Int):∀(l:List Int) (last:Int),Yo most last l=true->l.Pairwise (· < ·)/\∀ y∈l,last<y/\y<=most
 | [],last,_=>⟨List.Pairwise.nil,fun y h=>by cases h⟩
 | x :: l,last,hr=>by
  simp only [Yo,Bool.and_eq_true,Zk] at hr;obtain ⟨h1,h2⟩:=rise_pw most l x hr.2;refine ⟨List.Pairwise.cons (fun y hy=>(h2 y hy).1) h1,fun y hy=>?_⟩;rcases List.mem_cons.1 hy with rfl | hy
  ·omega
  ·have:=h2 y hy;omega
theorem fit_pw (high:Int):∀(l:List Ent) (low:Int),J0 high low l=true->l.Pairwise (fun a c=>a.t<=c.t)/\∀ e∈l,low<=e.t/\e.t<=high
 | [],low,_=>⟨List.Pairwise.nil,fun y h=>by cases h⟩
 | x :: l,low,hr=>by
  simp only [J0,Bool.and_eq_true,Zk] at hr;obtain ⟨h1,h2⟩:=fit_pw high l x.t hr.2;refine ⟨List.Pairwise.cons (fun y hy=>(h2 y hy).1) h1,fun y hy=>?_⟩;rcases List.mem_cons.1 hy with rfl | hy
  ·omega
  ·have:=h2 y hy;omega
theorem nodeN_log (n:Nd)(h:Z0l n=0):LogR n/\n.log.length<=4096:=by
 unfold Z0l Yj at h;split at h
 ·simp at h
 split at h
 ·simp at h
 split at h
 ·simp at h
 split at h
 ·simp at h
 rename_i h4;split at h
 ·simp at h
 rename_i h5;have k5:J0 n.tm 1 n.log=true:=by simpa using h5
 obtain ⟨h1,h2⟩:=fit_pw n.tm n.log 1 k5;exact ⟨⟨h1,fun e he=>(h2 e he).2⟩,by omega⟩
theorem nodeN_ci (n:Nd)(h:Z0l n=0):CI n:=by
 obtain ⟨hb,t0,t1,ho,hgl,hcm,hg,hl⟩:=Z1w n h
 have hgr:n.gr.Pairwise (· < ·)/\∀ y∈n.gr,1<=y/\y<=n.sz:=by
  unfold Yr at hg;split at hg
  ·have:n.gr = []:=List.length_eq_zero_iff.1 (by have h9:(n.gr.length:Int)=0:=(by simpa using hg);omega)
   rw [this];exact ⟨List.Pairwise.nil,fun y h=>by cases h⟩
  ·simp only [Bool.and_eq_true] at hg
   obtain ⟨h1,h2⟩:=rise_pw n.sz n.gr 0 hg.1;exact ⟨h1,fun y hy=>by have:=h2 y hy;omega⟩
 have hz:=hb.sz0;have hz1:=hb.sz1;have hi0:=hb.id0;have hi1:=hb.id1;refine ⟨hz,hz1,ho,hi0,hi1,hgr.1,hgr.2,fun hro=>?_,fun hro=>?_⟩
 ·unfold Yv at hl
  rw [if_pos hro,Bool.and_eq_true,Ji] at hl;obtain ⟨⟨e1,e2,e3,e4⟩,hp⟩:=hl;have h9:=progs_at hp (n.id-1).toNat (by omega);unfold Y9 at h9;rw [if_pos (by omega)] at h9;simp only [Bool.and_eq_true,beq_iff_eq] at h9;exact ⟨⟨by omega,by omega,by omega,by omega⟩,h9.1,h9.2.1,h9.2.2.1,h9.2.2.2⟩
 ·unfold Yv at hl
  rw [if_neg hro,Bool.and_eq_true,Ji] at hl;obtain ⟨⟨e1,e2,e3,e4⟩,hp⟩:=hl;exact ⟨List.length_eq_zero_iff.1 (by omega),List.length_eq_zero_iff.1 (by omega),List.length_eq_zero_iff.1 (by omega),List.length_eq_zero_iff.1 (by omega)⟩
end Go.Proofs.YtmmpoppgabadmaaGreat
namespace Go.Proofs.YtmmpoppgabadmaaGreat
open Go.RowKit Go.Maps
def Rn.back (r:Rn)(m:Mg):Rn:=
 if m.li≠r.n.nx.getD (m.fr-1).toNat 0-1 then r.stale
 else Rn.sendE { r with n:={ r.n with nx:=r.n.nx.set (m.fr-1).toNat (max (r.n.mt.getD (m.fr-1).toNat 0+1) (min m.hi (m.li-1)+1)) } } (m.fr-1).toNat
theorem back_code (r:Rn)(m:Mg)(h:r.code=0):(r.back m).code=if m.li≠r.n.nx.getD (m.fr-1).toNat 0-1 then 3 else 0:=by
 unfold Rn.back;split
 ·rfl
 ·exact h
theorem stepBack_any (b:Nat)(r:Rn)(x:CV)(m:Mg)(ea:Option Addr)(en ec:Nat)(q:Nat)(w:World)(B:Nat)(h:Z0 w B b r x)(hc:r.code=0)(hl:x.L.length<=900)(hb:NdB r.n)(hro:r.n.ro=3)(hq:x.f m.fr=some q)(hx0:1<=r.n.nx.getD (m.fr-1).toNat 0)(hx1:r.n.nx.getD (m.fr-1).toNat 0<=(r.n.log.length:Int)+1)(hm0:0<=r.n.mt.getD (m.fr-1).toNat 0)(hm1:r.n.mt.getD (m.fr-1).toNat 0<r.n.nx.getD (m.fr-1).toNat 0)(hi0:0<=m.hi)(hi1:m.hi<=4096)(li0:0<=m.li)(li1:m.li<=4096) :
  Calls Tryz.prog 173 #[.pointer (some ⟨b,0,none⟩),.agg #[.int .i64 m.ki,.int .i64 m.fr,.int .i64 m.td,.int .i64 m.tm,.int .i64 m.li,.int .i64 m.lt,.int .i64 m.cm,.int .i64 m.ok,.int .i64 m.hi,.slice ea en ec],.pointer (some ⟨q,0,none⟩)] w fun e w'=>e=.returned (.int .i64 (r.back m).code)/\∃ x',Z0 w' B b (r.back m) x'/\Tch b w x w' x':=by
 obtain ⟨W,hW⟩:∃ W,W=w.alloc (.cells #[.int .i64 m.ki,.int .i64 m.fr,.int .i64 m.td,.int .i64 m.tm,.int .i64 m.li,.int .i64 m.lt,.int .i64 m.cm,.int .i64 m.ok,.int .i64 m.hi,.slice ea en ec] 43):=⟨_,rfl⟩;have HBW:Hid (Below w.heap.size w W):=by unfold Hid;rw [hW];exact Below.alloc0 _
 have HMW:Hid (Blk W w.heap.size #[.int .i64 m.ki,.int .i64 m.fr,.int .i64 m.td,.int .i64 m.tm,.int .i64 m.li,.int .i64 m.lt,.int .i64 m.cm,.int .i64 m.ok,.int .i64 m.hi,.slice ea en ec] 43):=by unfold Hid;rw [hW];exact Blk.new _ _ _
 have HCW:Hid (Z0 W B b r x):=h.below HBW.out;have HnW:Hid (¬ x.has b w.heap.size):=h.hasnt_new (Nat.le_refl _);have hln:=hb.ln;have hpk:=(h.pk m.fr).1 (by rw [hq];rfl);have hld:=(h.ci.ld hro).1;have HQ:Hid (x.f m.fr=some q):=hq;obtain ⟨NX,hNX⟩:∃ NX,NX=r.n.nx.getD (m.fr-1).toNat 0:=⟨_,rfl⟩;obtain ⟨MT,hMT⟩:∃ MT,MT=r.n.mt.getD (m.fr-1).toNat 0:=⟨_,rfl⟩;have HB0:Hid (r.back m=if m.li≠NX-1 then r.stale else Rn.sendE { r with n:={ r.n with nx:=r.n.nx.set (m.fr-1).toNat (max (MT+1) (min m.hi (m.li-1)+1)) } } (m.fr-1).toNat):=by unfold Hid Rn.back;rw [hNX,hMT]
 have HK:Hid ((r.back m).code=if m.li≠NX-1 then 3 else 0):=by unfold Hid;rw [hNX];exact back_code r m hc
 rw [<-hNX] at hx0 hx1 hm1;rw [<-hMT] at hm0 hm1;have q0:∀ u:BW W,u.w.cell? ⟨q,0,none⟩=some (.int .i64 NX):=fun u=>by rw [hNX];exact ((HCW.out.below u.h).pf _ _ hq).1.cell 0
 have q1:∀ u:BW W,u.w.cell? ⟨q,1,none⟩=some (.int .i64 MT):=fun u=>by rw [hMT];exact ((HCW.out.below u.h).pf _ _ hq).1.cell 1
 have p4:∀ u:BW W,u.w.cell? ⟨w.heap.size,4,none⟩=some (.int .i64 m.li):=fun u=>(HMW.out.below u.h HMW.out.lt).cell 4
 have p8:∀ u:BW W,u.w.cell? ⟨w.heap.size,8,none⟩=some (.int .i64 m.hi):=fun u=>(HMW.out.below u.h HMW.out.lt).cell 8
 have NEW:Nonempty (BW W):=⟨⟨W,Below.refl _ _⟩⟩;have hwn:IntKind.i64.wrap (NX-1)=NX-1:=by rw [IntKind.wrap_i64];omega
 have HXM:Hid (r.n.nx.length=r.n.sz.toNat):=hld.1;clear h hq hld;by_cases hne:m.li≠NX-1
 ·rw [HK.out,if_pos hne]
  have HQ2:Hid (r.back m=r.stale):=HB0.out.trans (if_pos hne);have hnb:(m.li != NX-1)=true:=by simpa using hne
  rw [HQ2.out];clear HK HB0 HQ2 hne hNX hMT;go_enter Tryz.func173,Tryz.ntmps173
  go_upto_region 1 with fail
  rw [<-hW];clear hW;refine wp_region_quiet (C:=fun w'=>∃ u:BW W,w'=u.w) (by kernel_rfl) (by kernel_rfl) ⟨⟨_,(Below.refl _ _).drew⟩,rfl⟩ ?_;rw [List.toList_toArray]
  repeat (first | go_big_quiet_step ((fail)))
  refine wpQuiet_nil ?_;intro w5 hww5;have hb_w5:Below W.heap.size W w5:=(by obtain ⟨u,rfl⟩:=hww5;exact u.h);clear hww5
  go_wp2_with fail
  go_ret;exact ⟨rfl,x,(HCW.out.below hb_w5).codeQ 3,Tch.head HBW.out (Tch.below0 _ _ hb_w5)⟩
 ·rw [HK.out,if_neg hne]
  obtain ⟨R2,hR2⟩:∃ R2:Rn,R2={ r with n:={ r.n with nx:=r.n.nx.set (m.fr-1).toNat (max (MT+1) (min m.hi (m.li-1)+1)) } }:=⟨_,rfl⟩;have HQ2:Hid (r.back m=R2.sendE (m.fr-1).toNat):=by unfold Hid;rw [hR2];exact HB0.out.trans (if_neg hne)
  have hnb:(m.li != NX-1)=false:=by simpa using hne
  have hle:m.li=NX-1:=by omega
  have hwl:IntKind.i64.wrap (m.li-1)=m.li-1:=by rw [IntKind.wrap_i64];omega
  obtain ⟨P,hP⟩:∃ P:Nat,(P:Int)=max MT (min m.hi (m.li-1)):=⟨(max MT (min m.hi (m.li-1))).toNat,by omega⟩;have HPv:Hid (max (MT+1) (min m.hi (m.li-1)+1)=(P:Int)+1):=by unfold Hid;omega
  have hPl:P<=r.n.log.length:=by omega
  have hmin:(if m.li-1<m.hi then m.li-1 else m.hi)=min m.hi (m.li-1):=by split <;> omega
  obtain ⟨MN,hMN⟩:∃ MN,MN=min m.hi (m.li-1):=⟨_,rfl⟩;have hmax:(if MT<MN then MN else MT)=(P:Int):=by rw [hP,<-hMN];split <;> omega
  have hmax2:(if MN<MT then MT else MN)=(P:Int):=by rw [hP,<-hMN];split <;> omega
  rw [<-hMN] at hmin;have hwP:IntKind.i64.wrap ((P:Int)+1)=(P:Int)+1:=by rw [IntKind.wrap_i64];omega
  have HSt:Hid (∀ z,Z0 z B b r x->z.cell? ⟨q,0,none⟩=some (.int .i64 NX)/\z.frozen? ⟨q,0,none⟩=false/\Z0 (z.setCell ⟨q,0,none⟩ (.int .i64 ((P:Int)+1))) B b R2 x/\Tch b z x (z.setCell ⟨q,0,none⟩ (.int .i64 ((P:Int)+1))) x):=fun z hz=>by
   have h9:=hz.nxP HQ.out ((P:Int)+1);refine ⟨by rw [hNX];exact (hz.pf _ _ HQ.out).1.cell 0,(hz.pf _ _ HQ.out).1.free 0,?_,h9.2⟩;rw [hR2,HPv.out];exact h9.1
  have HSe:Hid (∀ z,Z0 z B b R2 x->Calls Tryz.prog 157 #[.pointer (some ⟨b,0,none⟩),.int .i64 m.fr] z fun e w'=>e=.returned (.tuple #[])/\∃ v m',Z0 w' B b (R2.sendE (m.fr-1).toNat) (x.sent v m')/\Tch b z x w' (x.sent v m')):=fun z hz=>Jn b R2 x m.fr P z B hz (by rw [hR2];exact hro) hpk.2.1 (by rw [hR2];exact hpk.2.2.1) (by rw [hR2];exact hpk.2.2.2) (by
   rw [hR2];show (r.n.nx.set (m.fr-1).toNat _).getD (m.fr-1).toNat 0=_;rw [Xk _ _ _ (by rw [HXM.out];omega),HPv.out]) (by rw [hR2];exact hPl) (by rw [hR2];exact hln) (by omega)
  rw [HQ2.out];clear HK HB0 HQ2 hne hNX hMT hle hP hMN hR2;generalize R2.sendE (m.fr-1).toNat=RF at *;go_enter Tryz.func173,Tryz.ntmps173
  go_upto_region 1 with fail
  rw [<-hW];clear hW
  go_cut [14] (fun s z=>s=.bool false/\Below W.heap.size W z)
  case first=>
   refine wp_region_quiet (C:=fun w'=>∃ u:BW W,w'=u.w) (by kernel_rfl) (by kernel_rfl) ⟨⟨_,(Below.refl _ _).drew⟩,rfl⟩ ?_;rw [List.toList_toArray]
   repeat (first | go_big_quiet_step ((fail)))
   refine wpQuiet_nil ?_;intro w5 hww5;have hb_w5:Below W.heap.size W w5:=(by obtain ⟨u,rfl⟩:=hww5;exact u.h);clear hww5
   go_wp2_with fail
   go_meet;exact ⟨rfl,hb_w5⟩
  case rest=>
   obtain ⟨rfl,hB6⟩:=hcut;obtain ⟨w6,hw6⟩:∃ z,z=wc:=⟨_,rfl⟩;rw [<-hw6] at hB6;subst hw6;have HB6:Hid _:=hB6;have s0:∀ u:BW w6,u.w.cell? ⟨q,0,none⟩=some (.int .i64 NX):=fun u=>q0 ⟨u.w,HB6.out.trans (u.h.mono HB6.out.size)⟩
   have s1:∀ u:BW w6,u.w.cell? ⟨q,1,none⟩=some (.int .i64 MT):=fun u=>q1 ⟨u.w,HB6.out.trans (u.h.mono HB6.out.size)⟩
   have s4:∀ u:BW w6,u.w.cell? ⟨w.heap.size,4,none⟩=some (.int .i64 m.li):=fun u=>p4 ⟨u.w,HB6.out.trans (u.h.mono HB6.out.size)⟩
   have s8:∀ u:BW w6,u.w.cell? ⟨w.heap.size,8,none⟩=some (.int .i64 m.hi):=fun u=>p8 ⟨u.w,HB6.out.trans (u.h.mono HB6.out.size)⟩
   have NE6:Nonempty (BW w6):=⟨⟨w6,Below.refl _ _⟩⟩;clear q0 q1 p4 p8 NEW hB6
   go_upto_region 3 with fail
   go_cut [] (fun z=>Z0 z B b R2 x/\Tch b W x z x)
   case first=>
    refine Zn (C:=fun w'=>∃ u:BW w6,w'=u.w) _ (by kernel_rfl) rfl (by kernel_rfl) ⟨⟨_,(Below.refl _ _).drew⟩,rfl⟩ ?_;simp only [List.dropLast_cons_cons,List.dropLast_singleton]
    repeat (first | go_big_quiet_step ((fail)))
    refine wpQuiet_nil ?_;intro w7 hww7;have hb_w7:Below w6.heap.size w6 w7:=(by obtain ⟨u,rfl⟩:=hww7;exact u.h);clear hww7;obtain ⟨e1,e2,e3,e4⟩:=HSt.out w7 (HCW.out.below (HB6.out.trans (hb_w7.mono HB6.out.size)));refine Xm (.tmp 29) (.tmp 27) rfl rfl rfl e1 e2 rfl ?_;have HF:Hid _:=e3;have HTF:Hid (Tch b W x _ x):=(Tch.below0 _ _ (HB6.out.trans (hb_w7.mono HB6.out.size))).trans e4;clear e1 e2 e3 e4
    go_wp2_with fail
    go_meet;exact ⟨HF.out,HTF.out⟩
   case rest=>
    obtain ⟨hC,hT⟩:=hcut;obtain ⟨w8,hw8⟩:∃ z,z=wc:=⟨_,rfl⟩;rw [<-hw8] at hC hT;subst hw8;have HC8:Hid _:=hC;have HT8:Hid _:=hT;have t1:w8.cell? ⟨w.heap.size,1,none⟩=some (.int .i64 m.fr):=(hT.blk HMW.out HnW.out).cell 1;clear hC hT s0 s1 s4 s8 NE6
    go_wp2_with (first
     |(go_at_call 157;refine Calls.mono (HSe.out _ HC8.out) ?_;rintro e w9 ⟨rfl,v9,m9,h9,t9⟩;have H9:Hid _:=h9;have T9:Hid _:=Tch.head HBW.out (HT8.out.trans t9);clear h9 t9))
    go_ret;exact ⟨rfl,_,H9.out,T9.out⟩
end Go.Proofs.YtmmpoppgabadmaaGreat
namespace Go.Proofs.YtmmpoppgabadmaaGreat
open Go.RowKit Go.Maps
theorem partsI_step (log es:List Ent)(p n:Nat)(h:n<=Y0 log p es)(hn:n<es.length):(n<Y0 log p es)↔(log[p+n]?.map (·.t))=some (es[n]).t:=by
 induction es generalizing p n with
 | nil=>simp at hn
 | cons e es ih=>
  rw [Y0] at h ⊢
  cases n with
  | zero=>
   simp only [Nat.add_zero,List.getElem_cons_zero];split
   ·rename_i he;simp [he]
   ·rename_i he;simp [he]
  | succ n=>
   split at h
   ·rename_i he
    rw [if_pos he];have h2:n<=Y0 log (p+1) es:=by omega
    have h3:n<es.length:=by simpa using hn
    have:=ih (p+1) n h2 h3;rw [List.getElem_cons_succ,show p+(n+1)=p+1+n by omega,<-this];omega
   ·omega
theorem Z5g (log es:List Ent)(p:Nat):Y0 log p es<=es.length:=by
 induction es generalizing p with
 | nil=>exact Nat.le_refl _
 | cons e es ih=>
  rw [Y0];have:=ih (p+1);split
  ·simp only [List.length_cons];omega
  ·simp
theorem known_any (b:Nat)(r:Rn)(x:CV)(m:Mg)(ea:Option Addr)(ec LI:Nat)(w:World)(B:Nat)(h:Z0 w B b r x)(hll:r.n.log.length<=4096)(he:Es w (.slice ea m.es.length ec) m.es)(hel:m.es.length<=1048576)(hLI:m.li=(LI:Int))(hLl:LI<=r.n.log.length) :
  Calls Tryz.prog 181 #[.pointer (some ⟨b,0,none⟩),.agg #[.int .i64 m.ki,.int .i64 m.fr,.int .i64 m.td,.int .i64 m.tm,.int .i64 m.li,.int .i64 m.lt,.int .i64 m.cm,.int .i64 m.ok,.int .i64 m.hi,.slice ea m.es.length ec]] w fun e w'=>e=.returned (.int .i64 (Y0 r.n.log LI m.es:Int))/\Below w.heap.size w w':=by
 obtain ⟨la,lc,hvl⟩:=h.log.shape;have HEl:Hid (∀ z,Below w.heap.size w z->Es z (.slice la r.n.log.length lc) r.n.log):=fun z hz=>by rw [<-hvl];exact (h.below hz).es hll
 have HEe:Hid (∀ z,Below w.heap.size w z->Es z (.slice ea m.es.length ec) m.es):=fun z hz=>he.below hz
 obtain ⟨EN,hEN⟩:∃ EN,EN=m.es.length:=⟨_,rfl⟩;obtain ⟨LN,hLN⟩:∃ LN,LN=r.n.log.length:=⟨_,rfl⟩;have HEN:Hid _:=hEN;have HLN:Hid _:=hLN;rw [<-hEN] at HEe hel ⊢;rw [<-hLN] at HEl hll hLl hvl;obtain ⟨W,hW⟩:∃ W,W=w.alloc (.cells #[.int .i64 m.ki,.int .i64 m.fr,.int .i64 m.td,.int .i64 m.tm,.int .i64 m.li,.int .i64 m.lt,.int .i64 m.cm,.int .i64 m.ok,.int .i64 m.hi,.slice ea EN ec] 43):=⟨_,rfl⟩;have HBW:Hid (Below w.heap.size w W):=by unfold Hid;rw [hW];exact Below.alloc0 _
 have HMW:Hid (Blk W w.heap.size #[.int .i64 m.ki,.int .i64 m.fr,.int .i64 m.td,.int .i64 m.tm,.int .i64 m.li,.int .i64 m.lt,.int .i64 m.cm,.int .i64 m.ok,.int .i64 m.hi,.slice ea EN ec] 43):=by unfold Hid;rw [hW];exact Blk.new _ _ _
 have HCW:Hid (Z0 W B b r x):=h.below HBW.out;have HC:Hid (∀ z,Below W.heap.size W z->z.cell? ⟨b,12,none⟩=some (.slice la LN lc)/\z.cell? ⟨w.heap.size,4,none⟩=some (.int .i64 (LI:Int))/\z.cell? ⟨w.heap.size,9,none⟩=some (.slice ea EN ec)):=fun z hz=>⟨by rw [<-hvl];exact (HCW.out.below hz).blk.cell 12,by rw [<-hLI];exact (HMW.out.below hz HMW.out.lt).cell 4,(HMW.out.below hz HMW.out.lt).cell 9⟩
 obtain ⟨K,hK⟩:∃ K,K=Y0 r.n.log LI m.es:=⟨_,rfl⟩;have HK:Hid _:=hK;have hKl:K<=EN:=by rw [hK,hEN];exact Z5g _ _ _
 rw [<-hK];have hlt:=h.lt;clear h hvl he hEN hLN hLI hK;go_enter Tryz.func181,Tryz.ntmps181
 go_upto_region 1 with fail
 rw [<-hW];clear hW;go_wp2
 go_loopw [5] (fun iv wr=>∃ n:Nat,n<=K/\iv=.int .i64 (n:Int)/\Below W.heap.size W wr) (fun iv _=>EN-(RowKit.intOf iv).toNat)
 case atStart=>exact ⟨0,Nat.zero_le _,rfl,Below.refl _ _⟩
 case round=>
  obtain ⟨n,hn,rfl,hB⟩:=hrel;obtain ⟨wq,hwq⟩:∃ z,z=wr:=⟨_,rfl⟩;rw [<-hwq] at hB;subst hwq;have HB:Hid _:=hB;obtain ⟨d12,m4,m9⟩:=HC.out wq hB;have hBw:Below w.heap.size w wq:=HBW.out.trans (hB.mono HBW.out.size);have hwl:IntKind.i64.wrap ((LI:Int)+(n:Int))=(LI:Int)+(n:Int):=by rw [IntKind.wrap_i64];omega
  clear hB;by_cases h1:n<EN
  ·have h1d:decide ((n:Int)<(EN:Int))=true:=decide_eq_true (by omega)
   have hst:=partsI_step r.n.log m.es LI n (by rw [<-HK.out];exact hn) (by rw [<-HEN.out];exact h1);rw [<-HK.out] at hst;by_cases h2:LI+n<LN
   ·have h2d:decide ((LI:Int)+(n:Int)<(LN:Int))=true:=decide_eq_true (by omega)
    rw [List.getElem?_eq_getElem (by rw [<-HLN.out];exact h2)] at hst;simp only [Option.map_some,Option.some.injEq] at hst;obtain ⟨lg,lo,rfl,cl⟩:=Z1q (HEl.out wq hBw) (LI+n) (by rw [<-HLN.out];exact h2);obtain ⟨eg,eo,rfl,ce⟩:=Z1q (HEe.out wq hBw) n (by rw [<-HEN.out];exact h1);have HSt:Hid _:=hst;clear hst;generalize (r.n.log[LI+n]'(by rw [<-HLN.out];exact h2)).t=T1 at *;generalize (m.es[n]'(by rw [<-HEN.out];exact h1)).t=T2 at *;have hb1:(0:Int)<=(LI:Int)+(n:Int):=by omega
    have hb2:(LI:Int)+(n:Int)<(LN:Int):=by omega
    have hb3:((LI:Int)+(n:Int)).toNat=LI+n:=by omega
    have hb4:(0:Int)<=(n:Int):=by omega
    have hb5:(n:Int)<(EN:Int):=by omega
    have hb6:((n:Int)).toNat=n:=by omega
    cases h3:(T1 == T2)
    ·have HE:Hid (n=K):=by
      unfold Hid;by_cases h9:n<K
      ·have:=HSt.out.1 h9
       rw [this] at h3;simp at h3
      ·omega
     have HRes:Hid ((n:Int)=(K:Int)):=by unfold Hid;rw [HE.out]
     go_upto_region 2 with fail
     go_quiet (fail)
     go_wp2;go_ret;exact ⟨by rw [<-HRes.out];rfl,(hBw.trans (Zo _ _ _))⟩
    ·have HE:Hid (n<K):=by
      unfold Hid;refine HSt.out.2 ?_;simpa using h3
     go_upto_region 2 with fail
     go_quiet (fail)
     go_wp2
     go_roundw
     case rel=>exact ⟨n+1,HE.out,by go_num,HB.out.trans (Zo _ _ _)⟩
     case measure=>simp [RowKit.intOf];omega
   ·have h2d:decide ((LI:Int)+(n:Int)<(LN:Int))=false:=decide_eq_false (by omega)
    have HE:Hid (n=K):=by
     unfold Hid;by_cases h9:n<K
     ·have:=hst.1 h9
      rw [List.getElem?_eq_none (by have:=HLN.out;omega)] at this;cases this
     ·omega
    have HRes:Hid ((n:Int)=(K:Int)):=by unfold Hid;rw [HE.out]
    clear hst
    go_upto_region 2 with fail
    go_quiet (fail)
    go_wp2;go_ret;exact ⟨by rw [<-HRes.out];rfl,(hBw.trans (Zo _ _ _))⟩
  ·have h1d:decide ((n:Int)<(EN:Int))=false:=decide_eq_false (by omega)
   have HRes:Hid ((n:Int)=(K:Int)):=by unfold Hid;omega
   go_upto_region 2 with fail
   go_quiet (fail)
   go_wp2;go_ret;exact ⟨by rw [<-HRes.out];rfl,(hBw.trans (Zo _ _ _))⟩
end Go.Proofs.YtmmpoppgabadmaaGreat
namespace Go.Proofs.YtmmpoppgabadmaaGreat
open Go.RowKit Go.Maps
theorem Z5f {w:World}{ops:Array Oper}{rest:List Oper}{o:Oper}{a:Act}{Q:Exit->Act->World->Prop}(hgd:o.guard=none)(s x:Operand)
  (ho:o.op=.call { callee:=.builtin .append,args:=#[s,x],argTypes:=#[34,34] })
  (g n:Nat) (l es:List Ent) (hf:∀ e∈l ++ es,e.fits) (hs:a.eval s=.slice (some ⟨g,0,none⟩) n n) (hln:l.length=n) (hl:∀ j u,(Zu l)[j]? = some u->w.cell? ((⟨g,0,none⟩:Addr).add j)=some u) (A:Addr) (c:Nat) (hu:∀ j u,(Zu es)[j]? = some u->w.cell? (A.add j)=some u) (hx:a.eval x=.slice (some A) es.length c) (hlen:l.length+es.length<=2000000) (he0:0<es.length)
  (h:∀ v' w',Zd w' w.heap.size v' (l ++ es)->w.grownBy w' none->wpList Tryz.prog ops Q rest (a.put o.dst v') w'):wpList Tryz.prog ops Q (o :: rest) a w:=by
 obtain ⟨i0,hi,hz0,hz1,hz2⟩:=info_parts infoEnt;refine wpList_plain hgd fun K hK'=>?_
 obtain ⟨v',w',hrun,r1,r2⟩:=run_append_arg_grows (P:=Tryz.prog) w 34 o.type 118 i0 _ 7 80 Tryz.underlying34 hi hz0 hz1 hz2 rfl (by decide) ⟨g,0,none⟩ n n (Zu l) (by rw [Jz,hln]) hl A es.length c (Zu es) (Jz es) hu (by omega) (by unfold maxLen;omega) (by omega);unfold Oper.wp;simp [execOp,ho,resolve,invoke,builtin,hs,hx,hrun,Result.andThen];refine hK' _ _ (h v' w' ⟨hf,?_⟩ r2);rw [Z0q,List.length_append,hln];exact r1
theorem ownE_new {w:World}{B:Nat}{v:Value}{l:List Ent}(h:Zd w B v l)(hl:0<l.length):∃ k,v.ownBlock=some k/\B<=k:=by
 obtain ⟨g,cap,rfl⟩:=h.shape' hl;exact ⟨g,rfl,(World.ownsRow.lt h.2 g rfl).1⟩
theorem run_slice3 (u:World)(g LN lc K:Nat)(h:K<=LN)(hc:LN<=lc) :
  (Instr.slice 34 (.slice (some ⟨g,0,none⟩) LN lc) none (some (.int .i64 (K:Int))) (some (.int .i64 (K:Int)))).run Tryz.prog u=.ok (.slice (some ⟨g,0,none⟩) K K) u:=by
 have h7:(sizeOf 118).run Tryz.prog u=.ok 7 u:=by kernel_rfl
 have h1:(0:Int)<=(K:Int):=by omega
 have h2:(K:Int)<=(lc:Int):=by omega
 have hb:(Instr.sliceBounds true LN lc none (some (.int .i64 (K:Int))) (some (.int .i64 (K:Int)))).run Tryz.prog u=.ok (0,K,K) u:=by
  simp [Instr.sliceBounds,run_sliceBound,h1,h2,go_sem]
 simp [Instr.slice,run_underlying Tryz.underlying34,hb,h7,Result.andThen,go_sem];have h3:K<=lc:=by omega
 simp [h3]
theorem replace_any (b:Nat)(r:Rn)(x:CV)(K:Nat)(A:Addr)(ec:Nat)(es:List Ent)(w:World)(B:Nat)(h:Z0 w B b r x)(hll:r.n.log.length<=4096)(hK:K<=r.n.log.length)(he:Es w (.slice (some A) es.length ec) es)(hel:es.length<=1048576)(he0:0<es.length) :
  Calls Tryz.prog 182 #[.pointer (some ⟨b,0,none⟩),.int .i64 (K:Int),.slice (some A) es.length ec] w fun e w'=>e=.returned (.tuple #[])/\∃ v,Z0 w' B b { r with n:={ r.n with log:=r.n.log.take K ++ es } } { x with vl:=v,kp:=(K:Int) }/\Tch b w x w' { x with vl:=v,kp:=(K:Int) }:=by
 have HR:Hid _:=h
 have HEc:Hid (∀ j u,(Zu es)[j]? = some u->w.cell? (A.add j)=some u):=by
  obtain ⟨_,_,a',c',e1,hc⟩:=he;simp only [Value.slice.injEq] at e1;obtain ⟨rfl,-,rfl⟩:=e1;obtain ⟨g,off,e2,hj⟩:=hc 0 he0;injection e2 with e2;subst e2;exact Z48 hj
 have HEf:Hid (∀ e∈es,e.fits):=he.2.1;obtain ⟨la,lc,hvl⟩:=h.log.shape;obtain ⟨LN,hLN⟩:∃ LN,LN=r.n.log.length:=⟨_,rfl⟩;rw [<-hLN] at hvl hll hK;have HLN:Hid _:=hLN;have HVl:Hid (x.vl=.slice la LN lc):=hvl;have c12:w.cell? ⟨b,12,none⟩=some (.slice la LN lc):=by rw [<-hvl];exact h.blk.cell 12
 have hlt:=h.lt;have hBw:B<=w.heap.size:=Nat.le_trans h.lo (Nat.le_of_lt h.lt)
 have HFin:Hid (∀ w3 v,Zd w3 B v (r.n.log.take K ++ es)->Jy w (.slice la LN lc) w3 v->(∃ u,w3.cell? ⟨b,12,none⟩=some u)/\w3.frozen? ⟨b,12,none⟩=false/\(∃ u,(w3.setCell ⟨b,12,none⟩ v).cell? ⟨b,22,none⟩=some u)/\(w3.setCell ⟨b,12,none⟩ v).frozen? ⟨b,22,none⟩=false/\Z0 ((w3.setCell ⟨b,12,none⟩ v).setCell ⟨b,22,none⟩ (.int .i64 (K:Int))) B b { r with n:={ r.n with log:=r.n.log.take K ++ es } } { x with vl:=v,kp:=(K:Int) }/\Tch b w x ((w3.setCell ⟨b,12,none⟩ v).setCell ⟨b,22,none⟩ (.int .i64 (K:Int))) { x with vl:=v,kp:=(K:Int) }):=fun w3 v ho hg=>by
  rw [<-HVl.out] at hg;obtain ⟨h1,h2⟩:=HR.out.logAt (Below.refl _ _) ho hg;have hb3:Blk w3 b (crC r x) 80:=HR.out.blk.keep (hg.g.block b hlt (fun e=>(HR.out.bf.2.2.2.1 b e.symm).1 rfl));refine ⟨⟨_,hb3.cell 12⟩,hb3.free 12,⟨_,h1.blk.cell 22⟩,h1.blk.free 22,?_,?_⟩
  ·exact h1.re (r':={ r with n:={ r.n with log:=r.n.log.take K ++ es } }) (kp':=(K:Int)) (h1.blk.set 22 _) (fun k hk _=>Below.heap_setCell _ _ _ _ hk) rfl rfl rfl rfl rfl rfl rfl rfl rfl Iff.rfl
  ·have h3:=h2.trans (Tch.set b _ { x with vl:=v } 22 (.int .i64 (K:Int)))
   exact ⟨h3.os,h3.tape,h3.output,h3.size,h3.block,h3.at'⟩
 by_cases hf:K=LN
 ·have HTk:Hid (r.n.log.take K=r.n.log):=by unfold Hid;rw [List.take_of_length_le (by omega)]
  have HOl:Hid (Zd w B (.slice la LN lc) r.n.log):=by unfold Hid;rw [<-hvl];exact h.log
  have hd:decide ((K:Int)<(LN:Int))=false:=decide_eq_false (by omega);have hdn:¬(K:Int)<(LN:Int):=by omega
  rw [HTk.out] at HFin ⊢;clear h hvl he hLN hf;go_enter Tryz.func182,Tryz.ntmps182
  go_wp2_with (at_builtin;refine Z39 rfl (.tmp 22) (.tmp 23) rfl es HEf.out HOl.out rfl A ec HEc.out rfl (by have:=HLN.out;omega) hBw ?_;intro v3 w3 ho3 hg3;obtain ⟨a3,c3,e3⟩:=ho3.shape;have HV3:Hid _:=e3;obtain ⟨⟨u1,p12⟩,p12f,⟨u2,p22⟩,p22f,h4,h5⟩:=HFin.out w3 v3 ho3 hg3;have HF:Hid _:=And.intro h4 h5;generalize (r.n.log ++ es).length=L3 at *;subst e3;clear ho3 hg3 h4 h5)
  (try simp only [Exit.inBlock,Exit.then])
  exact bodyPost_end (results_none rfl _ _ _) rfl ⟨rfl,_,HF.out⟩
 ·obtain ⟨g,cap,hvl2⟩:=h.log.shape' (by omega)
  rw [<-hLN] at hvl2;rw [hvl] at hvl2;simp only [Value.slice.injEq] at hvl2;obtain ⟨rfl,-,rfl⟩:=hvl2;have hcap:LN<=lc:=by have h9:=h.log;rw [hvl] at h9;exact h9.capI
  have HOc:Hid (∀ j u,(Zu (r.n.log.take K))[j]? = some u->w.cell? ((⟨g,0,none⟩:Addr).add j)=some u):=by
   have h9:=(h.es (by omega)).2.2;obtain ⟨a',c',e1,hc⟩:=h9;rw [hvl] at e1;simp only [Value.slice.injEq] at e1;obtain ⟨e1,-,-⟩:=e1;intro j u hj;obtain ⟨g',off,e2,hjj⟩:=hc 0 (by omega);rw [<-e1] at e2;injection e2 with e2;injection e2 with e3 e4;subst e3;subst e4;have hall:=Z48 hjj;refine hall j u ?_;have h7:Zu r.n.log=Zu (r.n.log.take K) ++ Zu (r.n.log.drop K):=by rw [<-Z0q,List.take_append_drop]
   rw [h7,List.getElem?_append_left (List.getElem?_eq_some_iff.1 hj).1];exact hj
  have HFt:Hid (∀ e∈r.n.log.take K ++ es,e.fits):=fun e hm=>(List.mem_append.1 hm).elim (fun h9=>h.log.1 e (List.mem_of_mem_take h9)) (HEf.out e)
  have HLk:Hid ((r.n.log.take K).length=K):=by unfold Hid;rw [List.length_take];omega
  have hd:decide ((K:Int)<(LN:Int))=true:=decide_eq_true (by omega);have hdn:(K:Int)<(LN:Int):=by omega
  have hsl:∀ u,(Instr.slice 34 (.slice (some ⟨g,0,none⟩) LN lc) none (some (.int .i64 (K:Int))) (some (.int .i64 (K:Int)))).run Tryz.prog u=.ok (.slice (some ⟨g,0,none⟩) K K) u:=fun u=>run_slice3 u g LN lc K hK hcap
  clear h hvl he hLN hf;go_enter Tryz.func182,Tryz.ntmps182
  go_wp2_with (at_builtin;refine Z5f rfl (.tmp 22) (.tmp 23) rfl g K (r.n.log.take K) es HFt.out rfl HLk.out HOc.out A ec HEc.out rfl (by rw [HLk.out];omega) he0 ?_;intro v3 w3 ho3 hg3;obtain ⟨a3,c3,e3⟩:=ho3.shape;have hGr:Jy w (.slice (some ⟨g,0,none⟩) LN lc) w3 v3:=⟨hg3.but _,.inr (ownE_new ho3 (by rw [List.length_append];omega))⟩;obtain ⟨⟨u1,p12⟩,p12f,⟨u2,p22⟩,p22f,h4,h5⟩:=HFin.out w3 v3 (ho3.le hBw) hGr;have HF:Hid _:=And.intro h4 h5;generalize (r.n.log.take K ++ es).length=L3 at *;subst e3;clear ho3 hg3 h4 h5 hGr)
  (try simp only [Exit.inBlock,Exit.then])
  exact bodyPost_end (results_none rfl _ _ _) rfl ⟨rfl,_,HF.out⟩
end Go.Proofs.YtmmpoppgabadmaaGreat
