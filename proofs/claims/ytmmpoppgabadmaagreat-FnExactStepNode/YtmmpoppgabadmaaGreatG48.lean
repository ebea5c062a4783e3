import Derived.Test.YtmmpoppgabadmaaGreatG45
set_option linter.unusedVariables false
set_option linter.unusedSimpArgs false
set_option maxRecDepth 100000
set_option maxHeartbeats 16000000
namespace Go.Proofs.YtmmpoppgabadmaaGreat
open Go.RowKit Go.Maps
def Rn.seen (r:Rn)(m:Mg):Rn:={ r with n:={ r.n with se:=r.n.se.set (m.fr-1).toNat r.n.nw } }
def Rn.taken (r:Rn)(m:Mg)(MT NX:Int):Rn:={ r with n:={ r.n with mt:=r.n.mt.set (m.fr-1).toNat MT,nx:=r.n.nx.set (m.fr-1).toNat NX } }
def Rn.agree (r:Rn):Rn:={ r with n:={ r.n with cm:=(Yt r.n r.n.cm.toNat r.n.log.length:Int) } }
theorem appReplyI_eq (r:Rn)(m:Mg)(h1:r.n.ro=3)(h2:m.tm=r.n.tm):r.appReply m=if m.ok=0 then (r.seen m).back m else if (r.n.log.length:Int)<m.li then (r.seen m).stale else
  if max (r.n.nx.getD (m.fr-1).toNat 0) (max (r.n.mt.getD (m.fr-1).toNat 0) m.li+1)<=r.n.log.length then (((r.seen m).taken m (max (r.n.mt.getD (m.fr-1).toNat 0) m.li) (max (r.n.nx.getD (m.fr-1).toNat 0) (max (r.n.mt.getD (m.fr-1).toNat 0) m.li+1))).agree).sendE (m.fr-1).toNat else ((r.seen m).taken m (max (r.n.mt.getD (m.fr-1).toNat 0) m.li) (max (r.n.nx.getD (m.fr-1).toNat 0) (max (r.n.mt.getD (m.fr-1).toNat 0) m.li+1))).agree:=by
 unfold Rn.appReply;rw [if_neg (by omega),if_neg (by omega)];rfl
theorem Z5n (r:Rn)(m:Mg)(h:r.n.ro≠3∨m.tm≠r.n.tm):r.appReply m=r.takeTerm m.tm:=by
 unfold Rn.appReply Rn.takeTerm;by_cases h1:r.n.tm<m.tm
 ·rw [if_pos h1,if_pos h1]
 ·rw [if_neg h1,if_neg h1,if_pos (h.imp id (fun h=>by omega))]
theorem Z2m (b:Nat)(r:Rn)(x:CV)(m:Mg)(J:Nat)(ea:Option Addr)(en ec:Nat)(w:World)(B:Nat)(h:Z0 w B b r x)(hc:r.code=0)(hl:x.L.length<=900)(hb:NdB r.n)(hd : -(2^63)<=r.draw)(hD:r.draw<2^63)(hJ:m.fr=(J:Int)+1)(hJs:(J:Int)+1<=r.n.sz)(hJi:(J:Int)+1≠r.n.id)(hLd:r.n.ro=3->LdM r.n r.n.sz.toNat)(hcm0:0<=r.n.cm)(li0:0<=m.li)(li1:m.li<=4096)(hi0:0<=m.hi)(hi1:m.hi<=4096)(hLR:LogR r.n) :
  Calls Tryz.prog 135 #[.pointer (some ⟨b,0,none⟩),.agg #[.int .i64 m.ki,.int .i64 m.fr,.int .i64 m.td,.int .i64 m.tm,.int .i64 m.li,.int .i64 m.lt,.int .i64 m.cm,.int .i64 m.ok,.int .i64 m.hi,.slice ea en ec]] w fun e w'=>e=.returned (.int .i64 (r.appReply m).code)/\∃ x',Z0 w' B b (r.appReply m) x'/\Tch b w x w' x':=by
 obtain ⟨W,hW⟩:∃ W,W=w.alloc (.cells #[.int .i64 m.ki,.int .i64 m.fr,.int .i64 m.td,.int .i64 m.tm,.int .i64 m.li,.int .i64 m.lt,.int .i64 m.cm,.int .i64 m.ok,.int .i64 m.hi,.slice ea en ec] 43):=⟨_,rfl⟩;have HBW:Hid (Below w.heap.size w W):=by unfold Hid;rw [hW];exact Below.alloc0 _
 have HMW:Hid (Blk W w.heap.size #[.int .i64 m.ki,.int .i64 m.fr,.int .i64 m.td,.int .i64 m.tm,.int .i64 m.li,.int .i64 m.lt,.int .i64 m.cm,.int .i64 m.ok,.int .i64 m.hi,.slice ea en ec] 43):=by unfold Hid;rw [hW];exact Blk.new _ _ _
 have HCW:Hid (Z0 W B b r x):=h.below HBW.out;have HnW:Hid (¬ x.has b w.heap.size):=h.hasnt_new (Nat.le_refl _);have hln:=hb.ln;have z1:=h.ci.sz1;have q6:∀ u:BW W,u.w.cell? ⟨b,6,none⟩=some (.int .i64 r.n.ro):=fun u=>(HCW.out.below u.h).blk.cell 6
 have q4:∀ u:BW W,u.w.cell? ⟨b,4,none⟩=some (.int .i64 r.n.tm):=fun u=>(HCW.out.below u.h).blk.cell 4
 have q3:∀ u:BW W,u.w.cell? ⟨w.heap.size,3,none⟩=some (.int .i64 m.tm):=fun u=>(HMW.out.below u.h HMW.out.lt).cell 3
 have NEW:Nonempty (BW W):=⟨⟨W,Below.refl _ _⟩⟩;by_cases hot:r.n.ro≠3∨m.tm≠r.n.tm
 ·have HQ:Hid (r.appReply m=r.takeTerm m.tm):=Z5n r m hot
  have HTt:Hid (∀ z,Below W.heap.size W z->Calls Tryz.prog 166 #[.pointer (some ⟨b,0,none⟩),.int .i64 m.tm] z fun e w'=>e=.returned (.int .i64 (r.takeTerm m.tm).code)/\∃ x',Z0 w' B b (r.takeTerm m.tm) x'/\Tch b z x w' x'):=fun z hz=>Z1v b r x m.tm z B (HCW.out.below hz) hd hD hb.nw0 hb.nw1 hc
  have HM6:Hid (∀ z,Below W.heap.size W z->z.cell? ⟨w.heap.size,3,none⟩=some (.int .i64 m.tm)):=fun z hz=>(HMW.out.below hz HMW.out.lt).cell 3
  rw [HQ.out];generalize r.takeTerm m.tm=RP at *;clear h HQ hJ hJs hJi hLd;go_enter Tryz.func135,Tryz.ntmps135
  go_upto_region 1 with fail
  rw [<-hW];clear hW
  go_cut [21] (fun s z=>s=.bool true/\Below W.heap.size W z)
  case first=>
   cases h1:(r.n.ro != 3)
   ·have h2:(m.tm != r.n.tm)=true:=by
     have h3:r.n.ro=3:=by simpa using h1
     have:=hot.resolve_left (fun h=>h h3);simpa using this
    refine wp_region_quiet (C:=fun w'=>∃ u:BW W,w'=u.w) (by kernel_rfl) (by kernel_rfl) ⟨⟨_,(Below.refl _ _).drew⟩,rfl⟩ ?_;rw [List.toList_toArray]
    repeat (first | go_big_quiet_step ((fail)))
    refine wpQuiet_nil ?_;intro w5 hww5;have hb_w5:Below W.heap.size W w5:=(by obtain ⟨u,rfl⟩:=hww5;exact u.h);clear hww5
    go_wp2_with fail
    go_meet;exact ⟨rfl,hb_w5⟩
   ·skip
    refine wp_region_quiet (C:=fun w'=>∃ u:BW W,w'=u.w) (by kernel_rfl) (by kernel_rfl) ⟨⟨_,(Below.refl _ _).drew⟩,rfl⟩ ?_;rw [List.toList_toArray]
    repeat (first | go_big_quiet_step ((fail)))
    refine wpQuiet_nil ?_;intro w5 hww5;have hb_w5:Below W.heap.size W w5:=(by obtain ⟨u,rfl⟩:=hww5;exact u.h);clear hww5
    go_wp2_with fail
    go_meet;exact ⟨rfl,hb_w5⟩
  case rest=>
   obtain ⟨rfl,hB6⟩:=hcut;obtain ⟨w6,hw6⟩:∃ z,z=wc:=⟨_,rfl⟩;rw [<-hw6] at hB6;subst hw6;have HB6:Hid _:=hB6;have p3:=HM6.out w6 hB6;have HT6:Hid _:=HTt.out w6 hB6;clear q6 q4 q3 NEW hB6 HTt
   go_wp2_with (first
    |(go_at_call 166;refine Calls.mono HT6.out ?_;rintro e w7 ⟨rfl,x7,h7,t7⟩;have H7:Hid _:=h7;have T7:Hid _:=Tch.head HBW.out (Tch.head HB6.out t7);clear h7 t7))
   go_ret;exact ⟨rfl,_,H7.out,T7.out⟩
 have hro:r.n.ro=3:=by omega
 have htm:m.tm=r.n.tm:=by omega
 have hLm:=hLd hro;have hfr:(m.fr-1).toNat=J:=by omega
 have HApp:Hid _:=appReplyI_eq r m hro htm;obtain ⟨q,hq⟩:=Option.isSome_iff_exists.1 ((h.pk m.fr).2 ⟨hro,by omega,by omega,by omega⟩);have HQ:Hid (x.f m.fr=some q):=hq;obtain ⟨NX,hNX⟩:∃ NX,NX=r.n.nx.getD (m.fr-1).toNat 0:=⟨_,rfl⟩;obtain ⟨MT,hMT⟩:∃ MT,MT=r.n.mt.getD (m.fr-1).toNat 0:=⟨_,rfl⟩;rw [<-hNX,<-hMT] at HApp;have hJn:J<r.n.nx.length:=by rw [hLm.ldb.nxl];omega
 have hJm:J<r.n.mt.length:=by rw [hLm.mtl];omega
 have hNXb:1<=NX/\NX<=(r.n.log.length:Int)+1:=by
  obtain ⟨P,h1,h2⟩:=hLm.ldb.nx J hJn (by omega);rw [hNX,hfr,List.getD_eq_getElem?_getD,List.getElem?_eq_getElem hJn,h2];show 1<=(P:Int)+1/\(P:Int)+1<=_;omega
 have hMTb:0<=MT/\MT<NX:=by
  have h9:=hLm.mt J hJm hJn (by omega);rw [hNX,hMT,hfr,List.getD_eq_getElem?_getD,List.getElem?_eq_getElem hJm,List.getD_eq_getElem?_getD,List.getElem?_eq_getElem hJn];exact h9
 obtain ⟨R1,hR1⟩:∃ R1,R1=r.seen m:=⟨_,rfl⟩;rw [<-hR1] at HApp
 have HS1:Hid (∀ z,Z0 z B b r x->z.cell? ⟨b,9,none⟩=some (.int .i64 r.n.nw)/\(∃ u,z.cell? ⟨q,2,none⟩=some u)/\z.frozen? ⟨q,2,none⟩=false/\Z0 (z.setCell ⟨q,2,none⟩ (.int .i64 r.n.nw)) B b R1 x/\Tch b z x (z.setCell ⟨q,2,none⟩ (.int .i64 r.n.nw)) x):=fun z hz=>by
  have h9:=hz.seP HQ.out r.n.nw;refine ⟨hz.blk.cell 9,⟨_,(hz.pf _ _ HQ.out).1.cell 2⟩,(hz.pf _ _ HQ.out).1.free 2,?_,h9.2⟩;rw [hR1];exact h9.1
 have HPk:Hid (1<=m.fr/\m.fr<=r.n.sz/\m.fr≠r.n.id):=by unfold Hid;omega
 have hw3:=wf3 (x:=m.fr) (by omega) (by omega);have hnr:(r.n.ro != 3)=false:=by simp [hro]
 have hnt:(m.tm != r.n.tm)=false:=by simp [htm]
 have HMc:Hid (∀ z x',Tch b W x z x'->Blk z w.heap.size #[.int .i64 m.ki,.int .i64 m.fr,.int .i64 m.td,.int .i64 m.tm,.int .i64 m.li,.int .i64 m.lt,.int .i64 m.cm,.int .i64 m.ok,.int .i64 m.hi,.slice ea en ec] 43):=fun z x' ht=>ht.blk HMW.out HnW.out
 have HK1:Hid (R1.code=0):=by unfold Hid;rw [hR1];exact hc
 have HR1e:Hid (R1.n.ro=3/\R1.n.log=r.n.log/\R1.n.nx=r.n.nx/\R1.n.mt=r.n.mt/\R1.n.sz=r.n.sz/\R1.n.id=r.n.id/\R1.n.tm=r.n.tm/\R1.n.cm=r.n.cm/\R1.n.nw=r.n.nw/\NdB R1.n):=by
  unfold Hid;rw [hR1];exact ⟨hro,rfl,rfl,rfl,rfl,rfl,rfl,rfl,rfl,⟨hb.nw0,hb.nw1,hb.hd0,hb.hd1,hb.sz0,hb.sz1,hb.id0,hb.id1,hb.ln⟩⟩
 have HLens:Hid (r.n.nx.length=r.n.sz.toNat/\r.n.mt.length=r.n.sz.toNat):=⟨(h.ci.ld hro).1.1,(h.ci.ld hro).1.2.1⟩;have HLR:Hid _:=hLR;have HPml:Hid (∀ z,Z0 z B b r x->(Instr.lookup 78 (.map (some x.pm)) (.int .i64 m.fr) false).run Tryz.prog z=.ok (.pointer (some ⟨q,0,none⟩)) z):=fun z hz=>Z2w _ Tryz.underlying78 (zeroPt _) hz.pm hw3 _ (by rw [HQ.out];rfl)
 have HNXe:Hid (NX=R1.n.nx.getD (m.fr-1).toNat 0/\MT=R1.n.mt.getD (m.fr-1).toNat 0):=by unfold Hid;rw [HR1e.out.2.2.1,HR1e.out.2.2.2.1];exact ⟨hNX,hMT⟩
 obtain ⟨RP,hRP⟩:∃ RP,RP=r.appReply m:=⟨_,rfl⟩;rw [<-hRP] at HApp ⊢;clear h hq hNX hMT hR1 hLm hLd hot hro htm hRP hfr hJn hJm hLR hJ hJs hJi;go_enter Tryz.func135,Tryz.ntmps135
 go_upto_region 1 with fail
 rw [<-hW];clear hW
 go_cut [21] (fun s z=>s=.bool false/\Below W.heap.size W z)
 case first=>
  refine wp_region_quiet (C:=fun w'=>∃ u:BW W,w'=u.w) (by kernel_rfl) (by kernel_rfl) ⟨⟨_,(Below.refl _ _).drew⟩,rfl⟩ ?_;rw [List.toList_toArray]
  repeat (first | go_big_quiet_step ((fail)))
  refine wpQuiet_nil ?_;intro w5 hww5;have hb_w5:Below W.heap.size W w5:=(by obtain ⟨u,rfl⟩:=hww5;exact u.h);clear hww5
  go_wp2_with fail
  go_meet;exact ⟨rfl,hb_w5⟩
 case rest=>
  obtain ⟨rfl,hB6⟩:=hcut;obtain ⟨w6,hw6⟩:∃ z,z=wc:=⟨_,rfl⟩;rw [<-hw6] at hB6;subst hw6;have HB6:Hid _:=hB6;have s19:∀ u:BW w6,u.w.cell? ⟨b,19,none⟩=some (.map (some x.pm)):=fun u=>(HCW.out.below (HB6.out.trans (u.h.mono HB6.out.size))).blk.cell 19
  have s1:∀ u:BW w6,u.w.cell? ⟨w.heap.size,1,none⟩=some (.int .i64 m.fr):=fun u=>(HMW.out.below (HB6.out.trans (u.h.mono HB6.out.size)) HMW.out.lt).cell 1
  have slk:∀ u:BW w6,(Instr.lookup 78 (.map (some x.pm)) (.int .i64 m.fr) false).run Tryz.prog u.w=.ok (.pointer (some ⟨q,0,none⟩)) u.w:=fun u=>HPml.out u.w (HCW.out.below (HB6.out.trans (u.h.mono HB6.out.size)))
  have NE6:Nonempty (BW w6):=⟨⟨w6,Below.refl _ _⟩⟩;clear q6 q4 q3 NEW hB6
  go_upto_region 3 with fail
  go_cut [5] (fun s z=>s=.pointer (some ⟨q,0,none⟩)/\Below w6.heap.size w6 z)
  case first=>
   refine wp_region_quiet (C:=fun w'=>∃ u:BW w6,w'=u.w) (by kernel_rfl) (by kernel_rfl) ⟨⟨_,(Below.refl _ _).drew⟩,rfl⟩ ?_;rw [List.toList_toArray]
   repeat (first | go_big_quiet_step ((fail)))
   refine wpQuiet_nil ?_;intro w7 hww7;have hb_w7:Below w6.heap.size w6 w7:=(by obtain ⟨u,rfl⟩:=hww7;exact u.h);clear hww7
   go_wp2_with fail
   go_meet;exact ⟨rfl,hb_w7⟩
  case rest=>
   obtain ⟨rfl,hB7⟩:=hcut;obtain ⟨w7,hw7⟩:∃ z,z=wc:=⟨_,rfl⟩;rw [<-hw7] at hB7;subst hw7;have HB7:Hid (Below W.heap.size W w7):=HB6.out.trans (hB7.mono HB6.out.size);obtain ⟨e9,⟨ev,e2⟩,ef,hC8,hT8⟩:=HS1.out w7 (HCW.out.below HB7.out);have HC8:Hid _:=hC8;have HT8:Hid (Tch b W x _ x):=Tch.head HB7.out hT8;clear hB7 hC8 hT8 s19 s1 slk NE6
   go_upto_region 5 with fail
   generalize w7.setCell ⟨q,2,none⟩ (.int .i64 r.n.nw)=w8 at *;have HM8:Hid (Blk w8 w.heap.size _ 43):=HMc.out w8 x HT8.out;have n7:w8.cell? ⟨w.heap.size,7,none⟩=some (.int .i64 m.ok):=HM8.out.cell 7;have G1:Hid True:=trivial;by_cases hok:m.ok=0
   ·have HR:Hid (RP=R1.back m):=HApp.out.trans (if_pos hok)
    have hkb:(m.ok == 0)=true:=by simpa using hok
    have HSb:Hid (Calls Tryz.prog 173 #[.pointer (some ⟨b,0,none⟩),.agg #[.int .i64 m.ki,.int .i64 m.fr,.int .i64 m.td,.int .i64 m.tm,.int .i64 m.li,.int .i64 m.lt,.int .i64 m.cm,.int .i64 m.ok,.int .i64 m.hi,.slice ea en ec],.pointer (some ⟨q,0,none⟩)] w8 fun e w'=>e=.returned (.int .i64 RP.code)/\∃ x',Z0 w' B b RP x'/\Tch b w8 x w' x'):=by
     unfold Hid;rw [HR.out];refine stepBack_any b R1 x m ea en ec q w8 B HC8.out HK1.out hl HR1e.out.2.2.2.2.2.2.2.2.2 HR1e.out.1 HQ.out ?_ ?_ ?_ ?_ hi0 hi1 li0 li1
     ·rw [<-HNXe.out.1];exact hNXb.1
     ·rw [<-HNXe.out.1,HR1e.out.2.1];exact hNXb.2
     ·rw [<-HNXe.out.2];exact hMTb.1
     ·rw [<-HNXe.out.1,<-HNXe.out.2];exact hMTb.2
    clear hok HR HApp
    go_wp2_with (first
     |(have hBA:=G1;refine Z7 43 (.tmp 3) rfl ?_;clear hBA;refine Z3 rfl 43 (.tmp 3) rfl w.heap.size rfl HM8.out Tryz.underlying43 rfl Zy rfl ?_;clear G1)
     |(go_at_call 173;refine Calls.mono HSb.out ?_;rintro e w9 ⟨rfl,x9,h9,t9⟩;have H9:Hid _:=h9;have T9:Hid _:=Tch.head HBW.out (HT8.out.trans t9);clear h9 t9))
    go_ret;exact ⟨rfl,_,H9.out,T9.out⟩
   have hkb:(m.ok == 0)=false:=by simpa using hok
   have HApp2:Hid _:=HApp.out.trans (if_neg hok);obtain ⟨la,lc,hvl⟩:=HC8.out.log.shape;rw [HR1e.out.2.1] at hvl;obtain ⟨LN,hLN⟩:∃ LN,LN=r.n.log.length:=⟨_,rfl⟩;rw [<-hLN] at HApp2 hvl hln hNXb;have HLN:Hid _:=hLN;have HVl:Hid (x.vl=.slice la LN lc):=hvl;have ga4:∀ u:BW w8,u.w.cell? ⟨w.heap.size,4,none⟩=some (.int .i64 m.li):=fun u=>(HM8.out.below u.h HM8.out.lt).cell 4
   have ga12:∀ u:BW w8,u.w.cell? ⟨b,12,none⟩=some (.slice la LN lc):=fun u=>by rw [<-HVl.out];exact (HC8.out.below u.h).blk.cell 12
   have NE8:Nonempty (BW w8):=⟨⟨w8,Below.refl _ _⟩⟩;clear HApp hok hvl hLN n7;by_cases hlg:(LN:Int)<m.li
   ·have HR:Hid (RP=R1.stale):=HApp2.out.trans (if_pos hlg)
    have hgd:decide ((LN:Int)<m.li)=true:=decide_eq_true hlg;have n7:w8.cell? ⟨w.heap.size,7,none⟩=some (.int .i64 m.ok):=HM8.out.cell 7;clear HApp2
    go_upto_region 7 with fail
    refine wp_region_quiet (C:=fun w'=>∃ u:BW w8,w'=u.w) (by kernel_rfl) (by kernel_rfl) ⟨⟨_,(Below.refl _ _).drew⟩,rfl⟩ ?_;rw [List.toList_toArray]
    repeat (first | go_big_quiet_step ((fail)))
    refine wpQuiet_nil ?_;intro w9 hww9;have hb_w9:Below w8.heap.size w8 w9:=(by obtain ⟨u,rfl⟩:=hww9;exact u.h);clear hww9
    go_wp2_with fail
    go_ret;exact ⟨by rw [HR.out];rfl,x,by rw [HR.out];exact (HC8.out.below hb_w9).codeQ 3,Tch.head HBW.out (HT8.out.tail hb_w9)⟩
   have hgd:decide ((LN:Int)<m.li)=false:=decide_eq_false hlg;have HApp3:Hid _:=HApp2.out.trans (if_neg hlg);obtain ⟨M2,hM2⟩:∃ M2,M2=max MT m.li:=⟨_,rfl⟩;rw [<-hM2] at HApp3;obtain ⟨N2,hN2⟩:∃ N2,N2=max NX (M2+1):=⟨_,rfl⟩;rw [<-hN2] at HApp3;have hm1:(if MT<m.li then m.li else MT)=M2:=by rw [hM2];split <;> omega
   have hm2:(if m.li<MT then MT else m.li)=M2:=by rw [hM2];split <;> omega
   have hm3:(if NX<M2+1 then M2+1 else NX)=N2:=by rw [hN2];split <;> omega
   have hm4:(if M2+1<NX then NX else M2+1)=N2:=by rw [hN2];split <;> omega
   have hM2b:0<=M2/\M2<=(LN:Int)/\M2<N2/\1<=N2/\N2<=(LN:Int)+1:=by omega
   have hwm:IntKind.i64.wrap (M2+1)=M2+1:=by rw [IntKind.wrap_i64];omega
   obtain ⟨R2,hR2⟩:∃ R2:Rn,R2={ R1 with n:={ R1.n with mt:=R1.n.mt.set (m.fr-1).toNat M2 } }:=⟨_,rfl⟩;obtain ⟨R3,hR3⟩:∃ R3:Rn,R3=R1.taken m M2 N2:=⟨_,rfl⟩;rw [<-hR3] at HApp3
   have HS2:Hid (∀ z,Z0 z B b R1 x->z.cell? ⟨q,1,none⟩=some (.int .i64 MT)/\z.frozen? ⟨q,1,none⟩=false/\Z0 (z.setCell ⟨q,1,none⟩ (.int .i64 M2)) B b R2 x/\Tch b z x (z.setCell ⟨q,1,none⟩ (.int .i64 M2)) x):=fun z hz=>by
    have h9:=hz.mtP HQ.out M2;refine ⟨by rw [HNXe.out.2];exact (hz.pf _ _ HQ.out).1.cell 1,(hz.pf _ _ HQ.out).1.free 1,?_,h9.2⟩;rw [hR2];exact h9.1
   have HS3:Hid (∀ z,Z0 z B b R2 x->z.cell? ⟨q,0,none⟩=some (.int .i64 NX)/\z.cell? ⟨q,1,none⟩=some (.int .i64 M2)/\z.frozen? ⟨q,0,none⟩=false/\Z0 (z.setCell ⟨q,0,none⟩ (.int .i64 N2)) B b R3 x/\Tch b z x (z.setCell ⟨q,0,none⟩ (.int .i64 N2)) x):=fun z hz=>by
    have h9:=hz.nxP HQ.out N2;have h8:=(hz.pf _ _ HQ.out).1;have e0:=h8.cell 0;have e1:=h8.cell 1;rw [hR2] at e0 e1;refine ⟨by rw [HNXe.out.1];exact e0,?_,h8.free 0,?_,h9.2⟩
    ·rw [e1]
     show some (Value.int .i64 ((R1.n.mt.set (m.fr-1).toNat M2).getD (m.fr-1).toNat 0))=_;rw [Xk _ _ _ (by rw [HR1e.out.2.2.2.1,HLens.out.2];have:=HPk.out;omega)]
    ·have h7:=h9.1
     rw [hR3];rw [hR2] at h7;exact h7
   have HR3e:Hid (R3.n.ro=3/\R3.n.log=r.n.log/\R3.n.sz=r.n.sz/\R3.n.id=r.n.id/\R3.n.cm=r.n.cm/\R3.n.tm=r.n.tm/\R3.n.nx.getD (m.fr-1).toNat 0=N2/\R3.code=0):=by
    unfold Hid;rw [hR3];refine ⟨HR1e.out.1,HR1e.out.2.1,HR1e.out.2.2.2.2.1,HR1e.out.2.2.2.2.2.1,HR1e.out.2.2.2.2.2.2.2.1,HR1e.out.2.2.2.2.2.2.1,?_,HK1.out⟩;show (R1.n.nx.set (m.fr-1).toNat N2).getD (m.fr-1).toNat 0=N2;rw [Xk _ _ _ (by rw [HR1e.out.2.2.1,HLens.out.1];have:=HPk.out;omega)]
   have HCo:Hid (∀ z,Z0 z B b R3 x->Calls Tryz.prog 174 #[.pointer (some ⟨b,0,none⟩)] z fun e w'=>e=.returned (.tuple #[])/\Z0 w' B b R3.agree x/\Tch b z x w' x):=fun z hz=>commit_any b R3 x z B hz HR3e.out.1 (by rw [HR3e.out.2.1];have:=HLN.out;omega) (by rw [HR3e.out.2.2.2.2.1];exact hcm0) ⟨by rw [HR3e.out.2.1];exact HLR.out.rise,by rw [HR3e.out.2.1,HR3e.out.2.2.2.2.2.1];exact HLR.out.top⟩
   have HS4:Hid (∀ z,Z0 z B b R3.agree x->z.cell? ⟨q,0,none⟩=some (.int .i64 N2)/\z.cell? ⟨b,12,none⟩=some (.slice la LN lc)):=fun z hz=>by
    have e0:=(hz.pf _ _ HQ.out).1.cell 0;refine ⟨?_,by rw [<-HVl.out];exact hz.blk.cell 12⟩;rw [e0];show some (Value.int .i64 (R3.n.nx.getD (m.fr-1).toNat 0))=_;rw [HR3e.out.2.2.2.2.2.2.1]
   have HSe:Hid (N2<=(LN:Int)->∀ z,Z0 z B b R3.agree x->Calls Tryz.prog 157 #[.pointer (some ⟨b,0,none⟩),.int .i64 m.fr] z fun e w'=>e=.returned (.tuple #[])/\∃ v m',Z0 w' B b (R3.agree.sendE (m.fr-1).toNat) (x.sent v m')/\Tch b z x w' (x.sent v m')):=fun hle z hz=>Jn b R3.agree x m.fr (N2-1).toNat z B hz HR3e.out.1 HPk.out.1 (by show m.fr<=R3.n.sz;rw [HR3e.out.2.2.1];exact HPk.out.2.1) (by show m.fr≠R3.n.id;rw [HR3e.out.2.2.2.1];exact HPk.out.2.2) (by show R3.n.nx.getD (m.fr-1).toNat 0=_;rw [HR3e.out.2.2.2.2.2.2.1];omega) (by show _<=R3.n.log.length;rw [HR3e.out.2.1];have:=HLN.out;omega) (by show R3.n.log.length<=4096;rw [HR3e.out.2.1];have:=HLN.out;omega) (by omega)
   have n7:w8.cell? ⟨w.heap.size,7,none⟩=some (.int .i64 m.ok):=HM8.out.cell 7;clear HApp2 hlg hM2 hN2 hR2 hR3 HS1 HNXe
   go_upto_region 7 with fail
   go_cut [56] (fun s z=>s=.bool false/\Below w8.heap.size w8 z)
   case first=>
    refine wp_region_quiet (C:=fun w'=>∃ u:BW w8,w'=u.w) (by kernel_rfl) (by kernel_rfl) ⟨⟨_,(Below.refl _ _).drew⟩,rfl⟩ ?_;rw [List.toList_toArray]
    repeat (first | go_big_quiet_step ((fail)))
    refine wpQuiet_nil ?_;intro w9 hww9;have hb_w9:Below w8.heap.size w8 w9:=(by obtain ⟨u,rfl⟩:=hww9;exact u.h);clear hww9
    go_wp2_with fail
    go_meet;exact ⟨rfl,hb_w9⟩
   case rest=>
    obtain ⟨rfl,hB9⟩:=hcut;obtain ⟨w9,hw9⟩:∃ z,z=wc:=⟨_,rfl⟩;rw [<-hw9] at hB9;subst hw9;have HC9:Hid (Z0 w9 B b R1 x):=HC8.out.below hB9;have HT9:Hid (Tch b W x w9 x):=HT8.out.tail hB9;have HM9:Hid (Blk w9 w.heap.size _ 43):=HMc.out w9 x HT9.out;have v1:∀ u:BW w9,u.w.cell? ⟨q,1,none⟩=some (.int .i64 MT):=fun u=>(HS2.out u.w (HC9.out.below u.h)).1
    have v4:∀ u:BW w9,u.w.cell? ⟨w.heap.size,4,none⟩=some (.int .i64 m.li):=fun u=>(HM9.out.below u.h HM9.out.lt).cell 4
    have NE9:Nonempty (BW w9):=⟨⟨w9,Below.refl _ _⟩⟩;clear hB9 ga4 ga12 NE8 n7
    go_upto_region 9 with fail
    go_cut [] (fun z=>Z0 z B b R2 x/\Tch b W x z x)
    case first=>
     refine Zn (C:=fun w'=>∃ u:BW w9,w'=u.w) _ (by kernel_rfl) rfl (by kernel_rfl) ⟨⟨_,(Below.refl _ _).drew⟩,rfl⟩ ?_;simp only [List.dropLast_cons_cons,List.dropLast_singleton]
     repeat (first | go_big_quiet_step ((fail)))
     refine wpQuiet_nil ?_;intro wa hwwa;have hb_wa:Below w9.heap.size w9 wa:=(by obtain ⟨u,rfl⟩:=hwwa;exact u.h);clear hwwa;obtain ⟨e1,e2,e3,e4⟩:=HS2.out wa (HC9.out.below hb_wa);refine Xm (.tmp 66) (.tmp 64) rfl rfl rfl e1 e2 rfl ?_;have HF:Hid _:=e3;have HTF:Hid (Tch b W x _ x):=(HT9.out.tail hb_wa).trans e4;clear e1 e2 e3 e4
     go_wp2_with fail
     go_meet;exact ⟨HF.out,HTF.out⟩
    case rest=>
     obtain ⟨hC,hT⟩:=hcut;obtain ⟨wb,hwb⟩:∃ z,z=wc:=⟨_,rfl⟩;rw [<-hwb] at hC hT;subst hwb;have HCb:Hid _:=hC;have HTb:Hid _:=hT;have x0:∀ u:BW wb,u.w.cell? ⟨q,0,none⟩=some (.int .i64 NX):=fun u=>(HS3.out u.w (HCb.out.below u.h)).1
     have x1:∀ u:BW wb,u.w.cell? ⟨q,1,none⟩=some (.int .i64 M2):=fun u=>(HS3.out u.w (HCb.out.below u.h)).2.1
     have NEb:Nonempty (BW wb):=⟨⟨wb,Below.refl _ _⟩⟩;clear hC hT v1 v4 NE9
     go_upto_region 10 with fail
     go_cut [] (fun z=>Z0 z B b R3 x/\Tch b W x z x)
     case first=>
      refine Zn (C:=fun w'=>∃ u:BW wb,w'=u.w) _ (by kernel_rfl) rfl (by kernel_rfl) ⟨⟨_,(Below.refl _ _).drew⟩,rfl⟩ ?_;simp only [List.dropLast_cons_cons,List.dropLast_singleton]
      repeat (first | go_big_quiet_step ((fail)))
      refine wpQuiet_nil ?_;intro wd hwwd;have hb_wd:Below wb.heap.size wb wd:=(by obtain ⟨u,rfl⟩:=hwwd;exact u.h);clear hwwd;obtain ⟨e1,e0,e2,e3,e4⟩:=HS3.out wd (HCb.out.below hb_wd);refine Xm (.tmp 79) (.tmp 77) rfl rfl rfl e1 e2 rfl ?_;have HF:Hid _:=e3;have HTF:Hid (Tch b W x _ x):=(HTb.out.tail hb_wd).trans e4;clear e1 e0 e2 e3 e4
      go_wp2_with fail
      go_meet;exact ⟨HF.out,HTF.out⟩
     case rest=>
      obtain ⟨hC,hT⟩:=hcut;obtain ⟨we,hwe⟩:∃ z,z=wc:=⟨_,rfl⟩;rw [<-hwe] at hC hT;subst hwe;have HCe:Hid _:=hC;have HTe:Hid _:=hT;clear hC hT x0 x1 NEb
      go_upto_region 12 with (first
       |(go_at_call 174;refine Calls.mono (HCo.out _ HCe.out) ?_;rintro e wf ⟨rfl,hf,tf⟩;have HCf:Hid _:=hf;have HTf:Hid (Tch b W x wf x):=HTe.out.trans tf;clear hf tf))
      have y0:∀ u:BW wf,u.w.cell? ⟨q,0,none⟩=some (.int .i64 N2):=fun u=>(HS4.out u.w (HCf.out.below u.h)).1
      have y12:∀ u:BW wf,u.w.cell? ⟨b,12,none⟩=some (.slice la LN lc):=fun u=>(HS4.out u.w (HCf.out.below u.h)).2
      have NEf:Nonempty (BW wf):=⟨⟨wf,Below.refl _ _⟩⟩;have HMf:Hid (Blk wf w.heap.size _ 43):=HMc.out wf x HTf.out;by_cases hnl:N2<=(LN:Int)
      ·have hnd:decide (N2<=(LN:Int))=true:=decide_eq_true hnl
       have HR:Hid (RP=R3.agree.sendE (m.fr-1).toNat):=HApp3.out.trans (if_pos hnl);have HKc:Hid (RP.code=0):=by unfold Hid;rw [HR.out];exact HR3e.out.2.2.2.2.2.2.2
       have HSf:Hid _:=HSe.out hnl;rw [<-HR.out] at HSf;have HM2:Hid (∀ z,Below wf.heap.size wf z->z.cell? ⟨w.heap.size,1,none⟩=some (.int .i64 m.fr)):=fun z hz=>(HMf.out.below hz HMf.out.lt).cell 1
       clear HApp3 HR HSe;refine wp_region_quiet (C:=fun w'=>∃ u:BW wf,w'=u.w) (by kernel_rfl) (by kernel_rfl) ⟨⟨_,(Below.refl _ _).drew⟩,rfl⟩ ?_;rw [List.toList_toArray]
       repeat (first | go_big_quiet_step ((fail)))
       refine wpQuiet_nil ?_;intro wg hwwg;have hb_wg:Below wf.heap.size wf wg:=(by obtain ⟨u,rfl⟩:=hwwg;exact u.h);clear hwwg;have g1:=HM2.out wg hb_wg;have HCg:Hid (Z0 wg B b R3.agree x):=HCf.out.below hb_wg
       go_wp2_with (first
        |(go_at_call 157;refine Calls.mono (HSf.out _ HCg.out) ?_;rintro e wh ⟨rfl,vh,mh,hh,th⟩;have Hh:Hid _:=hh;have Th:Hid _:=Tch.head HBW.out ((HTf.out.tail hb_wg).trans th);clear hh th))
       go_ret;exact ⟨by rw [HKc.out];rfl,_,Hh.out,Th.out⟩
      ·have hnd:decide (N2<=(LN:Int))=false:=decide_eq_false hnl
       have HR:Hid (RP=R3.agree):=HApp3.out.trans (if_neg hnl);have HKc:Hid (RP.code=0):=by unfold Hid;rw [HR.out];exact HR3e.out.2.2.2.2.2.2.2
       clear HApp3 HSe;refine wp_region_quiet (C:=fun w'=>∃ u:BW wf,w'=u.w) (by kernel_rfl) (by kernel_rfl) ⟨⟨_,(Below.refl _ _).drew⟩,rfl⟩ ?_;rw [List.toList_toArray]
       repeat (first | go_big_quiet_step ((fail)))
       refine wpQuiet_nil ?_;intro wg hwwg;have hb_wg:Below wf.heap.size wf wg:=(by obtain ⟨u,rfl⟩:=hwwg;exact u.h);clear hwwg
       go_wp2_with fail
       go_ret;exact ⟨by rw [HKc.out];rfl,x,by rw [HR.out];exact HCf.out.below hb_wg,Tch.head HBW.out (HTf.out.tail hb_wg)⟩
end Go.Proofs.YtmmpoppgabadmaaGreat
