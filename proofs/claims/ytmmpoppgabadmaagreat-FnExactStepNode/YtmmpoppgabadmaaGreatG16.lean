import Derived.Test.YtmmpoppgabadmaaGreatG11
set_option linter.unusedVariables false
set_option linter.unusedSimpArgs false
set_option maxRecDepth 100000
set_option maxHeartbeats 16000000
namespace Go.Proofs.YtmmpoppgabadmaaGreat
open Go.RowKit
structure LdM (n:Nd) (N:Nat):Prop where
 ldb:LdB n N
 mtl:n.mt.length=N
 sel:n.se.length=N
 mt:∀ J (h:J<n.mt.length) (h':J<n.nx.length),(J:Int)+1≠n.id->0<=n.mt[J]/\n.mt[J]<n.nx[J]
theorem l4agreed_run {w:World}{B b:Nat}{r:Rn}{x:RV}(h:Z4 w B b r x)(hb:NdB r.n)(p N:Nat)(z:World)(hz:Below w.heap.size w z)(hp0:1<=p)(hp1:p<=r.n.log.length)(hN:r.n.sz=N)(hNm:r.n.mt.length=N)(hN7:N<=7)(hodd:r.n.sz%2=1):Calls Tryz.prog 152 #[.agg (ndC r.n x),.int .i64 (p:Int)] z fun e w'=>e=.returned (.bool (Xu r.n p))/\Below z.heap.size z w':=by
 have hl:=(h.below hz).es (by have:=hb.ln;omega);have hm:=ownI_ix (h.below hz).mt (by omega);obtain ⟨la,lc,hvl⟩:=h.log.shape;obtain ⟨a13,c13,hv13⟩:=h.gr.shape;obtain ⟨a14,c14,hv14⟩:=h.nx.shape;obtain ⟨a15,c15,hv15⟩:=h.mt.shape;obtain ⟨a16,c16,hv16⟩:=h.se.shape;obtain ⟨a17,c17,hv17⟩:=h.st.shape;unfold ndC;rw [hvl] at hl;rw [hv15] at hm;rw [hvl,hv13,hv14,hv15,hv16,hv17];exact l4agreed_any r.n p N la a15 lc c15 _ _ _ _ z hl hm (.mk _ _ _) (.mk _ _ _) (.mk _ _ _) (.mk _ _ _) (by have:=hb.ln;omega) hp0 hp1 hN hNm hN7 hodd
def arB (n:Nd)(m:Mg):Bool:=(n.ro != 3) || decide (m.tm<n.tm)
theorem arB_iff (n:Nd)(m:Mg):arB n m=true↔n.ro≠3∨m.tm<n.tm:=by unfold arB;simp
def arNo (r1:Rn)(m:Mg)(J:Nat):Rn:=
 if m.li≠r1.n.nx.getD J 0-1 then r1.stale else Rn.sendE { r1 with n:={ r1.n with nx:=r1.n.nx.set J (max (r1.n.mt.getD J 0+1) (min m.hi (m.li-1)+1)) } } J
def arMt (r1:Rn)(m:Mg)(J:Nat):Rn:={ r1 with n:={ r1.n with mt:=r1.n.mt.set J (max (r1.n.mt.getD J 0) m.li) } }
def arNx (r1:Rn)(m:Mg)(J:Nat):Rn:={ arMt r1 m J with n:={ (arMt r1 m J).n with nx:=r1.n.nx.set J (max (r1.n.nx.getD J 0) (max (r1.n.mt.getD J 0) m.li+1)) } }
def arCm (r:Rn):Rn:={ r with n:={ r.n with cm:=(Yt r.n r.n.cm.toNat r.n.log.length:Int) } }
def arYes (r1:Rn)(m:Mg)(J:Nat):Rn:=
 if (r1.n.log.length:Int)<m.li then r1.stale else if max (r1.n.nx.getD J 0) (max (r1.n.mt.getD J 0) m.li+1)<=(r1.n.log.length:Int) then (arCm (arNx r1 m J)).sendE J else arCm (arNx r1 m J)
theorem appReply_eq (r:Rn)(m:Mg)(J:Nat)(hJ:m.fr=(J:Int)+1):r.appReply m=if r.n.tm<m.tm then r.adopt m.tm else if arB r.n m=true then r.stale else if m.ok=0 then arNo { r with n:={ r.n with se:=r.n.se.set J r.n.nw } } m J else arYes { r with n:={ r.n with se:=r.n.se.set J r.n.nw } } m J:=by
 unfold Rn.appReply;split
 ·rfl
 by_cases hc:arB r.n m=true
 ·rw [if_pos hc];exact if_pos ((arB_iff _ _).1 hc)
 ·rw [if_neg hc,if_neg (fun h=>hc ((arB_iff _ _).2 h))]
  have hf:(m.fr-1).toNat=J:=by omega
  simp only [hf];rfl
theorem Z3q (b:Nat)(r:Rn)(x:RV)(m:Mg)(J:Nat)(ea:Option Addr)(en ec:Nat)(w:World)(B:Nat)(h:Z4 w B b r x)(hb:NdB r.n)(hd : -(2^63)<=r.draw)(hD:r.draw<2^63)(hl:x.L.length<=900)(hodd:r.n.sz%2=1)(hJ:m.fr=(J:Int)+1)(hJs:(J:Int)+1<=r.n.sz)(hJi:(J:Int)+1≠r.n.id)(hLd:r.n.ro=3->LdM r.n r.n.sz.toNat)(hcm0:0<=r.n.cm)(hli0:0<=m.li)(hli1:m.li<=4096)(hhi0:0<=m.hi)(hhi1:m.hi<=4096) :
  Calls Tryz.prog 124 #[.pointer (some ⟨b,0,none⟩),.agg #[.int .i64 m.ki,.int .i64 m.fr,.int .i64 m.td,.int .i64 m.tm,.int .i64 m.li,.int .i64 m.lt,.int .i64 m.cm,.int .i64 m.ok,.int .i64 m.hi,.slice ea en ec]] w fun e w'=>∃ x',e=.returned (.tuple #[])/\Z4 w' B b (r.appReply m) x'/\Below B w w':=by
 have HRw:Hid (∀ z,Below w.heap.size w z->Z4 z B b r x):=fun z hz=>h.below hz
 have hBw:B<=w.heap.size:=Nat.le_trans h.lo (Nat.le_of_lt h.lt);have hbl:=h.lt;have HQ:Hid (r.appReply m=_):=appReply_eq r m J hJ;have HAd:Hid (∀ z,Z4 z B b r x->Calls Tryz.prog 149 #[.pointer (some ⟨b,0,none⟩),.int .i64 m.tm] z fun e w'=>e=.returned (.tuple #[])/\Z4 w' B b (r.adopt m.tm) x.lone/\Below B z w'/\z.grownBy w' (some b)):=fun z hz=>Z0n b r x m.tm z B hz hd hD hb.nw0 hb.nw1
 have HJ:Hid (m.fr=(J:Int)+1):=hJ;clear hJ;generalize r.appReply m=RP at *;obtain ⟨w1,hw1⟩:∃ z,z=w.alloc (.cells #[.int .i64 m.ki,.int .i64 m.fr,.int .i64 m.td,.int .i64 m.tm,.int .i64 m.li,.int .i64 m.lt,.int .i64 m.cm,.int .i64 m.ok,.int .i64 m.hi,.slice ea en ec] 43):=⟨_,rfl⟩;have HB1:Hid (Below w.heap.size w w1):=by rw [hw1];exact (Below.refl _ _).alloc (Nat.le_refl _) _
 have BM1:Hid (Blk w1 w.heap.size #[.int .i64 m.ki,.int .i64 m.fr,.int .i64 m.td,.int .i64 m.tm,.int .i64 m.li,.int .i64 m.lt,.int .i64 m.cm,.int .i64 m.ok,.int .i64 m.hi,.slice ea en ec] 43):=by rw [hw1];exact Blk.new _ _ _
 have hz1:w.heap.size<w1.heap.size:=BM1.out.lt;have n3:w1.cell? ⟨w.heap.size,3,none⟩=some (.int .i64 m.tm):=BM1.out.cell 3;have k4:w1.cell? ⟨b,4,none⟩=some (.int .i64 r.n.tm):=(HRw.out _ HB1.out).blk.cell 4;clear h;go_enter Tryz.func124,Tryz.ntmps124
 go_upto_region 1 with fail
 rw [<-hw1];clear hw1;go_quiet (fail)
 obtain ⟨w4,hw4⟩:∃ z,z=w1.drewN nq:=⟨_,rfl⟩;have hb4:Below w1.heap.size w1 w4:=by rw [hw4];exact ⟨rfl,rfl,rfl,Nat.le_refl _,fun _ _=>rfl⟩
 rw [<-hw4];have HB4:Hid (Below w.heap.size w w4):=HB1.out.trans (hb4.mono (by omega));have BM4:Hid (Blk w4 w.heap.size _ 43):=BM1.out.below hb4 hz1;have hz4:w.heap.size<w4.heap.size:=BM4.out.lt;clear hw4 hb4 k4 n3 HB1 BM1 hz1;have n3:w4.cell? ⟨w.heap.size,3,none⟩=some (.int .i64 m.tm):=BM4.out.cell 3
 go_upto_if 13 with fail
 by_cases ht:r.n.tm<m.tm
 ·have HQ3:Hid (RP=r.adopt m.tm):=HQ.out.trans (if_pos ht)
  have hdt:decide (r.n.tm<m.tm)=true:=decide_eq_true ht;rw [hdt];clear HQ ht hdt
  go_wp2_with (first
   |(go_at_call 149;refine (HAd.out _ (HRw.out _ HB4.out)).mono ?_;rintro e w5 ⟨rfl,h5,b5,-⟩;have H5:Hid _:=h5;have B5:Hid (Below B w w5):=(HB4.out.mono hBw).trans b5;clear h5 b5))
  (try simp only [Exit.inBlock,Exit.then])
  exact bodyPost_ret (results_none rfl _ _ _) rfl ⟨_,rfl,by rw [HQ3.out];exact H5.out,B5.out⟩
 have HQ2:=HQ.out.trans (if_neg ht);have HQ3:Hid _:=HQ2;have hdt:decide (r.n.tm<m.tm)=false:=decide_eq_false ht;rw [hdt];clear HQ HQ2 ht HAd hdt;have k6:w4.cell? ⟨b,6,none⟩=some (.int .i64 r.n.ro):=(HRw.out _ HB4.out).blk.cell 6;have k4:w4.cell? ⟨b,4,none⟩=some (.int .i64 r.n.tm):=(HRw.out _ HB4.out).blk.cell 4
 go_upto_region 3 with fail
 go_cut [33] (fun s wx=>s=.bool (arB r.n m)/\Below w4.heap.size w4 wx)
 case first=>
  have HV:Hid (arB r.n m=((r.n.ro != 3) || decide (m.tm<r.n.tm))):=rfl;generalize arB r.n m=VB at *;cases hc1:(r.n.ro != 3)
  ·rw [hc1] at HV
   go_quiet (fail)
   go_wp2_with fail
   go_meet;exact ⟨by rw [HV.out];rfl,⟨rfl,rfl,rfl,Nat.le_refl _,fun _ _=>rfl⟩⟩
  ·rw [hc1] at HV
   go_quiet (fail)
   go_wp2_with fail
   go_meet;exact ⟨by rw [HV.out];rfl,⟨rfl,rfl,rfl,Nat.le_refl _,fun _ _=>rfl⟩⟩
 case rest=>
  obtain ⟨rfl,hB6⟩:=hcut;obtain ⟨w6,hw6⟩:∃ z,z=wc:=⟨_,rfl⟩;rw [<-hw6] at hB6;subst hw6;have HB6:Hid (Below w.heap.size w w6):=HB4.out.trans (hB6.mono (by omega));have BM6:Hid (Blk w6 w.heap.size _ 43):=BM4.out.below hB6 hz4;have hz6:w.heap.size<w6.heap.size:=BM6.out.lt;have HR6:Hid (Z4 w6 B b r x):=HRw.out _ HB6.out;clear hB6 k4 k6 n3 HB4 BM4 hz4
  go_upto_if 33 with fail
  by_cases hv:arB r.n m=true
  ·have HQ4:Hid (RP=r.stale):=HQ3.out.trans (if_pos hv)
   have k19:w6.cell? ⟨b,19,none⟩=some (.int .i64 r.code):=HR6.out.blk.cell 19;have f19:w6.frozen? ⟨b,19,none⟩=false:=HR6.out.blk.free 19;rw [hv];clear HQ3 hv
   go_wp2_with (fail)
   (try simp only [Exit.inBlock,Exit.then])
   refine bodyPost_ret (results_none rfl _ _ _) rfl ⟨x,rfl,?_,(HB6.out.mono hBw).trans (HR6.out.setB 19 _)⟩;rw [HQ4.out];exact HR6.out.set 19 _ rfl rfl rfl rfl rfl rfl rfl rfl
  have hv2:arB r.n m=false:=by simpa using hv
  have hro:r.n.ro=3:=by
   have:=fun h=>hv ((arB_iff _ _).2 (.inl h))
   exact Classical.byContradiction this
  obtain ⟨N,hN⟩:∃ N:Nat,r.n.sz=N:=⟨r.n.sz.toNat,by have:=hb.sz0;omega⟩;have hN7:N<=7:=by have:=hb.sz1;omega
  have hJN:J<N:=by omega
  have HLd:Hid (LdM r.n N):=by have h9:=hLd hro;rw [show r.n.sz.toNat=N by omega] at h9;exact h9
  have HQ4:=HQ3.out.trans (if_neg hv);obtain ⟨R1,hR1⟩:∃ R1:Rn,R1={ r with n:={ r.n with se:=r.n.se.set J r.n.nw } }:=⟨_,rfl⟩;rw [<-hR1] at HQ4;have HQ5:Hid _:=HQ4;have HL1:Hid (LdM R1.n N):=by rw [hR1];exact ⟨⟨HLd.out.ldb.nxl,HLd.out.ldb.stl,HLd.out.ldb.nx⟩,HLd.out.mtl,by show (r.n.se.set J r.n.nw).length=N;rw [List.length_set];exact HLd.out.sel,HLd.out.mt⟩
  have HB1:Hid (NdB R1.n):=by rw [hR1];exact ⟨hb.nw0,hb.nw1,hb.hd0,hb.hd1,hb.sz0,hb.sz1,hb.id0,hb.id1,hb.ln⟩
  have HI1:Hid (R1.n.id=r.n.id/\R1.n.sz=r.n.sz/\R1.n.cm=r.n.cm):=by rw [hR1];exact ⟨rfl,rfl,rfl⟩
  obtain ⟨sg,sc,hvs,hsl,cs,fs⟩:=Jd HR6.out.se J (by rw [HLd.out.sel];exact hJN);have HSe:Hid _:=HR6.out.seAt hvs J (by rw [HLd.out.sel];exact hJN) r.n.nw;have q16:∀ u:BW w6,u.w.cell? ⟨b,16,none⟩=some (.slice (some ⟨sg,0,none⟩) r.n.se.length sc):=fun u=>by rw [<-hvs];exact (HR6.out.below u.h).blk.cell 16
  have q9:∀ u:BW w6,u.w.cell? ⟨b,9,none⟩=some (.int .i64 r.n.nw):=fun u=>(HR6.out.below u.h).blk.cell 9
  have NE6:Nonempty (BW w6):=⟨⟨w6,Below.refl _ _⟩⟩;have n1:w6.cell? ⟨w.heap.size,1,none⟩=some (.int .i64 ((J:Int)+1)):=by rw [<-HJ.out];exact BM6.out.cell 1
  have hwJ:IntKind.i64.wrap ((J:Int)+1-1)=(J:Int):=by rw [IntKind.wrap_i64];omega
  have hJl:(J:Int)<(r.n.se.length:Int):=by rw [HLd.out.sel];omega
  have HVs:Hid (x.vs=.slice (some ⟨sg,0,none⟩) r.n.se.length sc):=hvs
  have hsw:sg<w.heap.size:=by
   have h1:=(HRw.out w (Below.refl _ _)).se.lts sg (by rw [hvs];rfl);exact h1.2
  rw [hv2];clear HQ3 HQ4 hv hv2 hvs cs fs hro hLd
  go_upto_region 6 with fail
  refine Zn (C:=fun w'=>∃ u:BW w6,w'=u.w) _ (by kernel_rfl) rfl (by kernel_rfl) ⟨⟨_,(Below.refl _ _).drew⟩,rfl⟩ ?_;simp only [List.dropLast_cons_cons,List.dropLast_singleton]
  repeat (first | go_big_quiet_step ((fail)))
  refine wpQuiet_nil ?_;intro wg hwwg;have hb_wg:Below w6.heap.size w6 wg:=(by obtain ⟨u,rfl⟩:=hwwg;exact u.h);clear hwwg;have HR7:Hid (Z4 wg B b r x):=HR6.out.below hb_wg;obtain ⟨sg2,sc2,hvs2,hsl2,cs2,fs2⟩:=Jd HR7.out.se J (by rw [HLd.out.sel];exact hJN);obtain ⟨rfl,rfl⟩:sg=sg2/\sc=sc2:=by have:=HVs.out.symm.trans hvs2;simp only [Value.slice.injEq,Option.some.injEq,Addr.mk.injEq] at this;exact ⟨this.1.1,this.2.2⟩
  have HS7:=HR7.out.seAt hvs2 J (by rw [HLd.out.sel];exact hJN) r.n.nw;refine Xm (.tmp 51) (.tmp 50) rfl rfl rfl cs2 fs2 rfl ?_;obtain ⟨wh,hwh⟩:∃ z,z=wg.setCell ⟨sg,J,none⟩ (.int .i64 r.n.nw):=⟨_,rfl⟩;rw [<-hwh];rw [<-hwh,<-hR1] at HS7;have HRh:Hid (Z4 wh B b R1 x):=HS7.1;have HBh:Hid (Below B w wh):=((HB6.out.mono hBw).trans (hb_wg.mono (Nat.le_trans hBw (by omega)))).trans HS7.2
  have BMh:Hid (Blk wh w.heap.size #[.int .i64 m.ki,.int .i64 m.fr,.int .i64 m.td,.int .i64 m.tm,.int .i64 m.li,.int .i64 m.lt,.int .i64 m.cm,.int .i64 m.ok,.int .i64 m.hi,.slice ea en ec] 43):=by
   have h9:=BM6.out.below hb_wg hz6;unfold Hid;rw [hwh];exact h9.keep (Below.heap_setCell _ _ _ _ (show w.heap.size≠sg by omega))
  have hzh:w.heap.size<wh.heap.size:=BMh.out.lt;obtain ⟨P,hPl,hP⟩:=HL1.out.ldb.nx J (by rw [HL1.out.ldb.nxl];exact hJN) (by rw [HI1.out.1];exact hJi);have hmt:=HL1.out.mt J (by rw [HL1.out.mtl];exact hJN) (by rw [HL1.out.ldb.nxl];exact hJN) (by rw [HI1.out.1];exact hJi);rw [hP] at hmt;obtain ⟨MT,hMT⟩:∃ MT,MT=R1.n.mt[J]'(by rw [HL1.out.mtl];exact hJN):=⟨_,rfl⟩;rw [<-hMT] at hmt;have hgn:R1.n.nx.getD J 0=(P:Int)+1:=by rw [List.getD_eq_getElem?_getD,List.getElem?_eq_getElem (by rw [HL1.out.ldb.nxl];exact hJN),Option.getD_some,hP]
  have hgm:R1.n.mt.getD J 0=MT:=by rw [List.getD_eq_getElem?_getD,List.getElem?_eq_getElem (by rw [HL1.out.mtl];exact hJN),Option.getD_some,hMT]
  have HGn:Hid (R1.n.nx.getD J 0=(P:Int)+1/\R1.n.mt.getD J 0=MT):=⟨hgn,hgm⟩;obtain ⟨ng,nc,hvn,hnl,cn,fn⟩:=Jd HRh.out.nx J (by rw [HL1.out.ldb.nxl];exact hJN);rw [hP] at cn;obtain ⟨mg,mc,hvm,hml,cm,fm⟩:=Jd HRh.out.mt J (by rw [HL1.out.mtl];exact hJN);rw [<-hMT] at cm;have HVn:Hid (x.vn=.slice (some ⟨ng,0,none⟩) R1.n.nx.length nc):=hvn;have HNg:Hid (w.heap.size≠ng/\w.heap.size≠mg):=⟨fun e=>by have h1:=Z2h (by rw [<-hvn];exact HRh.out.nx);obtain ⟨C,hC⟩:=h1;exact blk_ne BMh.out hC (by decide) e,fun e=>by have h1:=Z2h (by rw [<-hvm];exact HRh.out.mt);obtain ⟨C,hC⟩:=h1;exact blk_ne BMh.out hC (by decide) e⟩;have HVm:Hid (x.vm=.slice (some ⟨mg,0,none⟩) R1.n.mt.length mc):=hvm;have HMT:Hid (0<=MT/\MT<(P:Int)+1):=hmt;have HPl:Hid (P<=R1.n.log.length):=hPl;have HPe:Hid (∀ h:J<R1.n.nx.length,R1.n.nx[J]=(P:Int)+1):=fun h=>hP
  have hnlen:(J:Int)<(R1.n.nx.length:Int):=by rw [HL1.out.ldb.nxl];omega
  have hmlen:(J:Int)<(R1.n.mt.length:Int):=by rw [HL1.out.mtl];omega
  have hln:=HB1.out.ln;have hmt0:=hmt.1;have hmt1:=hmt.2;have hJ9:J<=7:=by omega
  clear HS7 hwh hgn hgm hvn hvm hvs2 cs2 fs2 hR1 HR7 HR6 HB6 BM6 hb_wg q16 q9 NE6 n1 hwJ hJl HVs hMT hP hmt HRw HSe HLd hsl hsl2 hsw hz6;have n7:wh.cell? ⟨w.heap.size,7,none⟩=some (.int .i64 m.ok):=BMh.out.cell 7;have NEh:Nonempty (BW wh):=⟨⟨wh,Below.refl _ _⟩⟩;have hngw:ng<wh.heap.size:=hnl;have hmgw:mg<wh.heap.size:=hml;have q14:∀ u:BW wh,u.w.cell? ⟨b,14,none⟩=some (.slice (some ⟨ng,0,none⟩) R1.n.nx.length nc):=fun u=>by rw [<-HVn.out];exact (HRh.out.below u.h).blk.cell 14
  have q15:∀ u:BW wh,u.w.cell? ⟨b,15,none⟩=some (.slice (some ⟨mg,0,none⟩) R1.n.mt.length mc):=fun u=>by rw [<-HVm.out];exact (HRh.out.below u.h).blk.cell 15
  have qn:∀ u:BW wh,u.w.cell? ⟨ng,J,none⟩=some (.int .i64 ((P:Int)+1)):=fun u=>(u.h.cell (p:=⟨ng,J,none⟩) hngw).trans cn
  have qm:∀ u:BW wh,u.w.cell? ⟨mg,J,none⟩=some (.int .i64 MT):=fun u=>(u.h.cell (p:=⟨mg,J,none⟩) hmgw).trans cm
  have p4:∀ u:BW wh,u.w.cell? ⟨w.heap.size,4,none⟩=some (.int .i64 m.li):=fun u=>(BMh.out.below u.h hzh).cell 4
  have p8:∀ u:BW wh,u.w.cell? ⟨w.heap.size,8,none⟩=some (.int .i64 m.hi):=fun u=>(BMh.out.below u.h hzh).cell 8
  by_cases hok:m.ok=0
  ·have HQ6:=HQ5.out.trans (if_pos hok)
   rw [hok] at n7;unfold arNo at HQ6;rw [HGn.out.1,HGn.out.2] at HQ6;have HQ7:Hid _:=HQ6;have hwP:IntKind.i64.wrap ((P:Int)+1-1)=(P:Int):=by rw [IntKind.wrap_i64];omega
   clear HQ5 HQ6 hok
   go_upto_region 8 with fail
   refine wp_region_quiet (C:=fun w'=>∃ u:BW wh,w'=u.w) (by kernel_rfl) (by kernel_rfl) ⟨⟨_,(Below.refl _ _).drew⟩,rfl⟩ ?_;rw [List.toList_toArray]
   repeat (first | go_big_quiet_step ((fail)))
   refine wpQuiet_nil ?_;intro wi hwwi;have hb_wi:Below wh.heap.size wh wi:=(by obtain ⟨u,rfl⟩:=hwwi;exact u.h);clear hwwi;have HRi:Hid (Z4 wi B b R1 x):=HRh.out.below hb_wi;have HBi:Hid (Below B w wi):=HBh.out.trans (hb_wi.mono (Nat.le_trans hBw (by omega)))
   go_upto_if 66 with fail
   by_cases hli:m.li=(P:Int)
   case neg=>
    have HQ8:Hid (RP=R1.stale):=HQ7.out.trans (if_pos (by omega));have k19:wi.cell? ⟨b,19,none⟩=some (.int .i64 R1.code):=HRi.out.blk.cell 19;have f19:wi.frozen? ⟨b,19,none⟩=false:=HRi.out.blk.free 19;have hlb:(m.li != (P:Int))=true:=by simpa using hli
    rw [hlb];clear hli hlb HQ7 q14 q15 qn qm p4 p8 NEh
    go_wp2_with (fail)
    (try simp only [Exit.inBlock,Exit.then])
    refine bodyPost_ret (results_none rfl _ _ _) rfl ⟨x,rfl,?_,HBi.out.trans (HRi.out.setB 19 _)⟩;rw [HQ8.out];exact HRi.out.set 19 _ rfl rfl rfl rfl rfl rfl rfl rfl
   have hlb:(m.li != (P:Int))=false:=by simpa using hli
   have HQ8:=HQ7.out.trans (if_neg (fun h=>h (by omega)));rw [hlb];obtain ⟨MN,hMN⟩:∃ MN,MN=min m.hi (m.li-1):=⟨_,rfl⟩;obtain ⟨P2,hP2⟩:∃ P2:Nat,(P2:Int)+1=max (MT+1) (min m.hi (m.li-1)+1):=⟨(max (MT+1) (min m.hi (m.li-1)+1)-1).toNat,by omega⟩;rw [<-hP2] at HQ8;have HQ9:Hid _:=HQ8;have hMNb : -1<=MN/\MN<=4096:=by omega
   have hP2l:P2<=R1.n.log.length:=by have:=HPl.out;omega
   have hwm:IntKind.i64.wrap (MT+1)=MT+1:=by rw [IntKind.wrap_i64];omega
   have hwl:IntKind.i64.wrap (m.li-1)=m.li-1:=by rw [IntKind.wrap_i64];omega
   have hwn:IntKind.i64.wrap (MN+1)=MN+1:=by rw [IntKind.wrap_i64];omega
   have HMin:Hid (∀ z,Calls Tryz.prog 55 #[.int .i64 m.hi,.int .i64 (m.li-1)] z fun e w'=>e=.returned (.int .i64 MN)/\w'=z):=fun z=>by rw [hMN];exact Z44 _ _ z
   have HMax:Hid (∀ z,Calls Tryz.prog 94 #[.int .i64 (MT+1),.int .i64 (MN+1)] z fun e w'=>e=.returned (.int .i64 ((P2:Int)+1))/\w'=z):=fun z=>by rw [hP2,hMN];exact Z2i _ _ z
   obtain ⟨R2,hR2⟩:∃ R2:Rn,R2={ R1 with n:={ R1.n with nx:=R1.n.nx.set J ((P2:Int)+1) } }:=⟨_,rfl⟩;rw [<-hR2] at HQ9;have HRn:Hid (∀ z,Z4 z B b R1 x->Z4 (z.setCell ⟨ng,J,none⟩ (.int .i64 ((P2:Int)+1))) B b R2 x/\Below B z (z.setCell ⟨ng,J,none⟩ (.int .i64 ((P2:Int)+1)))):=fun z hz=>by rw [hR2];exact hz.nxAt HVn.out J (by rw [HL1.out.ldb.nxl];exact hJN) _
   have HSd:Hid (∀ z,Z4 z B b R2 x->Calls Tryz.prog 116 #[.pointer (some ⟨b,0,none⟩),.int .i64 ((J:Int)+1)] z fun e w'=>∃ v y,e=.returned (.tuple #[])/\Z4 w' B b (R2.sendE J) (x.sent v y)/\Below B z w'):=fun z hz=>Xg b R2 x J P2 z B hz (by rw [hR2];exact ⟨HB1.out.nw0,HB1.out.nw1,HB1.out.hd0,HB1.out.hd1,HB1.out.sz0,HB1.out.sz1,HB1.out.id0,HB1.out.id1,HB1.out.ln⟩) (by omega) (by rw [hR2];show J<(R1.n.nx.set J _).length;rw [List.length_set,HL1.out.ldb.nxl];exact hJN) (by rw [hR2];show J<R1.n.st.length;rw [HL1.out.ldb.stl];exact hJN) hJ9 (by simp only [hR2];rw [List.getElem_set_self]) (by rw [hR2];exact hP2l)
   have fn':∀ z,Below wh.heap.size wh z->z.frozen? ⟨ng,J,none⟩=false:=fun z hz=>by
    obtain ⟨g9,c9,h9,-,-,f9⟩:=Jd (HRh.out.below hz).nx J (by rw [HL1.out.ldb.nxl];exact hJN);have h8:=HVn.out.symm.trans h9;simp only [Value.slice.injEq,Option.some.injEq,Addr.mk.injEq] at h8;rw [h8.1.1];exact f9
   have Hfn:Hid _:=fn';have NEi:Nonempty (BW wi):=⟨⟨wi,Below.refl _ _⟩⟩;have HBhi:Hid _:=hb_wi;have r14:∀ u:BW wi,u.w.cell? ⟨b,14,none⟩=some (.slice (some ⟨ng,0,none⟩) R1.n.nx.length nc):=fun u=>q14 ⟨u.w,HBhi.out.trans (u.h.mono HBhi.out.size)⟩
   have r15:∀ u:BW wi,u.w.cell? ⟨b,15,none⟩=some (.slice (some ⟨mg,0,none⟩) R1.n.mt.length mc):=fun u=>q15 ⟨u.w,HBhi.out.trans (u.h.mono HBhi.out.size)⟩
   have rm:∀ u:BW wi,u.w.cell? ⟨mg,J,none⟩=some (.int .i64 MT):=fun u=>qm ⟨u.w,HBhi.out.trans (u.h.mono HBhi.out.size)⟩
   have r4:∀ u:BW wi,u.w.cell? ⟨w.heap.size,4,none⟩=some (.int .i64 m.li):=fun u=>p4 ⟨u.w,HBhi.out.trans (u.h.mono HBhi.out.size)⟩
   have r8:∀ u:BW wi,u.w.cell? ⟨w.heap.size,8,none⟩=some (.int .i64 m.hi):=fun u=>p8 ⟨u.w,HBhi.out.trans (u.h.mono HBhi.out.size)⟩
   have Hqn:Hid _:=qn;clear hli hlb HQ7 HQ8 hMN hP2 hP2l hR2 fn' hb_wi q14 q15 qn qm p4 p8 NEh
   go_upto_region 10 with fail
   refine Zn (C:=fun w'=>∃ u:BW wi,w'=u.w) _ (by kernel_rfl) rfl (by kernel_rfl) ⟨⟨_,(Below.refl _ _).drew⟩,rfl⟩ ?_;simp only [List.dropLast_cons_cons,List.dropLast_singleton]
   repeat (first | go_big_quiet_step ((first | (go_at_call 55;refine (HMin.out _).mono ?_;rintro e w9 ⟨rfl,rfl⟩;exact ⟨rfl,⟨_,rfl⟩⟩) | (go_at_call 94;refine (HMax.out _).mono ?_;rintro e w9 ⟨rfl,rfl⟩;exact ⟨rfl,⟨_,rfl⟩⟩))))
   refine wpQuiet_nil ?_;intro wj hwwj;have hb_wj:Below wi.heap.size wi wj:=(by obtain ⟨u,rfl⟩:=hwwj;exact u.h);clear hwwj;have HBhj:Hid (Below wh.heap.size wh wj):=HBhi.out.trans (hb_wj.mono HBhi.out.size);refine Xm (.tmp 93) (.tmp 92) rfl rfl rfl (Hqn.out ⟨wj,HBhj.out⟩) (Hfn.out wj HBhj.out) rfl ?_;have hS:=HRn.out wj (HRh.out.below HBhj.out);obtain ⟨wk,hwk⟩:∃ z,z=wj.setCell ⟨ng,J,none⟩ (.int .i64 ((P2:Int)+1)):=⟨_,rfl⟩;rw [<-hwk] at hS ⊢;have HRk:Hid (Z4 wk B b R2 x):=hS.1;have HBk:Hid (Below B w wk):=(HBh.out.trans (HBhj.out.mono (Nat.le_trans hBw (by omega)))).trans hS.2
   have n1:wk.cell? ⟨w.heap.size,1,none⟩=some (.int .i64 ((J:Int)+1)):=by
    rw [<-HJ.out,hwk];exact (Blk.keep (BMh.out.below HBhj.out hzh) (Below.heap_setCell _ _ _ _ HNg.out.1)).cell 1
   clear hS hwk r14 r15 rm r4 r8 NEi hb_wj
   go_wp2_with (first
    |(go_at_call 116;refine Calls.mono (HSd.out wk HRk.out) ?_;rintro e wz ⟨v9,y9,rfl,hRz,hbz⟩;have HRz:Hid _:=hRz;have HBz:Hid (Below B w wz):=HBk.out.trans hbz;clear hRz hbz))
   (try simp only [Exit.inBlock,Exit.then])
   exact bodyPost_ret (results_none rfl _ _ _) rfl ⟨_,rfl,by rw [HQ9.out];exact HRz.out,HBz.out⟩
  ·have hokb:(m.ok == 0)=false:=by simpa using hok
   have HQ6:=HQ5.out.trans (if_neg hok);unfold arYes at HQ6;rw [HGn.out.1,HGn.out.2] at HQ6;obtain ⟨M2,hM2⟩:∃ M2,M2=max MT m.li:=⟨_,rfl⟩;obtain ⟨V2,hV2⟩:∃ V2,V2=max ((P:Int)+1) (max MT m.li+1):=⟨_,rfl⟩;obtain ⟨RM,hRM⟩:∃ RM,RM=arMt R1 m J:=⟨_,rfl⟩;obtain ⟨RX,hRX⟩:∃ RX,RX=arNx R1 m J:=⟨_,rfl⟩;rw [<-hV2,<-hRX] at HQ6;have HQ7:Hid _:=HQ6;have HRM:Hid (RM={ R1 with n:={ R1.n with mt:=R1.n.mt.set J M2 } }):=by unfold Hid;rw [hRM,hM2];unfold arMt;rw [HGn.out.2]
   have HRX:Hid (RX={ RM with n:={ RM.n with nx:=R1.n.nx.set J V2 } }):=by unfold Hid;rw [hRX,hRM,hV2];unfold arNx;rw [HGn.out.1,HGn.out.2]
   have hM2b:0<=M2/\M2<=5000:=by have:=HPl.out;omega
   have hV2b:(P:Int)+1<=V2:=by omega
   have HM2:Hid _:=hM2;have HV2:Hid (V2=max ((P:Int)+1) (M2+1)):=by unfold Hid;rw [hM2];exact hV2
   obtain ⟨la,lc,hvl⟩:=HRh.out.log.shape;have HVl:Hid (x.vl=.slice la R1.n.log.length lc):=hvl;have q12:∀ u:BW wh,u.w.cell? ⟨b,12,none⟩=some (.slice la R1.n.log.length lc):=fun u=>by rw [<-hvl];exact (HRh.out.below u.h).blk.cell 12
   clear HQ5 HQ6 hok hRM hRX hM2 hV2 hvl
   go_upto_region 12 with fail
   refine wp_region_quiet (C:=fun w'=>∃ u:BW wh,w'=u.w) (by kernel_rfl) (by kernel_rfl) ⟨⟨_,(Below.refl _ _).drew⟩,rfl⟩ ?_;rw [List.toList_toArray]
   repeat (first | go_big_quiet_step ((fail)))
   refine wpQuiet_nil ?_;intro wi hwwi;have hb_wi:Below wh.heap.size wh wi:=(by obtain ⟨u,rfl⟩:=hwwi;exact u.h);clear hwwi;have HRi:Hid (Z4 wi B b R1 x):=HRh.out.below hb_wi;have HBi:Hid (Below B w wi):=HBh.out.trans (hb_wi.mono (Nat.le_trans hBw (by omega)))
   go_upto_if 106 with fail
   by_cases hli:(R1.n.log.length:Int)<m.li
   ·have HQ8:Hid (RP=R1.stale):=HQ7.out.trans (if_pos hli)
    have k19:wi.cell? ⟨b,19,none⟩=some (.int .i64 R1.code):=HRi.out.blk.cell 19;have f19:wi.frozen? ⟨b,19,none⟩=false:=HRi.out.blk.free 19;rw [show decide ((R1.n.log.length:Int)<m.li)=true from decide_eq_true hli]
    have HF:Hid (Z4 (wi.setCell ⟨b,19,none⟩ (.int .i64 3)) B b RP x/\Below B w (wi.setCell ⟨b,19,none⟩ (.int .i64 3))):=by
     unfold Hid;rw [HQ8.out];exact ⟨HRi.out.set 19 _ rfl rfl rfl rfl rfl rfl rfl rfl,HBi.out.trans (HRi.out.setB 19 _)⟩
    clear hli HQ7 q14 q15 qn qm p4 p8 NEh q12 HQ8
    go_wp2_with (fail)
    (try simp only [Exit.inBlock,Exit.then])
    first
     | exact bodyPost_ret (results_none rfl _ _ _) rfl ⟨x,rfl,HF.out.1,HF.out.2⟩
     | exact bodyPost_ret (results_none rfl _ _ _) rfl ⟨rfl,⟨x,HF.out.1⟩,HF.out.2⟩
   rw [show decide ((R1.n.log.length:Int)<m.li)=false from decide_eq_false hli];have HQ8:Hid _:=HQ7.out.trans (if_neg hli);have HMx1:Hid (∀ z,Calls Tryz.prog 94 #[.int .i64 MT,.int .i64 m.li] z fun e w'=>e=.returned (.int .i64 M2)/\w'=z):=fun z=>by rw [HM2.out];exact Z2i _ _ z
   have HMx2:Hid (∀ z,Calls Tryz.prog 94 #[.int .i64 ((P:Int)+1),.int .i64 (M2+1)] z fun e w'=>e=.returned (.int .i64 V2)/\w'=z):=fun z=>by rw [HV2.out];exact Z2i _ _ z
   have HBhi:Hid _:=hb_wi;have NEi:Nonempty (BW wi):=⟨⟨wi,Below.refl _ _⟩⟩;have r15:∀ u:BW wi,u.w.cell? ⟨b,15,none⟩=some (.slice (some ⟨mg,0,none⟩) R1.n.mt.length mc):=fun u=>q15 ⟨u.w,HBhi.out.trans (u.h.mono HBhi.out.size)⟩
   have rm:∀ u:BW wi,u.w.cell? ⟨mg,J,none⟩=some (.int .i64 MT):=fun u=>qm ⟨u.w,HBhi.out.trans (u.h.mono HBhi.out.size)⟩
   have r4:∀ u:BW wi,u.w.cell? ⟨w.heap.size,4,none⟩=some (.int .i64 m.li):=fun u=>p4 ⟨u.w,HBhi.out.trans (u.h.mono HBhi.out.size)⟩
   have Hqm:Hid _:=qm;have BMi:Hid (Blk wi w.heap.size _ 43):=BMh.out.below hb_wi hzh;have hzi:w.heap.size<wi.heap.size:=BMi.out.lt
   have Hfm:Hid (∀ z,Z4 z B b R1 x->z.frozen? ⟨mg,J,none⟩=false):=fun z hz=>by
    obtain ⟨g9,c9,h9,-,-,f9⟩:=Jd hz.mt J (by rw [HL1.out.mtl];exact hJN);have h8:=HVm.out.symm.trans h9;simp only [Value.slice.injEq,Option.some.injEq,Addr.mk.injEq] at h8;rw [h8.1.1];exact f9
   clear hli HQ7 hb_wi q14 q15 qn qm p4 p8 NEh q12 cn fn cm fm
   go_upto_region 14 with fail
   refine Zn (C:=fun w'=>∃ u:BW wi,w'=u.w) _ (by kernel_rfl) rfl (by kernel_rfl) ⟨⟨_,(Below.refl _ _).drew⟩,rfl⟩ ?_;simp only [List.dropLast_cons_cons,List.dropLast_singleton]
   repeat (first | go_big_quiet_step ((go_at_call 94;refine (HMx1.out _).mono ?_;rintro e w9 ⟨rfl,rfl⟩;exact ⟨rfl,⟨_,rfl⟩⟩)))
   refine wpQuiet_nil ?_;intro wj hwwj;have hb_wj:Below wi.heap.size wi wj:=(by obtain ⟨u,rfl⟩:=hwwj;exact u.h);clear hwwj;have HBhj:Hid (Below wh.heap.size wh wj):=HBhi.out.trans (hb_wj.mono HBhi.out.size);have HRj:Hid (Z4 wj B b R1 x):=HRh.out.below HBhj.out;refine Xm (.tmp 127) (.tmp 126) rfl rfl rfl (Hqm.out ⟨wj,HBhj.out⟩) (Hfm.out wj HRj.out) rfl ?_;have hS:=HRj.out.mtAt HVm.out J (by rw [HL1.out.mtl];exact hJN) M2;obtain ⟨wk,hwk⟩:∃ z,z=wj.setCell ⟨mg,J,none⟩ (.int .i64 M2):=⟨_,rfl⟩;rw [<-hwk,<-HRM.out] at hS;rw [<-hwk];have HRk:Hid (Z4 wk B b RM x):=hS.1;have HBk:Hid (Below B w wk):=(HBh.out.trans (HBhj.out.mono (Nat.le_trans hBw (by omega)))).trans hS.2;have BMk:Hid (Blk wk w.heap.size #[.int .i64 m.ki,.int .i64 m.fr,.int .i64 m.td,.int .i64 m.tm,.int .i64 m.li,.int .i64 m.lt,.int .i64 m.cm,.int .i64 m.ok,.int .i64 m.hi,.slice ea en ec] 43):=by unfold Hid;rw [hwk];exact (BMh.out.below HBhj.out hzh).keep (Below.heap_setCell _ _ _ _ HNg.out.2)
   have hmtl:RM.n.mt.length=R1.n.mt.length:=by rw [HRM.out];exact List.length_set
   have hnxe:RM.n.nx=R1.n.nx:=by rw [HRM.out]
   obtain ⟨ng2,nc2,hvn2,hnl2,cn2,fn2⟩:=Jd HRk.out.nx J (by rw [hnxe,HL1.out.ldb.nxl];exact hJN);obtain ⟨rfl,rfl⟩:ng=ng2/\nc=nc2:=by have:=HVn.out.symm.trans hvn2;simp only [Value.slice.injEq,Option.some.injEq,Addr.mk.injEq] at this;exact ⟨this.1.1,this.2.2⟩
   obtain ⟨mg2,mc2,hvm2,hml2,cm2,fm2⟩:=Jd HRk.out.mt J (by rw [hmtl,HL1.out.mtl];exact hJN);obtain ⟨rfl,rfl⟩:mg=mg2/\mc=mc2:=by have:=HVm.out.symm.trans hvm2;simp only [Value.slice.injEq,Option.some.injEq,Addr.mk.injEq] at this;exact ⟨this.1.1,this.2.2⟩
   have cn3:wk.cell? ⟨ng,J,none⟩=some (.int .i64 ((P:Int)+1)):=by rw [cn2];simp only [hnxe];rw [HPe.out]
   have cm3:wk.cell? ⟨mg,J,none⟩=some (.int .i64 M2):=by rw [hwk];exact World.cell?_setCell_same _ _ _ (Hqm.out ⟨wj,HBhj.out⟩)
   have NEk:Nonempty (BW wk):=⟨⟨wk,Below.refl _ _⟩⟩;have s14:∀ u:BW wk,u.w.cell? ⟨b,14,none⟩=some (.slice (some ⟨ng,0,none⟩) R1.n.nx.length nc):=fun u=>by rw [<-HVn.out];exact (HRk.out.below u.h).blk.cell 14
   have s15:∀ u:BW wk,u.w.cell? ⟨b,15,none⟩=some (.slice (some ⟨mg,0,none⟩) R1.n.mt.length mc):=fun u=>by rw [<-HVm.out];exact (HRk.out.below u.h).blk.cell 15
   have sn:∀ u:BW wk,u.w.cell? ⟨ng,J,none⟩=some (.int .i64 ((P:Int)+1)):=fun u=>(u.h.cell (p:=⟨ng,J,none⟩) hnl2).trans cn3
   have sm:∀ u:BW wk,u.w.cell? ⟨mg,J,none⟩=some (.int .i64 M2):=fun u=>(u.h.cell (p:=⟨mg,J,none⟩) hml2).trans cm3
   have hw2:IntKind.i64.wrap (M2+1)=M2+1:=by rw [IntKind.wrap_i64];omega
   have Hsn:Hid _:=sn
   have Hfn:Hid (∀ z,Below wk.heap.size wk z->z.frozen? ⟨ng,J,none⟩=false):=fun z hz=>by
    obtain ⟨g9,c9,h9,-,-,f9⟩:=Jd (HRk.out.below hz).nx J (by rw [hnxe,HL1.out.ldb.nxl];exact hJN);have h8:=HVn.out.symm.trans h9;simp only [Value.slice.injEq,Option.some.injEq,Addr.mk.injEq] at h8;rw [h8.1.1];exact f9
   have HNe:Hid (RM.n.nx=R1.n.nx):=hnxe;clear hS hwk r15 rm r4 NEi hb_wj hvn2 hvm2 hnl2 hml2 cn2 fn2 cm2 fm2 cn3 cm3 hmtl hnxe Hqm Hfm HRi HBi HRj HBhj HBhi HMx1
   go_upto_region 15 with fail
   refine Zn (C:=fun w'=>∃ u:BW wk,w'=u.w) _ (by kernel_rfl) rfl (by kernel_rfl) ⟨⟨_,(Below.refl _ _).drew⟩,rfl⟩ ?_;simp only [List.dropLast_cons_cons,List.dropLast_singleton]
   repeat (first | go_big_quiet_step ((go_at_call 94;refine (HMx2.out _).mono ?_;rintro e w9 ⟨rfl,rfl⟩;exact ⟨rfl,⟨_,rfl⟩⟩)))
   refine wpQuiet_nil ?_;intro wl0 hwwl0;have hb_wl0:Below wk.heap.size wk wl0:=(by obtain ⟨u,rfl⟩:=hwwl0;exact u.h);clear hwwl0;refine Xm (.tmp 152) (.tmp 151) rfl rfl rfl (Hsn.out ⟨wl0,hb_wl0⟩) (Hfn.out wl0 hb_wl0) rfl ?_;have hS:=(HRk.out.below hb_wl0).nxAt HVn.out J (by rw [HNe.out,HL1.out.ldb.nxl];exact hJN) V2;obtain ⟨wl,hwl⟩:∃ z,z=wl0.setCell ⟨ng,J,none⟩ (.int .i64 V2):=⟨_,rfl⟩;rw [<-hwl,HNe.out,<-HRX.out] at hS;rw [<-hwl];have HRl:Hid (Z4 wl B b RX x):=hS.1;have HBl:Hid (Below B w wl):=(HBk.out.trans (hb_wl0.mono (Nat.le_trans HRk.out.lo (Nat.le_of_lt HRk.out.lt)))).trans hS.2;have BMl:Hid (Blk wl w.heap.size #[.int .i64 m.ki,.int .i64 m.fr,.int .i64 m.td,.int .i64 m.tm,.int .i64 m.li,.int .i64 m.lt,.int .i64 m.cm,.int .i64 m.ok,.int .i64 m.hi,.slice ea en ec] 43):=by unfold Hid;rw [hwl];exact (BMk.out.below hb_wl0 BMk.out.lt).keep (Below.heap_setCell _ _ _ _ HNg.out.1)
   have HXe:Hid (RX.n.log=R1.n.log/\RX.n.id=R1.n.id/\RX.n.sz=R1.n.sz/\RX.n.cm=R1.n.cm/\RX.n.mt.length=N/\RX.n.nx=R1.n.nx.set J V2/\RX.n.st=R1.n.st):=by
    rw [HRX.out,HRM.out];exact ⟨rfl,rfl,rfl,rfl,by show (R1.n.mt.set J M2).length=N;rw [List.length_set];exact HL1.out.mtl,rfl,rfl⟩
   have HBX:Hid (NdB RX.n):=by rw [HRX.out,HRM.out];exact ⟨HB1.out.nw0,HB1.out.nw1,HB1.out.hd0,HB1.out.hd1,HB1.out.sz0,HB1.out.sz1,HB1.out.id0,HB1.out.id1,HB1.out.ln⟩
   clear hS hwl s14 s15 sn sm NEk Hsn Hfn hb_wl0 HRk HBk BMk HNe HRM HRX HMx2 hzi BMi HRh HBh BMh hzh hngw hmgw;obtain ⟨lo,hlo⟩:∃ lo:Nat,RX.n.cm=(lo:Int):=⟨RX.n.cm.toNat,by rw [HXe.out.2.2.2.1,HI1.out.2.2];omega⟩;obtain ⟨C,hC⟩:∃ C:Nat,C=Yt RX.n lo R1.n.log.length:=⟨_,rfl⟩;obtain ⟨RC,hRC⟩:∃ RC,RC=arCm RX:=⟨_,rfl⟩;have HRC:Hid (RC={ RX with n:={ RX.n with cm:=(C:Int) } }):=by unfold Hid;rw [hRC,hC];unfold arCm;rw [HXe.out.1,hlo];rfl
   have HQ9:Hid (RP=if V2<=(R1.n.log.length:Int) then RC.sendE J else RC):=by rw [hRC];exact HQ8.out
   have HCs:Hid (∀ k,Yt RX.n lo (k+1)=if k+1<=lo then lo else if Xu RX.n (k+1)=true then k+1 else Yt RX.n lo k):=fun k=>rfl
   have HC0:Hid (∀ k,k<=lo->Yt RX.n lo k=lo):=fun k hk=>by
    cases k with
    | zero=>rfl
    | succ k=>rw [HCs.out k,if_pos hk]
   have HCC:Hid _:=hC;have Hlo:Hid (RX.n.cm=(lo:Int)):=hlo;have c12:wl.cell? ⟨b,12,none⟩=some (.slice la R1.n.log.length lc):=by rw [<-HVl.out];exact HRl.out.blk.cell 12
   have HAg:Hid (∀ k:Nat,1<=k->k<=R1.n.log.length->∀ z,Below wl.heap.size wl z->Calls Tryz.prog 152 #[.agg (ndC RX.n x),.int .i64 (k:Int)] z fun e w'=>e=.returned (.bool (Xu RX.n k))/\Below z.heap.size z w'):=fun k h1 h2 z hz=>l4agreed_run HRl.out HBX.out k N z hz h1 (by rw [HXe.out.1];exact h2) (by rw [HXe.out.2.2.1,HI1.out.2.1];exact hN) HXe.out.2.2.2.2.1 hN7 (by rw [HXe.out.2.2.1,HI1.out.2.1];exact hodd)
   clear hlo hC hRC HQ8
   go_upto_region 17 with fail
   go_loopw [5] (fun kv wr=>∃ k:Nat,k<=R1.n.log.length/\kv=.int .i64 (k:Int)/\C=Yt RX.n lo k/\Below wl.heap.size wl wr) (fun kv _=>(intOf kv).toNat)
   case atStart=>exact ⟨R1.n.log.length,Nat.le_refl _,rfl,HCC.out,Below.refl _ _⟩
   case round=>
    obtain ⟨k,hk,rfl,hCk,hBr⟩:=hrel;have HCk:Hid _:=hCk;have HBr:Hid _:=hBr;have HRr:Hid (Z4 wr B b RX x):=HRl.out.below hBr;have c8:wr.cell? ⟨b,8,none⟩=some (.int .i64 (lo:Int)):=by rw [<-Hlo.out];exact HRr.out.blk.cell 8
    clear hCk hBr c12;by_cases hlk:lo<k
    ·obtain ⟨q,rfl⟩:∃ q,k=q+1:=⟨k-1,by omega⟩
     have hki:(lo:Int)<(q:Int)+1:=by omega
     have hst:=HCs.out q;rw [if_neg (by omega)] at hst;have HAq:Hid _:=HAg.out (q+1) (by omega) hk wr HBr.out;have hwq:IntKind.i64.wrap ((q:Int)+1-1)=(q:Int):=by rw [IntKind.wrap_i64];omega
     have hq4:q<=4096:=by omega
     cases hag:Xu RX.n (q+1)
     ·rw [hag,if_neg (by decide)] at hst
      have HN2:Hid (C=Yt RX.n lo q):=HCk.out.trans hst;have HA2:=HAq.out;rw [hag] at HA2;have HA3:Hid (Calls Tryz.prog 152 #[.agg (ndC RX.n x),.int .i64 ((q:Int)+1)] wr fun e w'=>e=.returned (.bool false)/\Below wr.heap.size wr w'):=HA2;have G3:Hid True:=trivial;clear hst hag HA2 HAq
      go_wp2_with (first
       |(have hBA:=G3;refine Z7 36 (.tmp 170) rfl ?_;clear hBA;refine Xj rfl (.tmp 170) rfl rfl HRr.out ?_;clear G3)
       |(go_at_call 152;refine Calls.mono HA3.out ?_;rintro e wq ⟨rfl,hbq⟩;have HBq:Hid (Below wl.heap.size wl wq):=HBr.out.trans (hbq.mono HBr.out.size);clear hbq))
      go_roundw
      case rel=>exact ⟨q,by omega,by go_num,HN2.out,HBq.out⟩
      case measure=>simp [intOf] <;> omega
     ·rw [hag,if_pos rfl] at hst
      have HN2:Hid (C=q+1):=HCk.out.trans hst;have HA2:=HAq.out;rw [hag] at HA2;have HA3:Hid (Calls Tryz.prog 152 #[.agg (ndC RX.n x),.int .i64 ((q:Int)+1)] wr fun e w'=>e=.returned (.bool true)/\Below wr.heap.size wr w'):=HA2;have G3:Hid True:=trivial
      have HF:Hid (∀ wq,Below wr.heap.size wr wq->Z4 (wq.setCell ⟨b,8,none⟩ (.int .i64 ((q:Int)+1))) B b RC x/\Below B w (wq.setCell ⟨b,8,none⟩ (.int .i64 ((q:Int)+1)))/\Blk (wq.setCell ⟨b,8,none⟩ (.int .i64 ((q:Int)+1))) w.heap.size #[.int .i64 m.ki,.int .i64 m.fr,.int .i64 m.td,.int .i64 m.tm,.int .i64 m.li,.int .i64 m.lt,.int .i64 m.cm,.int .i64 m.ok,.int .i64 m.hi,.slice ea en ec] 43/\wq.cell? ⟨b,8,none⟩=some (.int .i64 (lo:Int))/\wq.frozen? ⟨b,8,none⟩=false):=fun wq hq=>by
       have hRq:=HRr.out.below hq;refine ⟨?_,?_,?_,by rw [<-Hlo.out];exact hRq.blk.cell 8,hRq.blk.free 8⟩
       ·rw [HRC.out,HN2.out];exact hRq.set 8 _ (by rfl) rfl rfl rfl rfl rfl rfl rfl
       ·exact ((HBl.out.trans (HBr.out.mono (Nat.le_trans HRl.out.lo (Nat.le_of_lt HRl.out.lt)))).trans (hq.mono (Nat.le_trans HRr.out.lo (Nat.le_of_lt HRr.out.lt)))).setCell (p:=⟨b,8,none⟩) HRl.out.lo _
       ·exact ((BMl.out.below HBr.out BMl.out.lt).below hq (BMl.out.below HBr.out BMl.out.lt).lt).grown (Rd.frame 8 _) (by omega)
      clear hst hag HA2 HAq
      go_upto_region 21 with (first
       |(have hBA:=G3;refine Z7 36 (.tmp 170) rfl ?_;clear hBA;refine Xj rfl (.tmp 170) rfl rfl HRr.out ?_;clear G3)
       |(go_at_call 152;refine Calls.mono HA3.out ?_;rintro e wq ⟨rfl,hbq⟩;obtain ⟨h1,h2,h3,d8,g8⟩:=HF.out wq hbq;have HF1:Hid _:=h1;have HF2:Hid _:=h2;have HF3:Hid _:=h3;clear h1 h2 h3 hbq))
      obtain ⟨wm,hwm⟩:∃ z,z=wq.setCell ⟨b,8,none⟩ (.int .i64 ((q:Int)+1)):=⟨_,rfl⟩;rw [<-hwm];have hR9:Z4 wm B b RC x:=by rw [hwm];exact HF1.out
      have hB9:Below B w wm:=by rw [hwm];exact HF2.out
      have hM9:Blk wm w.heap.size #[.int .i64 m.ki,.int .i64 m.fr,.int .i64 m.td,.int .i64 m.tm,.int .i64 m.li,.int .i64 m.lt,.int .i64 m.cm,.int .i64 m.ok,.int .i64 m.hi,.slice ea en ec] 43:=by rw [hwm];exact HF3.out
      clear hwm HF1 HF2 HF3 HF d8 g8 HA3 HN2 HRr HBr HCk c8;have HRm:Hid _:=hR9;have HBm:Hid _:=hB9;have n1:wm.cell? ⟨w.heap.size,1,none⟩=some (.int .i64 ((J:Int)+1)):=by rw [<-HJ.out];exact hM9.cell 1
      have BMm:Hid (Blk wm w.heap.size _ 43):=hM9;have HCe:Hid (RC.n.log=R1.n.log/\RC.n.nx=R1.n.nx.set J V2/\RC.n.st=R1.n.st):=by rw [HRC.out];exact ⟨HXe.out.1,HXe.out.2.2.2.2.2.1,HXe.out.2.2.2.2.2.2⟩
      have HBC:Hid (NdB RC.n):=by rw [HRC.out];exact ⟨HBX.out.nw0,HBX.out.nw1,HBX.out.hd0,HBX.out.hd1,HBX.out.sz0,HBX.out.sz1,HBX.out.id0,HBX.out.id1,HBX.out.ln⟩
      have hJn:J<RC.n.nx.length:=by rw [HCe.out.2.1,List.length_set,HL1.out.ldb.nxl];exact hJN
      obtain ⟨ng3,nc3,hvn3,hnl3,cn3,fn3⟩:=Jd HRm.out.nx J hJn;have e14:wm.cell? ⟨b,14,none⟩=some (.slice (some ⟨ng3,0,none⟩) R1.n.nx.length nc3):=by have h9:=HRm.out.blk.cell 14;rw [h9];show some x.vn=_;rw [hvn3,HCe.out.2.1,List.length_set]
      have en:wm.cell? ⟨ng3,J,none⟩=some (.int .i64 V2):=by rw [cn3];simp only [HCe.out.2.1];rw [List.getElem_set_self]
      have c12:wm.cell? ⟨b,12,none⟩=some (.slice la R1.n.log.length lc):=by rw [<-HVl.out];exact HRm.out.blk.cell 12
      obtain ⟨P3,hP3⟩:∃ P3:Nat,V2=(P3:Int)+1:=⟨(V2-1).toNat,by omega⟩;have HP3:Hid _:=hP3;clear hR9 hB9 hM9 hvn3 cn3 fn3 hP3 HCs HC0 HCC Hlo HAg HRl HBl BMl HRC HXe HBX HVm HVn;go_quiet (fail)
      obtain ⟨wn,hwn⟩:∃ z,z=wm.drewN nq:=⟨_,rfl⟩;have hbn:Below wm.heap.size wm wn:=by rw [hwn];exact ⟨rfl,rfl,rfl,Nat.le_refl _,fun _ _=>rfl⟩
      rw [<-hwn];have HRn:Hid (Z4 wn B b RC x):=HRm.out.below hbn;have HBn:Hid (Below B w wn):=HBm.out.trans (hbn.mono (Nat.le_trans HRm.out.lo (Nat.le_of_lt HRm.out.lt)));have n1':wn.cell? ⟨w.heap.size,1,none⟩=some (.int .i64 ((J:Int)+1)):=by rw [<-HJ.out];exact (BMm.out.below hbn BMm.out.lt).cell 1
      clear hwn hbn n1 e14 en c12 HRm HBm BMm
      go_upto_if 193 with fail
      by_cases hvl2:V2<=(R1.n.log.length:Int)
      ·have HQA:Hid (RP=RC.sendE J):=HQ9.out.trans (if_pos hvl2)
       have HSd:Hid _:=Xg b RC x J P3 wn B HRn.out HBC.out (by omega) hJn (by rw [HCe.out.2.2,HL1.out.ldb.stl];exact hJN) hJ9 (by simp only [HCe.out.2.1];rw [List.getElem_set_self];exact HP3.out) (by rw [HCe.out.1];have:=HP3.out;omega);rw [show decide (V2<=(R1.n.log.length:Int))=true from decide_eq_true hvl2];clear hvl2 HQ9
       go_wp2_with (first
        |(go_at_call 116;refine Calls.mono HSd.out ?_;rintro e wz ⟨v9,y9,rfl,hRz,hbz⟩;have HRz:Hid _:=hRz;have HBz:Hid (Below B w wz):=HBn.out.trans hbz;clear hRz hbz))
       (try simp only [Exit.inBlock,Exit.then])
       exact bodyPost_end (results_none rfl _ _ _) rfl ⟨_,rfl,by rw [HQA.out];exact HRz.out,HBz.out⟩
      ·have HQA:Hid (RP=RC):=HQ9.out.trans (if_neg hvl2)
       rw [show decide (V2<=(R1.n.log.length:Int))=false from decide_eq_false hvl2];have HF9:Hid (Z4 wn B b RP x):=by unfold Hid;rw [HQA.out];exact HRn.out
       clear hvl2 HQ9 HQA
       go_wp2_with fail
       (try simp only [Exit.inBlock,Exit.then])
       first
        | exact bodyPost_end (results_none rfl _ _ _) rfl ⟨x,rfl,HF9.out,HBn.out⟩
        | exact bodyPost_end (results_none rfl _ _ _) rfl ⟨rfl,⟨x,HF9.out⟩,HBn.out⟩
    ·have hki:¬(lo:Int)<(k:Int):=by omega
     have HN2:Hid (C=lo):=HCk.out.trans (HC0.out k (by omega));have HF:Hid (Z4 wr B b RC x):=by unfold Hid;rw [HRC.out,HN2.out,<-Hlo.out];exact HRr.out
     go_upto_region 21 with fail
     have hR9:Z4 wr B b RC x:=HF.out;have hX9:Below B w wr/\Blk wr w.heap.size #[.int .i64 m.ki,.int .i64 m.fr,.int .i64 m.td,.int .i64 m.tm,.int .i64 m.li,.int .i64 m.lt,.int .i64 m.cm,.int .i64 m.ok,.int .i64 m.hi,.slice ea en ec] 43:=⟨ HBl.out.trans (HBr.out.mono (Nat.le_trans HRl.out.lo (Nat.le_of_lt HRl.out.lt))),BMl.out.below HBr.out BMl.out.lt⟩;obtain ⟨wm,hwm⟩:∃ z,z=wr:=⟨_,rfl⟩;rw [<-hwm] at hR9 hX9;obtain ⟨hB9,hM9⟩:=hX9;rw [<-hwm];clear hwm HF HN2 HRr HBr HCk c8;have HRm:Hid _:=hR9;have HBm:Hid _:=hB9;have n1:wm.cell? ⟨w.heap.size,1,none⟩=some (.int .i64 ((J:Int)+1)):=by rw [<-HJ.out];exact hM9.cell 1
     have BMm:Hid (Blk wm w.heap.size _ 43):=hM9;have HCe:Hid (RC.n.log=R1.n.log/\RC.n.nx=R1.n.nx.set J V2/\RC.n.st=R1.n.st):=by rw [HRC.out];exact ⟨HXe.out.1,HXe.out.2.2.2.2.2.1,HXe.out.2.2.2.2.2.2⟩
     have HBC:Hid (NdB RC.n):=by rw [HRC.out];exact ⟨HBX.out.nw0,HBX.out.nw1,HBX.out.hd0,HBX.out.hd1,HBX.out.sz0,HBX.out.sz1,HBX.out.id0,HBX.out.id1,HBX.out.ln⟩
     have hJn:J<RC.n.nx.length:=by rw [HCe.out.2.1,List.length_set,HL1.out.ldb.nxl];exact hJN
     obtain ⟨ng3,nc3,hvn3,hnl3,cn3,fn3⟩:=Jd HRm.out.nx J hJn;have e14:wm.cell? ⟨b,14,none⟩=some (.slice (some ⟨ng3,0,none⟩) R1.n.nx.length nc3):=by have h9:=HRm.out.blk.cell 14;rw [h9];show some x.vn=_;rw [hvn3,HCe.out.2.1,List.length_set]
     have en:wm.cell? ⟨ng3,J,none⟩=some (.int .i64 V2):=by rw [cn3];simp only [HCe.out.2.1];rw [List.getElem_set_self]
     have c12:wm.cell? ⟨b,12,none⟩=some (.slice la R1.n.log.length lc):=by rw [<-HVl.out];exact HRm.out.blk.cell 12
     obtain ⟨P3,hP3⟩:∃ P3:Nat,V2=(P3:Int)+1:=⟨(V2-1).toNat,by omega⟩;have HP3:Hid _:=hP3;clear hR9 hB9 hM9 hvn3 cn3 fn3 hP3 HCs HC0 HCC Hlo HAg HRl HBl BMl HRC HXe HBX HVm HVn;go_quiet (fail)
     obtain ⟨wn,hwn⟩:∃ z,z=wm.drewN nq:=⟨_,rfl⟩;have hbn:Below wm.heap.size wm wn:=by rw [hwn];exact ⟨rfl,rfl,rfl,Nat.le_refl _,fun _ _=>rfl⟩
     rw [<-hwn];have HRn:Hid (Z4 wn B b RC x):=HRm.out.below hbn;have HBn:Hid (Below B w wn):=HBm.out.trans (hbn.mono (Nat.le_trans HRm.out.lo (Nat.le_of_lt HRm.out.lt)));have n1':wn.cell? ⟨w.heap.size,1,none⟩=some (.int .i64 ((J:Int)+1)):=by rw [<-HJ.out];exact (BMm.out.below hbn BMm.out.lt).cell 1
     clear hwn hbn n1 e14 en c12 HRm HBm BMm
     go_upto_if 193 with fail
     by_cases hvl2:V2<=(R1.n.log.length:Int)
     ·have HQA:Hid (RP=RC.sendE J):=HQ9.out.trans (if_pos hvl2)
      have HSd:Hid _:=Xg b RC x J P3 wn B HRn.out HBC.out (by omega) hJn (by rw [HCe.out.2.2,HL1.out.ldb.stl];exact hJN) hJ9 (by simp only [HCe.out.2.1];rw [List.getElem_set_self];exact HP3.out) (by rw [HCe.out.1];have:=HP3.out;omega);rw [show decide (V2<=(R1.n.log.length:Int))=true from decide_eq_true hvl2];clear hvl2 HQ9
      go_wp2_with (first
       |(go_at_call 116;refine Calls.mono HSd.out ?_;rintro e wz ⟨v9,y9,rfl,hRz,hbz⟩;have HRz:Hid _:=hRz;have HBz:Hid (Below B w wz):=HBn.out.trans hbz;clear hRz hbz))
      (try simp only [Exit.inBlock,Exit.then])
      exact bodyPost_end (results_none rfl _ _ _) rfl ⟨_,rfl,by rw [HQA.out];exact HRz.out,HBz.out⟩
     ·have HQA:Hid (RP=RC):=HQ9.out.trans (if_neg hvl2)
      rw [show decide (V2<=(R1.n.log.length:Int))=false from decide_eq_false hvl2];have HF9:Hid (Z4 wn B b RP x):=by unfold Hid;rw [HQA.out];exact HRn.out
      clear hvl2 HQ9 HQA
      go_wp2_with fail
      (try simp only [Exit.inBlock,Exit.then])
      first
       | exact bodyPost_end (results_none rfl _ _ _) rfl ⟨x,rfl,HF9.out,HBn.out⟩
       | exact bodyPost_end (results_none rfl _ _ _) rfl ⟨rfl,⟨x,HF9.out⟩,HBn.out⟩
end Go.Proofs.YtmmpoppgabadmaaGreat
