import Derived.Test.YtmmpoppgabadmaaGreatG08
set_option linter.unusedVariables false
set_option linter.unusedSimpArgs false
set_option maxRecDepth 100000
set_option maxHeartbeats 16000000
namespace Go.Proofs.YtmmpoppgabadmaaGreat
open Go.RowKit
theorem Z4.blkGrew {w w2 w3:World}{B b:Nat}{r:Rn}{x:RV}{u v:Value}(h:Z4 w B b r x)(h2:Below w.heap.size w w2)(hu:∀ k,u.ownBlock=some k->k≠b)(hg:Jy w2 u w3 v):Blk w3 b (rnC r x) 112:=
 h.blk.keep ((hg.g.block b (Nat.lt_of_lt_of_le h.lt h2.size) (fun e=>hu b e.symm rfl)).trans (h2.block b h.lt))
def ldN (R:Rn)(nx mt se st:List Int):Rn:={ R with n:={ R.n with nx:=nx,mt:=mt,se:=se,st:=st } }
def lv (id:Int)(k:Nat)(y:Int):Int:=if (k:Int)+1=id then 0 else y
theorem Z30 (id:Int)(k:Nat)(y:Int):Zl id (k+1) y=Zl id k y ++ [lv id k y]:=by
 unfold Zl lv;rw [List.range_succ,List.map_append];rfl
theorem Jc (id:Int)(k:Nat)(y:Int):(Zl id k y).length=k:=by unfold Zl;simp
theorem lv_zero (id:Int)(k:Nat):lv id k 0=0:=by unfold lv;split <;> rfl
theorem leadL_get (id:Int)(k:Nat)(y:Int)(J:Nat)(h:J<k):(Zl id k y)[J]? = some (lv id J y):=by unfold Zl lv;simp [h]
def vrB (n:Nd)(m:Mg):Bool:=(n.ro != 2) || (m.tm != n.tm) || (m.ok != 1) || Jq m.fr n.gr
theorem vrB_iff (n:Nd)(m:Mg):vrB n m=true↔n.ro≠2∨m.tm≠n.tm∨m.ok≠1∨m.fr∈n.gr:=by
 unfold vrB Jq;simp [or_assoc]
def e0 (t:Int):Ent:=⟨t,0,0,0,⟨#[]⟩,⟨#[]⟩,⟨#[]⟩⟩
def leadR (r:Rn):Rn:={ r.lone with n:={ r.lone.n with ro:=3,ld:=r.n.id } }
def J7 (r:Rn):Rn:=let R:=ldN (leadR r) (Zl r.n.id r.n.sz.toNat ((r.n.log.length:Int)+1)) (Zl r.n.id r.n.sz.toNat 0) (Zl r.n.id r.n.sz.toNat r.n.nw) (Zl r.n.id r.n.sz.toNat r.n.nw)
 { R with n:={ R.n with log:=if r.n.log.length<4096 then r.n.log ++ [e0 r.n.tm] else r.n.log } }
theorem lead_eq (r:Rn):r.lead=(J7 r).sendAll:=rfl
theorem Z5d (r:Rn)(hb:NdB r.n):LdB (J7 r).n (J7 r).n.sz.toNat/\NdB (J7 r).n:=by
 have hlog:(J7 r).n.log=if r.n.log.length<4096 then r.n.log ++ [e0 r.n.tm] else r.n.log:=rfl
 have hge:r.n.log.length<=(J7 r).n.log.length:=by rw [hlog];split <;> simp
 have hle:(J7 r).n.log.length<=4096:=by rw [hlog];have:=hb.ln;split <;> simp <;> omega
 refine ⟨⟨Jc _ _ _,Jc _ _ _,?_⟩,⟨hb.nw0,hb.nw1,hb.hd0,hb.hd1,hb.sz0,hb.sz1,hb.id0,hb.id1,hle⟩⟩;intro J hJ hne;refine ⟨r.n.log.length,hge,?_⟩;have hne2:(J:Int)+1≠r.n.id:=hne;have h9:J<r.n.sz.toNat:=by rw [show (J7 r).n.nx=Zl r.n.id r.n.sz.toNat ((r.n.log.length:Int)+1) from rfl,Jc] at hJ;exact hJ
 have h8:(J7 r).n.nx[J]? = some ((r.n.log.length:Int)+1):=by
  rw [show (J7 r).n.nx=Zl r.n.id r.n.sz.toNat ((r.n.log.length:Int)+1) from rfl,leadL_get _ _ _ _ h9];unfold lv;rw [if_neg hne2]
 exact Option.some.inj ((List.getElem?_eq_getElem hJ).symm.trans h8)
theorem Z4s (b:Nat)(r:Rn)(x:RV)(m:Mg)(ea:Option Addr)(en ec:Nat)(w:World)(B:Nat)(h:Z4 w B b r x)(hb:NdB r.n)(hd : -(2^63)<=r.draw)(hD:r.draw<2^63)(hL:x.L = [])(hodd:r.n.sz%2=1)(hgl:r.n.gr.length<=1000) :
  Calls Tryz.prog 122 #[.pointer (some ⟨b,0,none⟩),.agg #[.int .i64 m.ki,.int .i64 m.fr,.int .i64 m.td,.int .i64 m.tm,.int .i64 m.li,.int .i64 m.lt,.int .i64 m.cm,.int .i64 m.ok,.int .i64 m.hi,.slice ea en ec]] w fun e w'=>∃ x',e=.returned (.tuple #[])/\Z4 w' B b (r.voteReply m) x'/\Below B w w':=by
 have HRw:Hid (∀ z,Below w.heap.size w z->Z4 z B b r x):=fun z hz=>h.below hz
 have hBw:B<=w.heap.size:=Nat.le_trans h.lo (Nat.le_of_lt h.lt);have hbl:=h.lt
 have HQ:Hid (r.voteReply m=if r.n.tm<m.tm then r.adopt m.tm else if r.n.ro≠2∨m.tm≠r.n.tm∨m.ok≠1∨m.fr∈r.n.gr then r.stale else
  if Xe (Zh r.n.gr m.fr r.n.sz.toNat).length r.n.sz=true then r.lead
  else { r with n:={ r.n with gr:=Zh r.n.gr m.fr r.n.sz.toNat } }):=rfl
 have HAd:Hid (∀ z,Z4 z B b r x->Calls Tryz.prog 149 #[.pointer (some ⟨b,0,none⟩),.int .i64 m.tm] z fun e w'=>e=.returned (.tuple #[])/\Z4 w' B b (r.adopt m.tm) x.lone/\Below B z w'/\z.grownBy w' (some b)):=fun z hz=>Z0n b r x m.tm z B hz hd hD hb.nw0 hb.nw1
 generalize r.voteReply m=RP at *;obtain ⟨w1,hw1⟩:∃ z,z=w.alloc (.cells #[.int .i64 m.ki,.int .i64 m.fr,.int .i64 m.td,.int .i64 m.tm,.int .i64 m.li,.int .i64 m.lt,.int .i64 m.cm,.int .i64 m.ok,.int .i64 m.hi,.slice ea en ec] 43):=⟨_,rfl⟩;have HB1:Hid (Below w.heap.size w w1):=by rw [hw1];exact (Below.refl _ _).alloc (Nat.le_refl _) _
 have BM1:Hid (Blk w1 w.heap.size #[.int .i64 m.ki,.int .i64 m.fr,.int .i64 m.td,.int .i64 m.tm,.int .i64 m.li,.int .i64 m.lt,.int .i64 m.cm,.int .i64 m.ok,.int .i64 m.hi,.slice ea en ec] 43):=by rw [hw1];exact Blk.new _ _ _
 have hz1:w.heap.size<w1.heap.size:=BM1.out.lt;have n3:w1.cell? ⟨w.heap.size,3,none⟩=some (.int .i64 m.tm):=BM1.out.cell 3;have k4:w1.cell? ⟨b,4,none⟩=some (.int .i64 r.n.tm):=(HRw.out _ HB1.out).blk.cell 4;go_enter Tryz.func122,Tryz.ntmps122
 go_upto_region 1 with fail
 rw [<-hw1];clear hw1;go_quiet (fail)
 obtain ⟨w4,hw4⟩:∃ z,z=w1.drewN nq:=⟨_,rfl⟩;have hb4:Below w1.heap.size w1 w4:=by rw [hw4];exact ⟨rfl,rfl,rfl,Nat.le_refl _,fun _ _=>rfl⟩
 rw [<-hw4];have HB4:Hid (Below w.heap.size w w4):=HB1.out.trans (hb4.mono (by omega));have BM4:Hid (Blk w4 w.heap.size _ 43):=BM1.out.below hb4 hz1;have hz4:w.heap.size<w4.heap.size:=BM4.out.lt;clear hw4 hb4 k4 n3 HB1 BM1 hz1
 go_upto_if 14 with fail
 by_cases ht:r.n.tm<m.tm
 ·have HQ3:Hid (RP=r.adopt m.tm):=HQ.out.trans (if_pos ht)
  have hdt:decide (r.n.tm<m.tm)=true:=decide_eq_true ht;have n3:w4.cell? ⟨w.heap.size,3,none⟩=some (.int .i64 m.tm):=BM4.out.cell 3;rw [hdt];clear HQ ht hdt
  go_wp2_with (first
   |(go_at_call 149;refine (HAd.out _ (HRw.out _ HB4.out)).mono ?_;rintro e w5 ⟨rfl,h5,b5,-⟩;have H5:Hid _:=h5;have B5:Hid (Below B w w5):=(HB4.out.mono hBw).trans b5;clear h5 b5))
  (try simp only [Exit.inBlock,Exit.then])
  exact bodyPost_ret (results_none rfl _ _ _) rfl ⟨_,rfl,by rw [HQ3.out];exact H5.out,B5.out⟩
 have HQ2:=HQ.out.trans (if_neg ht);have HQ3:Hid _:=HQ2;have hdt:decide (r.n.tm<m.tm)=false:=decide_eq_false ht;rw [hdt];clear HQ HQ2 ht HAd hdt;obtain ⟨ga,gc,hvg⟩:=h.gr.shape;have k13:w4.cell? ⟨b,13,none⟩=some (.slice ga r.n.gr.length gc):=by rw [<-hvg];exact (HRw.out _ HB4.out).blk.cell 13
 have k6:w4.cell? ⟨b,6,none⟩=some (.int .i64 r.n.ro):=(HRw.out _ HB4.out).blk.cell 6;have k4:w4.cell? ⟨b,4,none⟩=some (.int .i64 r.n.tm):=(HRw.out _ HB4.out).blk.cell 4;have n3:w4.cell? ⟨w.heap.size,3,none⟩=some (.int .i64 m.tm):=BM4.out.cell 3;have n7:w4.cell? ⟨w.heap.size,7,none⟩=some (.int .i64 m.ok):=BM4.out.cell 7;have n1:w4.cell? ⟨w.heap.size,1,none⟩=some (.int .i64 m.fr):=BM4.out.cell 1;have HHas:Hid (∀ z,Below w.heap.size w z->Calls Tryz.prog 99 #[.slice ga r.n.gr.length gc,.int .i64 m.fr] z fun e w'=>e=.returned (.bool (Jq m.fr r.n.gr))/\w'=z):=fun z hz=>Z09 _ r.n.gr m.fr z (by rw [<-hvg];exact ownI_ix (h.below hz).gr (by omega))
 clear h hvg
 go_upto_region 3 with fail
 go_cut [49] (fun s wx=>s=.bool (vrB r.n m)/\Below w4.heap.size w4 wx)
 case first=>
  have HV:Hid (vrB r.n m=((r.n.ro != 2) || (m.tm != r.n.tm) || (m.ok != 1) || Jq m.fr r.n.gr)):=rfl;have hz1w:w4.heap.size<=w4.heap.size:=Nat.le_refl _;generalize vrB r.n m=VB at *;cases hc1:(r.n.ro != 2)
  ·cases hc2:(m.tm != r.n.tm)
   ·cases hc3:(m.ok != 1)
    ·rw [hc1,hc2,hc3] at HV
     go_quiet ((go_at_call 99;exact Calls.quiet_of_same (HHas.out _ (HB4.out.trans ⟨rfl,rfl,rfl,hz1w,fun _ _=>rfl⟩))))
     go_wp2_with fail
     go_meet;exact ⟨by rw [HV.out];rfl,⟨rfl,rfl,rfl,Nat.le_refl _,fun _ _=>rfl⟩⟩
    ·rw [hc1,hc2,hc3] at HV
     go_quiet (fail)
     go_wp2_with fail
     go_meet;exact ⟨by rw [HV.out];rfl,⟨rfl,rfl,rfl,Nat.le_refl _,fun _ _=>rfl⟩⟩
   ·rw [hc1,hc2] at HV
    go_quiet (fail)
    go_wp2_with fail
    go_meet;exact ⟨by rw [HV.out];rfl,⟨rfl,rfl,rfl,Nat.le_refl _,fun _ _=>rfl⟩⟩
  ·rw [hc1] at HV
   go_quiet (fail)
   go_wp2_with fail
   go_meet;exact ⟨by rw [HV.out];rfl,⟨rfl,rfl,rfl,Nat.le_refl _,fun _ _=>rfl⟩⟩
 case rest=>
  obtain ⟨rfl,hB6⟩:=hcut;obtain ⟨w6,hw6⟩:∃ z,z=wc:=⟨_,rfl⟩;rw [<-hw6] at hB6;subst hw6;have HB6:Hid (Below w.heap.size w w6):=HB4.out.trans (hB6.mono (by omega));have n1':w6.cell? ⟨w.heap.size,1,none⟩=some (.int .i64 m.fr):=(BM4.out.below hB6 hz4).cell 1;have HR6:Hid (Z4 w6 B b r x):=HRw.out _ HB6.out;have k19:w6.cell? ⟨b,19,none⟩=some (.int .i64 r.code):=HR6.out.blk.cell 19;have f19:w6.frozen? ⟨b,19,none⟩=false:=HR6.out.blk.free 19;clear hB6 k4 k6 k13 n1 n3 n7 HHas HRw HB4 BM4
  go_upto_if 49 with fail
  by_cases hv:vrB r.n m=true
  ·have HQ4:Hid (RP=r.stale):=HQ3.out.trans (if_pos ((vrB_iff _ _).1 hv))
   rw [hv];clear HQ3 hv
   go_wp2_with (fail)
   (try simp only [Exit.inBlock,Exit.then])
   refine bodyPost_ret (results_none rfl _ _ _) rfl ⟨x,rfl,?_,(HB6.out.mono hBw).trans (HR6.out.setB 19 _)⟩;rw [HQ4.out];exact HR6.out.set 19 _ rfl rfl rfl rfl rfl rfl rfl rfl
  have hv2:vrB r.n m=false:=by simpa using hv
  have HQ4:=HQ3.out.trans (if_neg fun h=>hv ((vrB_iff _ _).2 h));rw [hv2];obtain ⟨G,hG⟩:∃ G,G=Zh r.n.gr m.fr r.n.sz.toNat:=⟨_,rfl⟩;rw [<-hG] at HQ4;have HQ5:Hid _:=HQ4;have HGr:Hid (Calls Tryz.prog 150 #[.pointer (some ⟨b,0,none⟩),.int .i64 m.fr] w6 fun e w'=>∃ v,e=.returned (.bool (Xe G.length r.n.sz))/\Z4 w' B b { r with n:={ r.n with gr:=G } } { x with vg:=v }/\Below B w6 w'/\w6.grownBy w' (some b)):=by rw [hG];exact Z4h b r x m.fr w6 B HR6.out hb hodd hgl
  clear HQ3 hv hv2 hG HQ4 k19 f19;by_cases hmj:Xe G.length r.n.sz=true
  case neg=>
   have HQ6:=HQ5.out.trans (if_neg hmj);have hmf:Xe G.length r.n.sz=false:=by simpa using hmj
   have HQ7:Hid _:=HQ6;rw [hmf] at HGr;clear HQ5 HQ6 hmj hmf
   go_wp2_with (first
    |(go_at_call 150;refine Calls.mono HGr.out ?_;rintro e w7 ⟨vg,rfl,h7,b7,-⟩;have HR7:Hid _:=h7;have HB7:Hid (Below B w w7):=(HB6.out.mono hBw).trans b7;clear h7 b7))
   (try simp only [Exit.inBlock,Exit.then])
   exact bodyPost_ret (results_none rfl _ _ _) rfl ⟨_,rfl,by rw [HQ7.out];exact HR7.out,HB7.out⟩
  have HQ7:Hid (RP=(J7 r).sendAll):=(HQ5.out.trans (if_pos hmj)).trans (lead_eq r);rw [hmj] at HGr;clear HQ5 hmj;obtain ⟨RL,hRL⟩:∃ RL,RL=leadR r:=⟨_,rfl⟩
  go_upto_region 7 with (first
   |(go_at_call 150;refine Calls.mono HGr.out ?_;rintro e w7 ⟨vg,rfl,h7,b7,g7⟩;have HR7:Hid _:=h7;have HB7:Hid (Below B w w7):=(HB6.out.mono hBw).trans b7;clear h7 b7 g7)
   |(go_at_call 114;refine Calls.mono (Z0a b _ _ w7 B HR7.out) ?_;rintro e w8 ⟨rfl,h8,b8,-⟩;have HR8:Hid _:=h8;have HB8:Hid (Below B w w8):=HB7.out.trans b8;clear h8 b8))
  have c6:w8.cell? ⟨b,6,none⟩=some (.int .i64 r.lone.n.ro):=HR8.out.blk.cell 6;have f6:w8.frozen? ⟨b,6,none⟩=false:=HR8.out.blk.free 6;have c7:w8.cell? ⟨b,7,none⟩=some (.int .i64 r.lone.n.ld):=HR8.out.blk.cell 7;have f7:w8.frozen? ⟨b,7,none⟩=false:=HR8.out.blk.free 7;have c0:w8.cell? ⟨b,0,none⟩=some (.int .i64 r.n.id):=HR8.out.blk.cell 0
  go_upto_region 9 with fail
  obtain ⟨w9,hw9⟩:∃ z,z=(w8.setCell ⟨b,6,none⟩ (.int .i64 3)).setCell ⟨b,7,none⟩ (.int .i64 r.n.id):=⟨_,rfl⟩
  have HR9:Hid (Z4 w9 B b RL x.lone):=by
   rw [hw9,hRL];exact (HR8.out.set (r':={ r.lone with n:={ r.lone.n with ro:=3 } }) 6 _ rfl rfl rfl rfl rfl rfl rfl rfl).set 7 _ rfl rfl rfl rfl rfl rfl rfl rfl
  have HB9:Hid (Below B w w9):=by
   rw [hw9];exact (HB8.out.setCell (p:=⟨b,6,none⟩) HR8.out.lo _).setCell (p:=⟨b,7,none⟩) HR8.out.lo _
  rw [<-hw9];clear hw9 c6 f6 c7 f7 c0 HR8 HB8 HR7 HB7 HR6 HB6 HGr n1';obtain ⟨N,hN⟩:∃ N:Nat,r.n.sz=N:=⟨r.n.sz.toNat,by have:=hb.sz0;omega⟩;have hN7:N<=7:=by have:=hb.sz1;omega
  have hln:=hb.ln;have HE:Hid (RL.n.sz=(N:Int)/\RL.n.id=r.n.id/\RL.n.nw=r.n.nw/\RL.n.log=r.n.log/\RL.n.tm=r.n.tm):=by rw [hRL];exact ⟨hN,rfl,rfl,rfl,rfl⟩
  have HK0:Hid (RL=ldN RL (Zl r.n.id 0 ((r.n.log.length:Int)+1)) (Zl r.n.id 0 0) (Zl r.n.id 0 r.n.nw) (Zl r.n.id 0 r.n.nw)):=by rw [hRL];rfl
  have HQ8:Hid (RP=Rn.sendAll { ldN RL (Zl r.n.id N ((r.n.log.length:Int)+1)) (Zl r.n.id N 0) (Zl r.n.id N r.n.nw) (Zl r.n.id N r.n.nw) with n:={ (ldN RL (Zl r.n.id N ((r.n.log.length:Int)+1)) (Zl r.n.id N 0) (Zl r.n.id N r.n.nw) (Zl r.n.id N r.n.nw)).n with log:=if r.n.log.length<4096 then r.n.log ++ [e0 r.n.tm] else r.n.log } }):=by
   unfold Hid;rw [HQ7.out,hRL];unfold J7;rw [hN];rfl
  have HLd:Hid (LdB (J7 r).n (J7 r).n.sz.toNat/\NdB (J7 r).n):=Z5d r hb;have HLe:Hid (J7 r={ ldN RL (Zl r.n.id N ((r.n.log.length:Int)+1)) (Zl r.n.id N 0) (Zl r.n.id N r.n.nw) (Zl r.n.id N r.n.nw) with n:={ (ldN RL (Zl r.n.id N ((r.n.log.length:Int)+1)) (Zl r.n.id N 0) (Zl r.n.id N r.n.nw) (Zl r.n.id N r.n.nw)).n with log:=if r.n.log.length<4096 then r.n.log ++ [e0 r.n.tm] else r.n.log } }):=by rw [hRL];unfold J7;rw [hN];rfl
  clear hRL HQ7 hN hb
  go_upto_region 10 with fail
  go_loopw [4,5,6] (fun jv _ _ wr=>∃ k:Nat,k<=N/\jv=.int .i64 ((k:Int)+1)/\∃ X,Z4 wr B b (ldN RL (Zl r.n.id k ((r.n.log.length:Int)+1)) (Zl r.n.id k 0) (Zl r.n.id k r.n.nw) (Zl r.n.id k r.n.nw)) X/\X.L = []/\Below B w wr) (fun jv _ _ _=>N+1-(intOf jv).toNat)
  case atStart=>exact ⟨0,Nat.zero_le _,rfl,x.lone,by rw [<-HK0.out];exact HR9.out,hL,HB9.out⟩
  case round=>
   obtain ⟨k,hk,rfl,X,hR,hXL,hBr⟩:=hrel;have HRr:Hid _:=hR;have HBr:Hid _:=hBr;have HXL:Hid (X.L = []):=hXL;have c1:wr.cell? ⟨b,1,none⟩=some (.int .i64 (N:Int)):=by rw [<-HE.out.1];exact hR.blk.cell 1
   obtain ⟨la,lc,hvl⟩:=hR.log.shape;have c12:wr.cell? ⟨b,12,none⟩=some (.slice la r.n.log.length lc):=by rw [<-HE.out.2.2.2.1];exact hvl ▸ hR.blk.cell 12
   have c9:wr.cell? ⟨b,9,none⟩=some (.int .i64 r.n.nw):=by rw [<-HE.out.2.2.1];exact hR.blk.cell 9
   have c0:wr.cell? ⟨b,0,none⟩=some (.int .i64 r.n.id):=by rw [<-HE.out.2.1];exact hR.blk.cell 0
   have c4:wr.cell? ⟨b,4,none⟩=some (.int .i64 r.n.tm):=by rw [<-HE.out.2.2.2.2];exact hR.blk.cell 4
   have HVl:Hid (X.vl=.slice la r.n.log.length lc):=by rw [<-HE.out.2.2.2.1];exact hvl
   clear hR hXL hBr hvl HR9 HB9;by_cases hlt:k<N
   ·have hle:((k:Int)+1)<=(N:Int):=by omega
    have hwr:IntKind.i64.wrap ((r.n.log.length:Int)+1)=(r.n.log.length:Int)+1:=by rw [IntKind.wrap_i64];omega
    go_upto_region 12 with fail
    go_quiet (fail)
    obtain ⟨wa,hwa⟩:∃ z,z=wr.drewN nq:=⟨_,rfl⟩;have hba:Below wr.heap.size wr wa:=by rw [hwa];exact ⟨rfl,rfl,rfl,Nat.le_refl _,fun _ _=>rfl⟩
    have HR0:Hid (Z4 wa B b (ldN RL (Zl r.n.id k ((r.n.log.length:Int)+1)) (Zl r.n.id k 0) (Zl r.n.id k r.n.nw) (Zl r.n.id k r.n.nw)) X):=HRr.out.below hba;have HB0:Hid (Below B w wa):=HBr.out.trans (hba.mono (Nat.le_trans HRr.out.lo (Nat.le_of_lt HRr.out.lt)));rw [<-hwa];clear hwa hba c1 c12 c9 c0 c4 HVl HRr HBr;have c0:wa.cell? ⟨b,0,none⟩=some (.int .i64 r.n.id):=by rw [<-HE.out.2.1];exact HR0.out.blk.cell 0
    go_upto_if 100 with fail
    go_cut [4,5,6] (fun s4 s5 s6 wx=>s4=.int .i64 ((k:Int)+1)/\s5=.int .i64 (lv r.n.id k ((r.n.log.length:Int)+1))/\s6=.int .i64 (lv r.n.id k r.n.nw)/\wx=wa)
    case first=>
     by_cases hj:(k:Int)+1=r.n.id
     ·have hjb:(((k:Int)+1) == r.n.id)=true:=by simpa using hj
      have H1:Hid (lv r.n.id k ((r.n.log.length:Int)+1)=0/\lv r.n.id k r.n.nw=0):=by unfold lv Hid;rw [if_pos hj,if_pos hj];exact ⟨rfl,rfl⟩
      rw [hjb];clear hj hjb
      go_wp2_with fail
      go_meet;exact ⟨rfl,by rw [H1.out.1],by rw [H1.out.2],rfl⟩
     ·have hjb:(((k:Int)+1) == r.n.id)=false:=by simpa using hj
      have H1:Hid (lv r.n.id k ((r.n.log.length:Int)+1)=(r.n.log.length:Int)+1/\lv r.n.id k r.n.nw=r.n.nw):=by unfold lv Hid;rw [if_neg hj,if_neg hj];exact ⟨rfl,rfl⟩
      rw [hjb];clear hj hjb
      go_wp2_with fail
      go_meet;exact ⟨rfl,by rw [H1.out.1],by rw [H1.out.2],rfl⟩
    case rest=>
     obtain ⟨rfl,rfl,rfl,hwc⟩:=hcut;have hwc2:=hwc.symm;subst hwc2;have HN1:Hid (Zl r.n.id (k+1) ((r.n.log.length:Int)+1)=Zl r.n.id k ((r.n.log.length:Int)+1) ++ [lv r.n.id k ((r.n.log.length:Int)+1)]/\Zl r.n.id (k+1) 0=Zl r.n.id k 0 ++ [0]/\Zl r.n.id (k+1) r.n.nw=Zl r.n.id k r.n.nw ++ [lv r.n.id k r.n.nw]):=⟨Z30 _ _ _,by rw [Z30,lv_zero],Z30 _ _ _⟩;have HLn:Hid (∀ y,(Zl r.n.id k y).length=k):=fun y=>Jc _ _ _
     generalize lv r.n.id k ((r.n.log.length:Int)+1)=A5 at *;generalize lv r.n.id k r.n.nw=A6 at *;have hl1:=HLn.out ((r.n.log.length:Int)+1);have hl2:=HLn.out 0;have hl3:=HLn.out r.n.nw;have HL1:Hid _:=hl1;have HL2:Hid _:=hl2;have HL3:Hid _:=hl3;clear hl1 hl2 hl3 HLn;generalize Zl r.n.id k ((r.n.log.length:Int)+1)=LN at *;generalize Zl r.n.id k 0=LM at *;generalize Zl r.n.id k r.n.nw=LS at *;obtain ⟨na,nn,nc,hvn⟩:∃ a n c,X.vn=.slice a n c:=by obtain ⟨a,c,e⟩:=HR0.out.nx.shape;exact ⟨a,_,c,e⟩
     have q:wa.cell? ⟨b,14,none⟩=some (.slice na nn nc):=by rw [<-hvn];exact HR0.out.blk.cell 14
     have HO:Hid (Z6 inC 1 3 wa B (.slice na nn nc) LN):=by unfold Hid;rw [<-hvn];exact HR0.out.nx
     have hlb:b<wa.heap.size:=HR0.out.lt;have hBz:B<=wa.heap.size:=Nat.le_trans HR0.out.lo (Nat.le_of_lt HR0.out.lt);have hlen:LN.length<=1000000:=by have:=HL1.out;omega
     have HVn:Hid (X.vn=.slice na nn nc):=hvn;clear hvn
     go_upto_region 17 with (first
      |(at_builtin;refine Xr Z1d rfl (.tmp 106) (.tmp 108) rfl A5 (HO.out.below ((Below.refl _ _).alloc (Nat.le_refl _) _)) rfl wa.heap.size 1 (Blk.new _ _ _).range rfl hlen (by simp;omega) ?_;intro v2 w2 ho2 hg2;obtain ⟨a2,n2,c2,hv2⟩:∃ a n c,v2=.slice a n c:=(by obtain ⟨a,c,e⟩:=ho2.shape;exact ⟨a,_,c,e⟩);subst hv2;have HBk:Hid (Blk w2 b (rnC (ldN RL LN LM LS LS) X) 112):=HR0.out.blkGrew ((Below.refl _ _).alloc (Nat.le_refl _) _) (fun k e=>Zm HO.out HR0.out.blk (by decide) k e) hg2;have HNx:Hid _:=HR0.out.nxNew ((Below.refl _ _).alloc (Nat.le_refl _) _) ho2 (by rw [HVn.out];exact hg2);have pq:w2.cell? ⟨b,14,none⟩=some (.slice na nn nc):=(by rw [<-HVn.out];exact HBk.out.cell 14);have pf:w2.frozen? ⟨b,14,none⟩=false:=HBk.out.free 14;clear ho2 hg2))
     obtain ⟨wb,hY⟩:∃ z,z=w2.setCell ⟨b,14,none⟩ (.slice a2 n2 c2):=⟨_,rfl⟩;rw [<-hY];obtain ⟨X1,hX2⟩:∃ Xn:RV,Xn={ X with vn:=.slice a2 n2 c2 }:=⟨_,rfl⟩;have HR1:Hid (Z4 wb B b (ldN RL (LN ++ [A5]) LM LS LS) X1):=by rw [hY,hX2];exact HNx.out.1
     have HB1:Hid (Below B w wb):=by rw [hY];exact HB0.out.trans HNx.out.2.1
     have HXL1:Hid (X1.L = []):=by rw [hX2];exact HXL.out
     clear hY hX2 HNx HBk pq pf HO q hlen HVn hlb hBz;obtain ⟨na,nn,nc,hvn⟩:∃ a n c,X1.vm=.slice a n c:=by obtain ⟨a,c,e⟩:=HR1.out.mt.shape;exact ⟨a,_,c,e⟩
     have q:wb.cell? ⟨b,15,none⟩=some (.slice na nn nc):=by rw [<-hvn];exact HR1.out.blk.cell 15
     have HO:Hid (Z6 inC 1 3 wb B (.slice na nn nc) LM):=by unfold Hid;rw [<-hvn];exact HR1.out.mt
     have hlb:b<wb.heap.size:=HR1.out.lt;have hBz:B<=wb.heap.size:=Nat.le_trans HR1.out.lo (Nat.le_of_lt HR1.out.lt);have hlen:LM.length<=1000000:=by have:=HL2.out;omega
     have HVn:Hid (X1.vm=.slice na nn nc):=hvn;clear hvn
     go_upto_region 18 with (first
      |(at_builtin;refine Xr Z1d rfl (.tmp 118) (.tmp 119) rfl 0 (HO.out.below ((Below.refl _ _).alloc (Nat.le_refl _) _)) rfl wb.heap.size 1 (Blk.new _ _ _).range rfl hlen (by simp;omega) ?_;intro v2 w2 ho2 hg2;obtain ⟨a2,n2,c2,hv2⟩:∃ a n c,v2=.slice a n c:=(by obtain ⟨a,c,e⟩:=ho2.shape;exact ⟨a,_,c,e⟩);subst hv2;have HBk:Hid (Blk w2 b (rnC (ldN RL (LN ++ [A5]) LM LS LS) X1) 112):=HR1.out.blkGrew ((Below.refl _ _).alloc (Nat.le_refl _) _) (fun k e=>Zm HO.out HR1.out.blk (by decide) k e) hg2;have HNx:Hid _:=HR1.out.mtNew ((Below.refl _ _).alloc (Nat.le_refl _) _) ho2 (by rw [HVn.out];exact hg2);have pq:w2.cell? ⟨b,15,none⟩=some (.slice na nn nc):=(by rw [<-HVn.out];exact HBk.out.cell 15);have pf:w2.frozen? ⟨b,15,none⟩=false:=HBk.out.free 15;clear ho2 hg2))
     obtain ⟨wc,hY⟩:∃ z,z=w2.setCell ⟨b,15,none⟩ (.slice a2 n2 c2):=⟨_,rfl⟩;rw [<-hY];obtain ⟨X2,hX2⟩:∃ Xn:RV,Xn={ X1 with vm:=.slice a2 n2 c2 }:=⟨_,rfl⟩;have HR2:Hid (Z4 wc B b (ldN RL (LN ++ [A5]) (LM ++ [0]) LS LS) X2):=by rw [hY,hX2];exact HNx.out.1
     have HB2:Hid (Below B w wc):=by rw [hY];exact HB1.out.trans HNx.out.2.1
     have HXL2:Hid (X2.L = []):=by rw [hX2];exact HXL1.out
     clear hY hX2 HNx HBk pq pf HO q hlen HVn hlb hBz;obtain ⟨na,nn,nc,hvn⟩:∃ a n c,X2.vs=.slice a n c:=by obtain ⟨a,c,e⟩:=HR2.out.se.shape;exact ⟨a,_,c,e⟩
     have q:wc.cell? ⟨b,16,none⟩=some (.slice na nn nc):=by rw [<-hvn];exact HR2.out.blk.cell 16
     have HO:Hid (Z6 inC 1 3 wc B (.slice na nn nc) LS):=by unfold Hid;rw [<-hvn];exact HR2.out.se
     have hlb:b<wc.heap.size:=HR2.out.lt;have hBz:B<=wc.heap.size:=Nat.le_trans HR2.out.lo (Nat.le_of_lt HR2.out.lt);have hlen:LS.length<=1000000:=by have:=HL3.out;omega
     have HVn:Hid (X2.vs=.slice na nn nc):=hvn;clear hvn
     go_upto_region 19 with (first
      |(at_builtin;refine Xr Z1d rfl (.tmp 129) (.tmp 131) rfl A6 (HO.out.below ((Below.refl _ _).alloc (Nat.le_refl _) _)) rfl wc.heap.size 1 (Blk.new _ _ _).range rfl hlen (by simp;omega) ?_;intro v2 w2 ho2 hg2;obtain ⟨a2,n2,c2,hv2⟩:∃ a n c,v2=.slice a n c:=(by obtain ⟨a,c,e⟩:=ho2.shape;exact ⟨a,_,c,e⟩);subst hv2;have HBk:Hid (Blk w2 b (rnC (ldN RL (LN ++ [A5]) (LM ++ [0]) LS LS) X2) 112):=HR2.out.blkGrew ((Below.refl _ _).alloc (Nat.le_refl _) _) (fun k e=>Zm HO.out HR2.out.blk (by decide) k e) hg2;have HNx:Hid _:=HR2.out.seNew ((Below.refl _ _).alloc (Nat.le_refl _) _) ho2 (by rw [HVn.out];exact hg2);have pq:w2.cell? ⟨b,16,none⟩=some (.slice na nn nc):=(by rw [<-HVn.out];exact HBk.out.cell 16);have pf:w2.frozen? ⟨b,16,none⟩=false:=HBk.out.free 16;clear ho2 hg2))
     obtain ⟨wd,hY⟩:∃ z,z=w2.setCell ⟨b,16,none⟩ (.slice a2 n2 c2):=⟨_,rfl⟩;rw [<-hY];obtain ⟨X3,hX2⟩:∃ Xn:RV,Xn={ X2 with vs:=.slice a2 n2 c2 }:=⟨_,rfl⟩;have HR3:Hid (Z4 wd B b (ldN RL (LN ++ [A5]) (LM ++ [0]) (LS ++ [A6]) LS) X3):=by rw [hY,hX2];exact HNx.out.1
     have HB3:Hid (Below B w wd):=by rw [hY];exact HB2.out.trans HNx.out.2.1
     have HXL3:Hid (X3.L = []):=by rw [hX2];exact HXL2.out
     clear hY hX2 HNx HBk pq pf HO q hlen HVn hlb hBz;obtain ⟨na,nn,nc,hvn⟩:∃ a n c,X3.vt=.slice a n c:=by obtain ⟨a,c,e⟩:=HR3.out.st.shape;exact ⟨a,_,c,e⟩
     have q:wd.cell? ⟨b,17,none⟩=some (.slice na nn nc):=by rw [<-hvn];exact HR3.out.blk.cell 17
     have HO:Hid (Z6 inC 1 3 wd B (.slice na nn nc) LS):=by unfold Hid;rw [<-hvn];exact HR3.out.st
     have hlb:b<wd.heap.size:=HR3.out.lt;have hBz:B<=wd.heap.size:=Nat.le_trans HR3.out.lo (Nat.le_of_lt HR3.out.lt);have hlen:LS.length<=1000000:=by have:=HL3.out;omega
     have HVn:Hid (X3.vt=.slice na nn nc):=hvn;clear hvn
     go_upto_region 11 with (first
      |(at_builtin;refine Xr Z1d rfl (.tmp 141) (.tmp 143) rfl A6 (HO.out.below ((Below.refl _ _).alloc (Nat.le_refl _) _)) rfl wd.heap.size 1 (Blk.new _ _ _).range rfl hlen (by simp;omega) ?_;intro v2 w2 ho2 hg2;obtain ⟨a2,n2,c2,hv2⟩:∃ a n c,v2=.slice a n c:=(by obtain ⟨a,c,e⟩:=ho2.shape;exact ⟨a,_,c,e⟩);subst hv2;have HBk:Hid (Blk w2 b (rnC (ldN RL (LN ++ [A5]) (LM ++ [0]) (LS ++ [A6]) LS) X3) 112):=HR3.out.blkGrew ((Below.refl _ _).alloc (Nat.le_refl _) _) (fun k e=>Zm HO.out HR3.out.blk (by decide) k e) hg2;have HNx:Hid _:=HR3.out.stNew ((Below.refl _ _).alloc (Nat.le_refl _) _) ho2 (by rw [HVn.out];exact hg2);have pq:w2.cell? ⟨b,17,none⟩=some (.slice na nn nc):=(by rw [<-HVn.out];exact HBk.out.cell 17);have pf:w2.frozen? ⟨b,17,none⟩=false:=HBk.out.free 17;clear ho2 hg2))
     obtain ⟨we,hY⟩:∃ z,z=w2.setCell ⟨b,17,none⟩ (.slice a2 n2 c2):=⟨_,rfl⟩;rw [<-hY];obtain ⟨X4,hX2⟩:∃ Xn:RV,Xn={ X3 with vt:=.slice a2 n2 c2 }:=⟨_,rfl⟩;have HR4:Hid (Z4 we B b (ldN RL (LN ++ [A5]) (LM ++ [0]) (LS ++ [A6]) (LS ++ [A6])) X4):=by rw [hY,hX2];exact HNx.out.1
     have HB4:Hid (Below B w we):=by rw [hY];exact HB3.out.trans HNx.out.2.1
     have HXL4:Hid (X4.L = []):=by rw [hX2];exact HXL3.out
     clear hY hX2 HNx HBk pq pf HO q hlen HVn hlb hBz
     go_wp2_with fail
     go_roundw
     case rel=>exact ⟨k+1,by omega,by go_num,X4,by rw [HN1.out.1,HN1.out.2.1,HN1.out.2.2];exact HR4.out,HXL4.out,HB4.out⟩
     case measure=>simp [intOf];omega
   ·obtain rfl:k=N:=by omega
    have hle:¬((k:Int)+1)<=(k:Int):=by omega
    have HR0:Hid (Z4 wr B b (ldN RL (Zl r.n.id k ((r.n.log.length:Int)+1)) (Zl r.n.id k 0) (Zl r.n.id k r.n.nw) (Zl r.n.id k r.n.nw)) X):=HRr.out;have HLg:Hid ((ldN RL (Zl r.n.id k ((r.n.log.length:Int)+1)) (Zl r.n.id k 0) (Zl r.n.id k r.n.nw) (Zl r.n.id k r.n.nw)).n.log=r.n.log):=HE.out.2.2.2.1;obtain ⟨RK,hRK⟩:∃ RK,RK=ldN RL (Zl r.n.id k ((r.n.log.length:Int)+1)) (Zl r.n.id k 0) (Zl r.n.id k r.n.nw) (Zl r.n.id k r.n.nw):=⟨_,rfl⟩;rw [<-hRK] at HR0 HLg HQ8 HLe;clear hRK HRr HK0 HE;obtain ⟨LG,hLG⟩:∃ LG,LG=if r.n.log.length<4096 then r.n.log ++ [e0 r.n.tm] else r.n.log:=⟨_,rfl⟩
    rw [<-hLG] at HQ8 HLe;have HLG:Hid _:=hLG;clear hLG
    go_upto_if 154 with fail
    go_cut [] (fun wx=>∃ X5,Z4 wx B b { RK with n:={ RK.n with log:=LG } } X5/\X5.L = []/\Below B w wx)
    case first=>
     by_cases hful:r.n.log.length<4096
     ·have hfi:decide ((r.n.log.length:Int)<4096)=true:=by simp;omega
      have hlb:b<wr.heap.size:=HR0.out.lt;have HO3:Hid (Zd wr B (.slice la r.n.log.length lc) r.n.log):=by unfold Hid;rw [<-HVl.out,<-HLg.out];exact HR0.out.log
      have BR3:Hid (Blk wr b (rnC RK X) 112):=HR0.out.blk
      have HFin:Hid (∀ w5 v5,Zd w5 B v5 (r.n.log ++ [e0 r.n.tm])->∀ w4,Below wr.heap.size wr w4->Jy w4 (.slice la r.n.log.length lc) w5 v5->Z4 (w5.setCell ⟨b,12,none⟩ v5) B b { RK with n:={ RK.n with log:=r.n.log ++ [e0 r.n.tm] } } { X with vl:=v5 }/\Below B w (w5.setCell ⟨b,12,none⟩ v5)):=fun w5 v5 ho w4 h4 hg=>by
       rw [<-HVl.out] at hg;have h9:=HR0.out.logAt HXL.out h4 ho hg;exact ⟨h9.1,HBr.out.trans h9.2⟩
      have HOf:Hid (∀ e∈r.n.log,e.fits):=HO3.out.1;have HNO:Hid ((Value.slice la r.n.log.length lc).ownBlock≠some b):=fun e=>Yp HO3.out BR3.out (by decide) _ e rfl
      have HFt:Hid (Ent.fits (e0 r.n.tm)):=⟨by show (0:Nat)<=maxLen;omega,by show (0:Nat)<=maxLen;omega,by show (0:Nat)<=maxLen;omega⟩;have hl9:r.n.log.length<=4096:=by omega
      have hBz:B<=wr.heap.size:=Nat.le_trans HR0.out.lo (Nat.le_of_lt HR0.out.lt);have pa:∀(o:Obj) (j:Nat),(wr.alloc o).cell? ⟨b,j,none⟩=wr.cell? ⟨b,j,none⟩:=fun o j=>World.cell?_alloc_lt _ _ _ (by show b<wr.heap.size;omega)
      have pa':∀(o:Obj) (j:Nat),(wr.drew.alloc o).cell? ⟨b,j,none⟩=wr.cell? ⟨b,j,none⟩:=fun o j=>World.cell?_alloc_lt _ _ _ (by show b<wr.heap.size;omega)
      have hne1:¬ wr.heap.size=b:=by omega
      have hne2:¬ b=wr.heap.size:=by omega
      have HL2:Hid (LG=r.n.log ++ [e0 r.n.tm]):=HLG.out.trans (if_pos hful);have hfj:((r.n.log.length:Int)<4096):=by omega
      clear hful
      go_upto_region 21 with fail
      go_region_law
       (refine J3 entLaw rfl (.tmp 160) (.tmp 167) rfl (e0 r.n.tm) (Z6.below (Z6.below HO3.out.g ((Below.refl _ _).drew)) ((Below.refl _ _).alloc (Nat.le_refl _) _)) rfl wr.heap.size 1 (J2 wr.drew (Ent.cells (e0 r.n.tm)) 118) rfl (by omega) (by simp;omega) ?_;intro v5 w5 ho5 hg5;have HO5:Hid (Zd w5 B v5 (r.n.log ++ [e0 r.n.tm])):=(Z6.e ho5 (by intro y hy;rcases List.mem_append.1 hy with hy | hy;exact HOf.out y hy;rw [List.mem_singleton] at hy;subst hy;exact HFt.out));obtain ⟨a5,c5,e5'⟩:=ho5.shape;rw [List.length_append,List.length_singleton] at e5';have HG5:Hid (Jy _ (.slice la r.n.log.length lc) w5 v5):=hg5;have BR5:Hid (Blk w5 b (rnC RK X) 112):=(BR3.out.drew.alloc _).keep (hg5.g.block b (by simp;omega) (fun e=>HNO.out e.symm));obtain ⟨vq,p12⟩:∃ vq,w5.cell? ⟨b,12,none⟩=some vq:=⟨_,BR5.out.cell 12⟩;have pf:=BR5.out.free;subst e5';clear ho5 hg5)
      all_goals go_wp2_with fail
      all_goals go_meet
      all_goals (have h9:=HFin.out _ _ HO5.out _ ((Below.refl _ _).drew.alloc (Nat.le_refl _) _) HG5.out;exact ⟨{ X with vl:=.slice a5 (r.n.log.length+1) c5 },by rw [HL2.out];exact h9.1,HXL.out,h9.2⟩)
     ·have hfj:¬((r.n.log.length:Int)<4096):=by omega
      have HL2:Hid (LG=r.n.log):=HLG.out.trans (if_neg hful);have H9:Hid (Z4 wr B b { RK with n:={ RK.n with log:=r.n.log } } X):=by unfold Hid;rw [<-HLg.out];exact HR0.out
      clear hful
      go_wp2_with fail
      go_meet;exact ⟨X,by rw [HL2.out];exact H9.out,HXL.out,HBr.out⟩
    case rest=>
     obtain ⟨X5,hR5,hX5,hB5⟩:=hcut;have HS5:Hid _:=Z2r b _ X5 wc B hR5 (by rw [<-HLe.out];exact HLd.out.2) (by rw [hX5];simp) (by rw [<-HLe.out];exact HLd.out.1);have HB5:Hid _:=hB5;clear hR5 hB5
     go_wp2_with (first
      |(go_at_call 126;refine Calls.mono HS5.out ?_;rintro e w9 ⟨x9,rfl,hR9,hb9,-⟩;have HR9:Hid _:=hR9;have HB9:Hid (Below B w w9):=HB5.out.trans hb9;clear hR9 hb9))
     (try simp only [Exit.inBlock,Exit.then])
     exact bodyPost_end (results_none rfl _ _ _) rfl ⟨x9,rfl,by rw [HQ8.out];exact HR9.out,HB9.out⟩
end Go.Proofs.YtmmpoppgabadmaaGreat
