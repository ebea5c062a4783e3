import Derived.Deep.DeepCutAuto
import Derived.Test.YtmmpoppgabadmaaGreatG05
set_option linter.unusedVariables false
set_option linter.unusedSimpArgs false
set_option maxRecDepth 100000
set_option maxHeartbeats 16000000
namespace Go.Proofs.YtmmpoppgabadmaaGreat
open Go.RowKit
structure BW (W:World) where
 w:World
 h:Below W.heap.size W w
theorem Z0g {w:World}{B b:Nat}{r:Rn}{x:RV}(h:Z4 w B b r x):Sem.run Tryz.prog (loadVar 36 ⟨b,0,none⟩) w=.ok (.agg (ndC r.n x)) w:=
 run_loadVar_mid w b 0 36 (ndC r.n x).toList _ h.nodeRange Tryz.underlying36 rfl (by rw [J6];rfl)
theorem Ja {w:World}{b:Nat}{C:Array Value}{t:TypeId}(h:Blk w b C t)(ty:TypeId){d:TypeDesc}(hu:Tryz.prog.underlying ty=some d)(hd:d.isRow=true)(hi:(Tryz.prog.info? ty).map (·.size)=some C.size):Sem.run Tryz.prog (loadVar ty ⟨b,0,none⟩) w=.ok (.agg C) w:=
 run_loadVar_mid w b 0 ty C.toList d h.range hu hd (by rw [hi];simp)
theorem J1 {P:Program}{W:World}{o:Oper}{a:Act}{K:Act->Prop}{ad:Addr}{v:Value}(ty:TypeId)(y:Operand)(ho:o.op=.load ty y)(hy:a.eval y=.pointer (some ad))(hr:∀ u:BW W,Sem.run P (loadVar ty ad) u.w=.ok v u.w)(hk:K (a.put o.dst v)):o.quiet P a (fun w'=>∃ u:BW W,w'=u.w) K:=by
 refine ⟨v,?_,hk⟩;rintro w' ⟨u,rfl⟩;unfold Oper.quietAt execOp;simp only [ho,hy,Instr.loadAt,Instr.sureAddr,Sem.run_bind,Sem.run_pure,Result.andThen_ok,hr u];exact ⟨rfl,rfl⟩
theorem Blk.grown {w w':World}{q b:Nat}{C:Array Value}{t:TypeId}(hb:Blk w q C t)(hg:w.grownBy w' (some b))(hne:q≠b):Blk w' q C t:=by
 have e9:=hg.block q hb.lt (fun e=>hne (Option.some.inj e));unfold Blk at hb ⊢;rw [e9];exact hb
theorem adopt_n (r:Rn)(t:Int):(r.adopt t).n.id=r.n.id/\(r.adopt t).n.sz=r.n.sz/\(r.adopt t).n.el=r.n.el/\(r.adopt t).n.bt=r.n.bt/\(r.adopt t).n.tm=t/\(r.adopt t).n.vo=0/\(r.adopt t).n.ro=0/\(r.adopt t).n.ld=0/\(r.adopt t).n.cm=r.n.cm/\(r.adopt t).n.nw=r.n.nw/\(r.adopt t).n.hd=r.n.hd/\(r.adopt t).n.log=r.n.log/\(r.adopt t).out=r.out/\(r.adopt t).draw=r.draw/\(r.adopt t).code=r.code:=by
 unfold Rn.adopt;split <;> exact ⟨rfl,rfl,rfl,rfl,rfl,rfl,rfl,rfl,rfl,rfl,rfl,rfl,rfl,rfl,rfl⟩
theorem NdB.adopt {r:Rn}(h:NdB r.n)(t:Int):NdB (r.adopt t).n:=by
 obtain ⟨e1,e2,e3,e4,-,-,-,-,e9,e10,e11,e12,-⟩:=adopt_n r t;exact ⟨by rw [e10];exact h.nw0,by rw [e10];exact h.nw1,by rw [e11];exact h.hd0,by rw [e11,e10];exact h.hd1,by rw [e2];exact h.sz0,by rw [e2];exact h.sz1,by rw [e1];exact h.id0,by rw [e1,e2];exact h.id1,by rw [e12];exact h.ln⟩
theorem NdB.higher {r:Rn}(h:NdB r.n)(t:Int):NdB (r.higher t).n:=by
 unfold Rn.higher;split
 ·exact h.adopt t
 ·exact h
theorem Z16 (r:Rn)(t:Int):(r.higher t).draw=r.draw:=by
 unfold Rn.higher;split
 ·exact (adopt_n r t).2.2.2.2.2.2.2.2.2.2.2.2.2.1
 ·rfl
theorem ownI_one (w:World)(B:Nat)(hB:B<=w.heap.size)(y:Int):Z6 inC 1 3 (w.alloc (.cells #[.int .i64 y] 3)) B (.slice (some ⟨w.heap.size,0,none⟩) 1 1) [y]:=by
 refine ⟨rfl,.inr ⟨w.heap.size,1,#[.int .i64 y],rfl,hB,?_,Nat.le_refl _,by unfold maxLen;omega,rfl,rfl⟩⟩;show (w.heap.push _)[_]? = _;simp
def pyB (n:Nd)(m:Mg):Bool:=(n.ro != 1) || (m.tm != n.tm+1) || Jq m.fr n.gr
theorem pyB_iff (n:Nd)(m:Mg):pyB n m=true↔n.ro≠1∨m.tm≠n.tm+1∨m.fr∈n.gr:=by
 unfold pyB Jq;simp [or_assoc]
theorem Z5q (b:Nat)(r:Rn)(x:RV)(m:Mg)(ea:Option Addr)(en ec:Nat)(w:World)(B:Nat)(h:Z4 w B b r x)(hb:NdB r.n)(hd : -(2^63)<=r.draw)(hD:r.draw<2^63)(hl:x.L.length<=900)(ht0:0<=r.n.tm)(ht1:r.n.tm<=1073741824)(hodd:r.n.sz%2=1)(hgl:r.n.gr.length<=1000) :
  Calls Tryz.prog 120 #[.pointer (some ⟨b,0,none⟩),.agg #[.int .i64 m.ki,.int .i64 m.fr,.int .i64 m.td,.int .i64 m.tm,.int .i64 m.li,.int .i64 m.lt,.int .i64 m.cm,.int .i64 m.ok,.int .i64 m.hi,.slice ea en ec]] w fun e w'=>∃ x',e=.returned (.tuple #[])/\Z4 w' B b (r.preReply m) x'/\Below B w w':=by
 have HRw:Hid (∀ z,Below w.heap.size w z->Z4 z B b r x):=fun z hz=>h.below hz
 have hBw:B<=w.heap.size:=Nat.le_trans h.lo (Nat.le_of_lt h.lt);have hbl:=h.lt
 have HQ:Hid (r.preReply m=if m.ok=0 then (if r.n.tm<m.tm then r.adopt m.tm else r.stale) else if r.n.ro≠1∨m.tm≠r.n.tm+1∨m.fr∈r.n.gr then r.stale else
  if Xe (Zh r.n.gr m.fr r.n.sz.toNat).length r.n.sz=true then Rn.allK ⟨3,0,0,r.n.tm+1,r.n.log.length,Zs r.n.log,0,0,0,[]⟩ r.n.sz.toNat (Rn.timer { r with n:={ r.n with tm:=r.n.tm+1,vo:=r.n.id,ro:=2,gr:=[r.n.id] } })
  else { r with n:={ r.n with gr:=Zh r.n.gr m.fr r.n.sz.toNat } }):=rfl
 have HAd:Hid (∀ z,Z4 z B b r x->Calls Tryz.prog 149 #[.pointer (some ⟨b,0,none⟩),.int .i64 m.tm] z fun e w'=>e=.returned (.tuple #[])/\Z4 w' B b (r.adopt m.tm) x.lone/\Below B z w'/\z.grownBy w' (some b)):=fun z hz=>Z0n b r x m.tm z B hz hd hD hb.nw0 hb.nw1
 generalize r.preReply m=RP at *;obtain ⟨w1,hw1⟩:∃ z,z=w.alloc (.cells #[.int .i64 m.ki,.int .i64 m.fr,.int .i64 m.td,.int .i64 m.tm,.int .i64 m.li,.int .i64 m.lt,.int .i64 m.cm,.int .i64 m.ok,.int .i64 m.hi,.slice ea en ec] 43):=⟨_,rfl⟩;have HB1:Hid (Below w.heap.size w w1):=by rw [hw1];exact (Below.refl _ _).alloc (Nat.le_refl _) _
 have BM1:Hid (Blk w1 w.heap.size #[.int .i64 m.ki,.int .i64 m.fr,.int .i64 m.td,.int .i64 m.tm,.int .i64 m.li,.int .i64 m.lt,.int .i64 m.cm,.int .i64 m.ok,.int .i64 m.hi,.slice ea en ec] 43):=by rw [hw1];exact Blk.new _ _ _
 have hz1:w.heap.size<w1.heap.size:=BM1.out.lt;have n7:w1.cell? ⟨w.heap.size,7,none⟩=some (.int .i64 m.ok):=BM1.out.cell 7;have n3:w1.cell? ⟨w.heap.size,3,none⟩=some (.int .i64 m.tm):=BM1.out.cell 3;have n1:w1.cell? ⟨w.heap.size,1,none⟩=some (.int .i64 m.fr):=BM1.out.cell 1;have k4:w1.cell? ⟨b,4,none⟩=some (.int .i64 r.n.tm):=(HRw.out _ HB1.out).blk.cell 4;have k6:w1.cell? ⟨b,6,none⟩=some (.int .i64 r.n.ro):=(HRw.out _ HB1.out).blk.cell 6;go_enter Tryz.func120,Tryz.ntmps120
 go_upto_region 1 with fail
 rw [<-hw1];clear hw1;by_cases hok:m.ok=0
 ·have HQ2:Hid (RP=if r.n.tm<m.tm then r.adopt m.tm else r.stale):=HQ.out.trans (if_pos hok)
  rw [hok] at n7;clear HQ
  go_upto_region 2 with fail
  go_quiet (fail)
  obtain ⟨w4,hw4⟩:∃ z,z=w1.drewN nq:=⟨_,rfl⟩;have hb4:Below w1.heap.size w1 w4:=by rw [hw4];exact ⟨rfl,rfl,rfl,Nat.le_refl _,fun _ _=>rfl⟩
  rw [<-hw4];have HB4:Hid (Below w.heap.size w w4):=HB1.out.trans (hb4.mono (by omega));have n3':w4.cell? ⟨w.heap.size,3,none⟩=some (.int .i64 m.tm):=(BM1.out.below hb4 hz1).cell 3;have k19:w4.cell? ⟨b,19,none⟩=some (.int .i64 r.code):=(HRw.out _ HB4.out).blk.cell 19;have f19:w4.frozen? ⟨b,19,none⟩=false:=(HRw.out _ HB4.out).blk.free 19;clear hw4 hb4 k4 k6 n3 n1 n7 hok
  go_upto_if 14 with fail
  by_cases ht:r.n.tm<m.tm
  ·have HQ3:Hid (RP=r.adopt m.tm):=HQ2.out.trans (if_pos ht)
   have hdt:decide (r.n.tm<m.tm)=true:=decide_eq_true ht;rw [hdt];clear HQ2 ht hdt
   go_wp2_with (first
    |(go_at_call 149;refine (HAd.out _ (HRw.out _ HB4.out)).mono ?_;rintro e w5 ⟨rfl,h5,b5,-⟩;have H5:Hid _:=h5;have B5:Hid (Below B w w5):=(HB4.out.mono hBw).trans b5;clear h5 b5))
   (try simp only [Exit.inBlock,Exit.then])
   exact bodyPost_ret (results_none rfl _ _ _) rfl ⟨_,rfl,by rw [HQ3.out];exact H5.out,B5.out⟩
  ·have HQ3:Hid (RP=r.stale):=HQ2.out.trans (if_neg ht)
   have hdt:decide (r.n.tm<m.tm)=false:=decide_eq_false ht;rw [hdt];clear HQ2 ht hdt
   go_wp2_with (fail)
   (try simp only [Exit.inBlock,Exit.then])
   refine bodyPost_ret (results_none rfl _ _ _) rfl ⟨x,rfl,?_,(HB4.out.mono hBw).trans ((HRw.out _ HB4.out).setB 19 _)⟩;rw [HQ3.out];exact (HRw.out _ HB4.out).set 19 _ rfl rfl rfl rfl rfl rfl rfl rfl
 have HQ2:=HQ.out.trans (if_neg hok);have HQ3:Hid _:=HQ2;have hok2:(m.ok == 0)=false:=by simpa using hok
 clear HQ HQ2 hok HAd;obtain ⟨ga,gc,hvg⟩:=h.gr.shape;have k13:w1.cell? ⟨b,13,none⟩=some (.slice ga r.n.gr.length gc):=by rw [<-hvg];exact (HRw.out _ HB1.out).blk.cell 13
 have HHas:Hid (∀ z,Below w.heap.size w z->Calls Tryz.prog 99 #[.slice ga r.n.gr.length gc,.int .i64 m.fr] z fun e w'=>e=.returned (.bool (Jq m.fr r.n.gr))/\w'=z):=fun z hz=>Z09 _ r.n.gr m.fr z (by rw [<-hvg];exact ownI_ix (h.below hz).gr (by omega))
 clear h hvg
 go_upto_region 5 with fail
 go_cut [48] (fun s wx=>s=.bool (pyB r.n m)/\Below w1.heap.size w1 wx)
 case first=>
  have HV:Hid (pyB r.n m=((r.n.ro != 1) || (m.tm != r.n.tm+1) || Jq m.fr r.n.gr)):=rfl;have hwr:IntKind.i64.wrap (r.n.tm+1)=r.n.tm+1:=by rw [IntKind.wrap_i64];omega
  have hz1w:w1.heap.size<=w1.heap.size:=Nat.le_refl _;generalize pyB r.n m=VB at *;cases hc1:(r.n.ro != 1)
  ·cases hc2:(m.tm != r.n.tm+1)
   ·rw [hc1,hc2] at HV
    go_quiet ((go_at_call 99;exact Calls.quiet_of_same (HHas.out _ (HB1.out.trans ⟨rfl,rfl,rfl,hz1w,fun _ _=>rfl⟩))))
    go_wp2_with fail
    go_meet;exact ⟨by rw [HV.out];rfl,⟨rfl,rfl,rfl,Nat.le_refl _,fun _ _=>rfl⟩⟩
   ·rw [hc1,hc2] at HV
    go_quiet (fail)
    go_wp2_with fail
    go_meet;exact ⟨by rw [HV.out];rfl,⟨rfl,rfl,rfl,Nat.le_refl _,fun _ _=>rfl⟩⟩
  ·rw [hc1] at HV
   go_quiet (fail)
   go_wp2_with fail
   go_meet;exact ⟨by rw [HV.out];rfl,⟨rfl,rfl,rfl,Nat.le_refl _,fun _ _=>rfl⟩⟩
 case rest=>
  obtain ⟨rfl,hB6⟩:=hcut;obtain ⟨w6,hw6⟩:∃ z,z=wc:=⟨_,rfl⟩;rw [<-hw6] at hB6;subst hw6;have HB6:Hid (Below w.heap.size w w6):=HB1.out.trans (hB6.mono (by omega));have n1':w6.cell? ⟨w.heap.size,1,none⟩=some (.int .i64 m.fr):=(BM1.out.below hB6 hz1).cell 1;have HR6:Hid (Z4 w6 B b r x):=HRw.out _ HB6.out;have k19:w6.cell? ⟨b,19,none⟩=some (.int .i64 r.code):=HR6.out.blk.cell 19;have f19:w6.frozen? ⟨b,19,none⟩=false:=HR6.out.blk.free 19;clear hB6 k4 k6 k13 n1 n3 n7 HHas HRw HB1 BM1
  go_upto_if 48 with fail
  by_cases hv:pyB r.n m=true
  ·have HQ4:Hid (RP=r.stale):=HQ3.out.trans (if_pos ((pyB_iff _ _).1 hv))
   rw [hv];clear HQ3 hv
   go_wp2_with (fail)
   (try simp only [Exit.inBlock,Exit.then])
   refine bodyPost_ret (results_none rfl _ _ _) rfl ⟨x,rfl,?_,(HB6.out.mono hBw).trans (HR6.out.setB 19 _)⟩;rw [HQ4.out];exact HR6.out.set 19 _ rfl rfl rfl rfl rfl rfl rfl rfl
  have hv2:pyB r.n m=false:=by simpa using hv
  have HQ4:=HQ3.out.trans (if_neg fun h=>hv ((pyB_iff _ _).2 h));rw [hv2];obtain ⟨G,hG⟩:∃ G,G=Zh r.n.gr m.fr r.n.sz.toNat:=⟨_,rfl⟩;rw [<-hG] at HQ4;have HQ5:Hid _:=HQ4;have HGr:Hid (Calls Tryz.prog 150 #[.pointer (some ⟨b,0,none⟩),.int .i64 m.fr] w6 fun e w'=>∃ v,e=.returned (.bool (Xe G.length r.n.sz))/\Z4 w' B b { r with n:={ r.n with gr:=G } } { x with vg:=v }/\Below B w6 w'/\w6.grownBy w' (some b)):=by rw [hG];exact Z4h b r x m.fr w6 B HR6.out hb hodd hgl
  clear HQ3 hv hv2 hG HQ4 k19 f19;by_cases hmj:Xe G.length r.n.sz=true
  ·have HQ6:=HQ5.out.trans (if_pos hmj)
   have HQ7:Hid _:=HQ6;rw [hmj] at HGr;clear HQ5 HQ6 hmj;have hwr:IntKind.i64.wrap (r.n.tm+1)=r.n.tm+1:=by rw [IntKind.wrap_i64];omega
   go_upto_region 8 with (first
    |(go_at_call 150;refine Calls.mono HGr.out ?_;rintro e w7 ⟨vg,rfl,h7,b7,g7⟩;have HR7:Hid _:=h7;have HB7:Hid (Below B w w7):=(HB6.out.mono hBw).trans b7;clear h7 b7 g7))
   have c4:w7.cell? ⟨b,4,none⟩=some (.int .i64 r.n.tm):=HR7.out.blk.cell 4;have f4:w7.frozen? ⟨b,4,none⟩=false:=HR7.out.blk.free 4;have c5:w7.cell? ⟨b,5,none⟩=some (.int .i64 r.n.vo):=HR7.out.blk.cell 5;have f5:w7.frozen? ⟨b,5,none⟩=false:=HR7.out.blk.free 5;have c6:w7.cell? ⟨b,6,none⟩=some (.int .i64 r.n.ro):=HR7.out.blk.cell 6;have f6:w7.frozen? ⟨b,6,none⟩=false:=HR7.out.blk.free 6;have c0:w7.cell? ⟨b,0,none⟩=some (.int .i64 r.n.id):=HR7.out.blk.cell 0
   go_upto_region 11 with fail
   obtain ⟨w8,hw8⟩:∃ z,z=((w7.setCell ⟨b,4,none⟩ (.int .i64 (r.n.tm+1))).setCell ⟨b,5,none⟩ (.int .i64 r.n.id)).setCell ⟨b,6,none⟩ (.int .i64 2):=⟨_,rfl⟩
   have HR8:Hid (Z4 w8 B b { r with n:={ r.n with tm:=r.n.tm+1,vo:=r.n.id,ro:=2,gr:=G } } { x with vg:=vg }):=by
    rw [hw8];exact ((HR7.out.set (r':={ r with n:={ r.n with tm:=r.n.tm+1,gr:=G } }) 4 _ rfl rfl rfl rfl rfl rfl rfl rfl).set (r':={ r with n:={ r.n with tm:=r.n.tm+1,vo:=r.n.id,gr:=G } }) 5 _ rfl rfl rfl rfl rfl rfl rfl rfl).set 6 _ rfl rfl rfl rfl rfl rfl rfl rfl
   have HB8:Hid (Below B w w8):=by
    rw [hw8];exact ((HB7.out.setCell (p:=⟨b,4,none⟩) HR7.out.lo _).setCell (p:=⟨b,5,none⟩) HR7.out.lo _).setCell (p:=⟨b,6,none⟩) HR7.out.lo _
   rw [<-hw8];clear hw8 c4 f4 c5 f5 c6 f6 c0 HR7 HB7 HR6 HB6;have c0:w8.cell? ⟨b,0,none⟩=some (.int .i64 r.n.id):=HR8.out.blk.cell 0
   have HN8:Hid (∀ z,z=(w8.setCell ⟨b,13,none⟩ (.slice (some ⟨w8.heap.size,0,none⟩) 1 1)).alloc (.cells #[.int .i64 r.n.id] 3)->Z4 z B b { r with n:={ r.n with tm:=r.n.tm+1,vo:=r.n.id,ro:=2,gr:=[r.n.id] } } { x with vg:=.slice (some ⟨w8.heap.size,0,none⟩) 1 1 }/\Below B w z):=fun z hz=>by
    have:=HR8.out.grantAt ((Below.refl _ _).alloc (Nat.le_refl _) _) (ownI_one w8 w8.heap.size (Nat.le_refl _) r.n.id);rw [hz,<-World.setCell_alloc_past _ _ _ _ HR8.out.lt];exact ⟨this.1,HB8.out.trans this.2.1⟩
   have c13:∀ o:Obj,(w8.alloc o).cell? ⟨b,13,none⟩=some vg:=fun o=>(HR8.out.below ((Below.refl _ _).alloc (Nat.le_refl _) _)).blk.cell 13
   have f13:∀ o:Obj,(w8.alloc o).frozen? ⟨b,13,none⟩=false:=fun o=>(HR8.out.below ((Below.refl _ _).alloc (Nat.le_refl _) _)).blk.free 13
   have h8l:b<w8.heap.size:=HR8.out.lt
   go_upto_region 12 with fail
   obtain ⟨w9,hw9⟩:∃ z,z=(w8.setCell ⟨b,13,none⟩ (.slice (some ⟨w8.heap.size,0,none⟩) 1 1)).alloc (.cells #[.int .i64 r.n.id] 3):=⟨_,rfl⟩;have HR9:Hid _:=(HN8.out w9 hw9).1;have HB9:Hid _:=(HN8.out w9 hw9).2;rw [<-hw9];clear hw9 HN8 c13 f13 c0 HR8 HB8;obtain ⟨R2,hR2⟩:∃ R2,R2=Rn.timer { r with n:={ r.n with tm:=r.n.tm+1,vo:=r.n.id,ro:=2,gr:=[r.n.id] } }:=⟨_,rfl⟩;have e1:R2.n.tm=r.n.tm+1:=by rw [hR2];rfl
   have e2:R2.n.log=r.n.log:=by rw [hR2];rfl
   have e3:R2.n.sz=r.n.sz:=by rw [hR2];rfl
   have HB2:Hid (NdB R2.n):=by rw [hR2];exact ⟨hb.nw0,hb.nw1,hb.hd0,hb.hd1,hb.sz0,hb.sz1,hb.id0,hb.id1,hb.ln⟩
   have HQ8:Hid (RP=Rn.allK ⟨3,0,0,R2.n.tm,R2.n.log.length,Zs R2.n.log,0,0,0,[]⟩ R2.n.sz.toNat R2):=by
    have:=HQ7.out;unfold Hid;rw [e1,e2,e3,hR2];exact this
   obtain ⟨X2,hX2⟩:∃ X2:RV,X2={ x with vg:=.slice (some ⟨w8.heap.size,0,none⟩) 1 1 }:=⟨_,rfl⟩;have HX2:Hid (X2.L.length<=900):=by rw [hX2];exact hl
   have HTm:Hid (Calls Tryz.prog 115 #[.pointer (some ⟨b,0,none⟩)] w9 fun e w'=>e=.returned (.tuple #[])/\Z4 w' B b R2 X2/\Below B w9 w'/\w9.grownBy w' (some b)):=by
    rw [hR2,hX2];exact Jx b _ _ w9 B HR9.out hd hD hb.nw0 hb.nw1
   clear hR2 hX2 e1 e2 e3 HQ7 HR9
   go_upto_region 13 with (first
    |(go_at_call 115;refine Calls.mono HTm.out ?_;rintro e wa ⟨rfl,ha,ba,-⟩;have HRa:Hid _:=ha;have HBa:Hid (Below B w wa):=HB9.out.trans ba;clear ha ba))
   obtain ⟨la,lc,hvl⟩:=HRa.out.log.shape;have q4:∀ u:BW wa,u.w.cell? ⟨b,4,none⟩=some (.int .i64 R2.n.tm):=fun u=>(HRa.out.below u.h).blk.cell 4
   have q12:∀ u:BW wa,u.w.cell? ⟨b,12,none⟩=some (.slice la R2.n.log.length lc):=fun u=>by rw [<-hvl];exact (HRa.out.below u.h).blk.cell 12
   have c4:wa.cell? ⟨b,4,none⟩=some (.int .i64 R2.n.tm):=HRa.out.blk.cell 4;have c12:wa.cell? ⟨b,12,none⟩=some (.slice la R2.n.log.length lc):=by rw [<-hvl];exact HRa.out.blk.cell 12
   have HLt:Hid (∀ z,Below wa.heap.size wa z->Calls Tryz.prog 118 #[.agg (ndC R2.n X2)] z fun e w'=>e=.returned (.int .i64 (Zs R2.n.log))/\Below z.heap.size z w'):=fun z hz=>Z22 HRa.out HB2.out z hz
   have HAl:Hid (∀ z,Below wa.heap.size wa z->Calls Tryz.prog 117 #[.pointer (some ⟨b,0,none⟩),.agg #[.int .i64 3,.int .i64 0,.int .i64 0,.int .i64 R2.n.tm,.int .i64 (R2.n.log.length:Int),.int .i64 (Zs R2.n.log),.int .i64 0,.int .i64 0,.int .i64 0,.slice none 0 0]] z fun e w'=>∃ x',e=.returned (.tuple #[])/\Z4 w' B b (Rn.allK ⟨3,0,0,R2.n.tm,R2.n.log.length,Zs R2.n.log,0,0,0,[]⟩ R2.n.sz.toNat R2) x'/\Below B z w'/\x'.L.length<=X2.L.length+7):=fun z hz=>l4all_any b R2 X2 ⟨3,0,0,R2.n.tm,R2.n.log.length,Zs R2.n.log,0,0,0,[]⟩ none 0 z B (HRa.out.below hz) (Zd.nil _ _) (by have:=HX2.out;omega) (by have:=HB2.out.sz0;omega) HB2.out.sz1 HB2.out.id0
   have hBa:B<=wa.heap.size:=Nat.le_trans HRa.out.lo (Nat.le_of_lt HRa.out.lt);have qn:∀ u:BW wa,Sem.run Tryz.prog (loadVar 36 ⟨b,0,none⟩) u.w=.ok (.agg (ndC R2.n X2)) u.w:=fun u=>Z0g (HRa.out.below u.h)
   have NEa:Nonempty (BW wa):=⟨⟨wa,Below.refl _ _⟩⟩;clear hvl hb hd hD hl ht0 ht1 hodd hgl HTm HX2 c4 c12;refine Zn (C:=fun w'=>∃ u:BW wa,w'=u.w) _ (by kernel_rfl) rfl (by kernel_rfl) ⟨⟨_,(Below.refl _ _).drew⟩,rfl⟩ ?_;simp only [List.dropLast_cons_cons,List.dropLast_singleton]
   repeat (first | (go_big_quiet_want;refine J1 (W:=wa) 36 (.tmp 105) rfl rfl qn ?_;go_big_quiet_on;simp only [Act.put,List.setIfInBounds_toArray,List.set_cons_zero,List.set_cons_succ]) | go_big_quiet_step ((go_at_call 118;refine (HLt.out _ (BW.h _)).mono ?_;rintro e w9 ⟨rfl,hb9⟩;exact ⟨rfl,⟨⟨w9,(BW.h _).trans (hb9.mono (BW.h _).size)⟩,rfl⟩⟩)))
   refine wpQuiet_nil ?_;intro wb hwwb;have hb_wb:Below wa.heap.size wa wb:=(by obtain ⟨u,rfl⟩:=hwwb;exact u.h);clear hwwb;refine Ya (N:=117) rfl (fun _ _=>by go_simp) #[.pointer (some ⟨b,0,none⟩),.agg #[.int .i64 3,.int .i64 0,.int .i64 0,.int .i64 R2.n.tm,.int .i64 (R2.n.log.length:Int),.int .i64 (Zs R2.n.log),.int .i64 0,.int .i64 0,.int .i64 0,.slice none 0 0]] (by simp only [List.map_toArray,List.map_cons,List.map_nil];rfl) ?_;refine (HAl.out wb hb_wb).mono ?_;rintro e w9 ⟨x9,rfl,hR9,hb9,-⟩;refine ⟨_,rfl,?_⟩;have HR9:Hid _:=hR9;have HB9:Hid (Below B w w9):=(HBa.out.trans (hb_wb.mono hBa)).trans hb9;clear hR9 hb9
   go_wp2_with fail
   (try simp only [Exit.inBlock,Exit.then])
   exact bodyPost_end (results_none rfl _ _ _) rfl ⟨_,rfl,by rw [HQ8.out];exact HR9.out,HB9.out⟩
  ·have HQ6:=HQ5.out.trans (if_neg hmj)
   have hmf:Xe G.length r.n.sz=false:=by simpa using hmj
   have HQ7:Hid _:=HQ6;rw [hmf] at HGr;clear HQ5 HQ6 hmj hmf
   go_wp2_with (first
    |(go_at_call 150;refine Calls.mono HGr.out ?_;rintro e w7 ⟨vg,rfl,h7,b7,-⟩;have HR7:Hid _:=h7;have HB7:Hid (Below B w w7):=(HB6.out.mono hBw).trans b7;clear h7 b7))
   (try simp only [Exit.inBlock,Exit.then])
   exact bodyPost_ret (results_none rfl _ _ _) rfl ⟨_,rfl,by rw [HQ7.out];exact HR7.out,HB7.out⟩
structure LdB (n:Nd) (N:Nat):Prop where
 nxl:n.nx.length=N
 stl:n.st.length=N
 nx:∀ J (h:J<n.nx.length),(J:Int)+1≠n.id->∃ P:Nat,P<=n.log.length/\n.nx[J]=(P:Int)+1
theorem sendK_n (r:Rn):∀ k,∃ s,(Rn.sendK k r).n={ r.n with st:=s }/\s.length=r.n.st.length
 | 0=>⟨r.n.st,rfl,rfl⟩
 | k+1=>by
  obtain ⟨s,h1,h2⟩:=sendK_n r k;rw [Rn.sendK];split
  ·exact ⟨s,h1,h2⟩
  ·refine ⟨s.set k r.n.nw,?_,by rw [List.length_set];exact h2⟩
   show ({ (Rn.sendK k r).n with st:=(Rn.sendK k r).n.st.set k (Rn.sendK k r).n.nw } : Nd)=_;rw [h1]
theorem NdB.st {n:Nd}(h:NdB n)(s:List Int):NdB { n with st:=s }:=⟨h.nw0,h.nw1,h.hd0,h.hd1,h.sz0,h.sz1,h.id0,h.id1,h.ln⟩
theorem Z2r (b:Nat)(r:Rn)(x:RV)(w:World)(B:Nat)(h:Z4 w B b r x)(hb:NdB r.n)(hl:x.L.length<=900)(hd:LdB r.n r.n.sz.toNat) :
  Calls Tryz.prog 126 #[.pointer (some ⟨b,0,none⟩)] w fun e w'=>∃ x',e=.returned (.tuple #[])/\Z4 w' B b r.sendAll x'/\Below B w w'/\x'.L.length<=x.L.length+7:=by
 obtain ⟨N,hN⟩:∃ N:Nat,r.n.sz=N:=⟨r.n.sz.toNat,by have:=hb.sz0;omega⟩;have hNt:r.n.sz.toNat=N:=by omega
 have hN7:N<=7:=by have:=hb.sz1;omega
 have HQ:Hid (r.sendAll=r.sendK N):=by unfold Hid Rn.sendAll;rw [hNt]
 rw [hNt] at hd
 have HSe:Hid (∀ k,k<N->(k:Int)+1≠r.n.id->∀ z xx,Z4 z B b (Rn.sendK k r) xx->xx.L.length<=1000->Calls Tryz.prog 116 #[.pointer (some ⟨b,0,none⟩),.int .i64 ((k:Int)+1)] z fun e w'=>∃ v y,e=.returned (.tuple #[])/\Z4 w' B b ((Rn.sendK k r).sendE k) (xx.sent v y)/\Below B z w'):=fun k hk hne z xx hz hxl=>by
  obtain ⟨s,h1,h2⟩:=sendK_n r k;have hnx:(Rn.sendK k r).n.nx=r.n.nx:=by rw [h1]
  have hlog:(Rn.sendK k r).n.log=r.n.log:=by rw [h1]
  have hst:(Rn.sendK k r).n.st.length=r.n.st.length:=by rw [h1];exact h2
  have hkx:k<r.n.nx.length:=by rw [hd.nxl];exact hk
  obtain ⟨P,hP,hPe⟩:=hd.nx k hkx hne;exact Xg b _ xx k P z B hz (by rw [h1];exact hb.st s) hxl (by rw [hnx];exact hkx) (by rw [hst,hd.stl];exact hk) (by omega) (by simp only [hnx];exact hPe) (by rw [hlog];exact hP)
 have HC:Hid (∀ k z xx,Z4 z B b (Rn.sendK k r) xx->z.cell? ⟨b,0,none⟩=some (.int .i64 r.n.id)/\z.cell? ⟨b,1,none⟩=some (.int .i64 (N:Int))):=fun k z xx hz=>by
  obtain ⟨s,h1,-⟩:=sendK_n r k;have a0:=hz.blk.cell 0;have a1:=hz.blk.cell 1;have e0:(Rn.sendK k r).n.id=r.n.id:=by rw [h1]
  have e1:(Rn.sendK k r).n.sz=(N:Int):=by rw [h1];exact hN
  exact ⟨by rw [<-e0];exact a0,by rw [<-e1];exact a1⟩
 have HR:Hid _:=h;generalize r.sendAll=RA at *;clear h hd hb hN hNt;go_enter Tryz.func126,Tryz.ntmps126;go_wp2
 go_loopw [2] (fun iv wr=>∃(k:Nat) (xx:RV),k<=N/\iv=.int .i64 ((k:Int)+1)/\Z4 wr B b (Rn.sendK k r) xx/\Below B w wr/\xx.L.length<=x.L.length+k) (fun iv _=>N+1-(intOf iv).toNat)
 case atStart=>exact ⟨0,x,Nat.zero_le _,rfl,HR.out,Below.refl _ _,Nat.le_refl _⟩
 case round=>
  obtain ⟨k,xx,hk,rfl,hR,hB,hL⟩:=hrel;obtain ⟨c0,c1⟩:=HC.out k wr xx hR;have HRk:Hid _:=hR;have HBk:Hid _:=hB;have HLk:Hid (xx.L.length<=x.L.length+k):=hL;clear hR hB hL;by_cases hlt:k<N
  ·have hle:((k:Int)+1)<=(N:Int):=by omega
   by_cases hid:(k:Int)+1=r.n.id
   ·have hb1:(((k:Int)+1) != r.n.id)=false:=by rw [bne_eq_false_iff_eq];exact hid
    have HNx:Hid (Rn.sendK (k+1) r=Rn.sendK k r):=by
     unfold Hid;rw [Rn.sendK,if_pos hid]
    clear hid;go_wp2
    go_roundw
    case rel=>exact ⟨k+1,xx,by omega,by go_num,by rw [HNx.out];exact HRk.out,HBk.out,Nat.le_trans HLk.out (by omega)⟩
    case measure=>simp [intOf];omega
   ·have hb1:(((k:Int)+1) != r.n.id)=true:=by rw [bne_iff_ne];exact hid
    have HNx:Hid (Rn.sendK (k+1) r=(Rn.sendK k r).sendE k):=by
     unfold Hid;rw [Rn.sendK,if_neg hid]
    have HS1:Hid _:=HSe.out k hlt hid wr xx HRk.out (by have:=HLk.out;omega);clear hid
    go_wp2_with (first
     |(go_at_call 116;refine Calls.mono HS1.out ?_;rintro e w5 ⟨v5,y5,rfl,hR5,hb5⟩;have HR5:Hid _:=hR5;have HB5:Hid (Below B w w5):=HBk.out.trans hb5;clear hR5 hb5))
    go_roundw
    case rel=>exact ⟨k+1,xx.sent v5 y5,by omega,by go_num,by rw [HNx.out];exact HR5.out,HB5.out,by have:=HLk.out;show (xx.L ++ [y5]).length<=_;rw [List.length_append];simp;omega⟩
    case measure=>simp [intOf];omega
  ·obtain rfl:k=N:=by omega
   have hle:¬((k:Int)+1)<=(k:Int):=by omega
   go_wp2
   (try simp only [Exit.inBlock,Exit.then])
   exact bodyPost_end (results_none rfl _ _ _) rfl ⟨rfl,xx,by rw [HQ.out];exact HRk.out,HBk.out,Nat.le_trans HLk.out (by omega)⟩
theorem Z4.logAt {w w2 w3:World}{B b:Nat}{r:Rn}{x:RV}{v:Value}{l:List Ent}(h:Z4 w B b r x)(hL:x.L = [])(h2:Below w.heap.size w w2)(ho:Zd w3 B v l)(hg:Jy w2 x.vl w3 v) :
  Z4 (w3.setCell ⟨b,12,none⟩ v) B b { r with n:={ r.n with log:=l } } { x with vl:=v }/\Below B w (w3.setCell ⟨b,12,none⟩ v):=by
 have hs2:=h2.size;have hno:∀ k,x.vl.ownBlock=some k->B<=k/\k<w.heap.size/\k≠b:=fun k e=>⟨(World.ownsRow.lt h.log.2 k e).1,(World.ownsRow.lt h.log.2 k e).2,Yp h.log h.blk (by decide) k e⟩
 have hk3:∀ k,k<w.heap.size->x.vl.ownBlock≠some k->w3.heap[k]? = w.heap[k]?:=fun k hk hne=>(hg.g.block k (by omega) (fun e=>hne e.symm)).trans (h2.block k hk)
 have hbb:Blk w3 b (rnC r x) 112:=h.blk.keep (hk3 b h.lt fun e=>(hno b e).2.2 rfl);have hset:∀ k,k≠b->(w3.setCell ⟨b,12,none⟩ v).heap[k]? = w3.heap[k]?:=fun k hk=>Below.heap_setCell _ _ _ _ hk
 have hap:∀ {α:Type} {cs:α->List Value} {m':Nat} {T:TypeId} {u:Value} {l:List α},T≠112->T≠118->Z6 cs m' T w B u l->Z6 cs m' T (w3.setCell ⟨b,12,none⟩ v) B u l:=fun h1 hT ho'=>ho'.block fun k e=>(hset k (Zm ho' h.blk h1 k e)).trans (hk3 k (ho'.lts k e).2 fun e'=>by
  obtain ⟨-,-,⟨hx,-⟩ | ⟨g,cap,cur,hx,-,hb',-⟩⟩:=h.log
  ·rw [hx] at e';cases e'
  obtain ⟨-,⟨hy,-⟩ | ⟨g2,cap2,cur2,hy,-,hb2,-⟩⟩:=ho'
  ·rw [hy] at e;cases e
  rw [hx] at e';rw [hy] at e;cases e';cases e;rw [hb2] at hb';simp only [Option.some.injEq,Obj.cells.injEq] at hb';exact hT hb'.2.1)
 refine ⟨⟨hbb.set 12 v,h.lo,ho.block fun k e=>hset k ?_,hap (by decide) (by decide) h.gr,hap (by decide) (by decide) h.nx,hap (by decide) (by decide) h.mt,hap (by decide) (by decide) h.se,hap (by decide) (by decide) h.st,hap (by decide) (by decide) h.out,h.outC,?_,h.ap⟩,?_⟩
 ·rcases hg.at' with e' | ⟨g,e',hk⟩
  ·rw [e] at e';exact (hno k e'.symm).2.2
  ·rw [e] at e';cases e';have:=h.lt;omega
 ·intro p hp
  have hp':p∈x.L:=hp;rw [hL] at hp';cases hp'
 ·refine Below.setCell (p:=⟨b,12,none⟩) (w:=w3) ?_ h.lo v
  have hBs:B<=w.heap.size:=Nat.le_trans h.lo (Nat.le_of_lt h.lt);exact ((Below.refl B w).trans (h2.mono hBs)).grown hg.g (by omega) (fun k e=>(hno k e).1)
end Go.Proofs.YtmmpoppgabadmaaGreat
