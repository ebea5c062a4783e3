import Derived.Test.YtmmpoppgabadmaaGreatG05
import Derived.Test.YtmmpoppgabadmaaGreatG08
set_option linter.unusedVariables false
set_option linter.unusedSimpArgs false
set_option maxRecDepth 100000
set_option maxHeartbeats 16000000
namespace Go.Proofs.YtmmpoppgabadmaaGreat
open Go.RowKit
structure LdT (n:Nd) (N:Nat):Prop where
 ldb:LdB n N
 sel:n.se.length=N
 se:∀ y∈n.se,0<=y/\y<=n.nw
 st:∀ y∈n.st,0<=y/\y<=n.nw
theorem heardK_le (n:Nd):∀ k,Yh n k<=k
 | 0=>Nat.le_refl _
 | k+1=>by
  have:=heardK_le n k;rw [Yh];split <;> omega
theorem beatK_n (r:Rn)(h0:0<=r.n.nw)(hst:∀ y∈r.n.st,0<=y/\y<=r.n.nw):∀ k,∃ s,(Rn.beatK k r).n={ r.n with st:=s }/\s.length=r.n.st.length/\∀ y∈s,0<=y/\y<=r.n.nw
 | 0=>⟨r.n.st,rfl,rfl,hst⟩
 | k+1=>by
  obtain ⟨s,h1,h2,h3⟩:=beatK_n r h0 hst k;rw [Rn.beatK];split
  ·refine ⟨s.set k r.n.nw,?_,by rw [List.length_set];exact h2,?_⟩
   ·show ({ (Rn.beatK k r).n with st:=(Rn.beatK k r).n.st.set k (Rn.beatK k r).n.nw } : Nd)=_
    rw [h1]
   ·intro y hy
    rcases List.mem_or_eq_of_mem_set hy with h | h
    ·exact h3 y h
    ·rw [h];exact ⟨h0,Int.le_refl _⟩
  ·exact ⟨s,h1,h2,h3⟩
theorem tick_eq (r0:Rn):r0.tick=if r0.n.nw=1099511627776 then { r0 with code:=7 } else
  if r0.n.ro=3 then
   (if Z0c (((Yh { r0.n with nw:=r0.n.nw+1 } r0.n.sz.toNat+1:Nat)):Int) r0.n.sz=true then Rn.beatK r0.n.sz.toNat { r0 with n:={ r0.n with nw:=r0.n.nw+1 } } else (Rn.lone { r0 with n:={ r0.n with nw:=r0.n.nw+1 } }).timer)
  else if r0.n.nw+1<r0.n.dl then { r0 with n:={ r0.n with nw:=r0.n.nw+1 } }
  else if r0.n.tm=1073741824 then (Rn.lone { r0 with n:={ r0.n with nw:=r0.n.nw+1 } }).timer
  else Rn.allK ⟨1,0,0,r0.n.tm+1,r0.n.log.length,Yn r0.n.log,0,0,0,[]⟩ r0.n.sz.toNat { (Rn.lone { r0 with n:={ r0.n with nw:=r0.n.nw+1 } }).timer with n:={ (Rn.lone { r0 with n:={ r0.n with nw:=r0.n.nw+1 } }).timer.n with ro:=1,gr:=[r0.n.id] } }:=by
 unfold Rn.tick;split
 ·rfl
 rw [show (((Yh { r0.n with nw:=r0.n.nw+1 } r0.n.sz.toNat+1:Nat)):Int)=1+(Yh { r0.n with nw:=r0.n.nw+1 } r0.n.sz.toNat:Int) by push_cast;omega]
theorem l4tick_any (b:Nat)(r:Rn)(x:RV)(w:World)(B:Nat)(h:Zv w B b r x)(hb:NdB r.n)(hd : -(2^63)<=r.draw)(hD:r.draw<2^63)(hl:x.L.length<=900)(hodd:r.n.sz%2=1)(ht0:0<=r.n.tm)(ht1:r.n.tm<=1073741824)(hLd:r.n.ro=3->LdT r.n r.n.sz.toNat) :
  Calls Tryz.prog 76 #[.pointer (some ⟨b,0,none⟩)] w fun e w'=>∃ x',e=.returned (.tuple #[])/\Zv w' B b r.tick x'/\Below B w w':=by
 have HR:Hid _:=h;have hBw:B<=w.heap.size:=Nat.le_trans h.lo (Nat.le_of_lt h.lt);have hbl:=h.lt;have HQ:Hid (r.tick=_):=tick_eq r;generalize r.tick=RP at *;have c9:w.cell? ⟨b,9,none⟩=some (.int .i64 r.n.nw):=h.blk.cell 9;have f9:w.frozen? ⟨b,9,none⟩=false:=h.blk.free 9;by_cases hnw:r.n.nw=1099511627776
 ·have HQ2:Hid (RP={ r with code:=7 }):=HQ.out.trans (if_pos hnw)
  have k19:w.cell? ⟨b,19,none⟩=some (.int .i64 r.code):=h.blk.cell 19;have f19:w.frozen? ⟨b,19,none⟩=false:=h.blk.free 19;rw [hnw] at c9;clear HQ h hnw hb;go_enter Tryz.func76,Tryz.ntmps76
  go_wp2_with (fail)
  (try simp only [Exit.inBlock,Exit.then])
  refine bodyPost_ret (results_none rfl _ _ _) rfl ⟨x,rfl,?_,HR.out.setB 19 _⟩;rw [HQ2.out];exact HR.out.set 19 _ rfl rfl rfl rfl rfl rfl rfl rfl
 have hnb:(r.n.nw == 1099511627776)=false:=by simpa using hnw
 have HQ2:=HQ.out.trans (if_neg hnw);have HQ3:Hid _:=HQ2;have hw1:IntKind.i64.wrap (r.n.nw+1)=r.n.nw+1:=by have:=hb.nw0;have:=hb.nw1;rw [IntKind.wrap_i64];omega
 obtain ⟨R0,hR0⟩:∃ R0:Rn,R0={ r with n:={ r.n with nw:=r.n.nw+1 } }:=⟨_,rfl⟩;have HB0:Hid (NdB R0.n):=by rw [hR0];exact ⟨by show 0<=r.n.nw+1;have:=hb.nw0;omega,by show r.n.nw+1<=_;have:=hb.nw1;omega,hb.hd0,by show r.n.hd<=r.n.nw+1;have:=hb.hd1;omega,hb.sz0,hb.sz1,hb.id0,hb.id1,hb.ln⟩
 have HE:Hid (R0.n.ro=r.n.ro/\R0.n.nw=r.n.nw+1/\R0.n.dl=r.n.dl/\R0.n.tm=r.n.tm/\R0.n.id=r.n.id/\R0.n.sz=r.n.sz/\R0.draw=r.draw/\R0.n.log=r.n.log):=by rw [hR0];exact ⟨rfl,rfl,rfl,rfl,rfl,rfl,rfl,rfl⟩
 have HQ4:Hid (RP=if R0.n.ro=3 then
   (if Z0c (((Yh R0.n R0.n.sz.toNat+1:Nat)):Int) R0.n.sz=true then Rn.beatK R0.n.sz.toNat R0 else (Rn.lone R0).timer)
  else if R0.n.nw<R0.n.dl then R0
  else if R0.n.tm=1073741824 then (Rn.lone R0).timer
  else Rn.allK ⟨1,0,0,R0.n.tm+1,R0.n.log.length,Yn R0.n.log,0,0,0,[]⟩ R0.n.sz.toNat { (Rn.lone R0).timer with n:={ (Rn.lone R0).timer.n with ro:=1,gr:=[R0.n.id] } }):=by rw [hR0];exact HQ3.out
 have HLd:Hid (R0.n.ro=3->LdT R0.n R0.n.sz.toNat):=by
  rw [hR0];intro h3;have h9:=hLd h3;exact ⟨⟨h9.ldb.nxl,h9.ldb.stl,h9.ldb.nx⟩,h9.sel,fun y hy=>by have:=h9.se y hy;exact ⟨this.1,by show y<=r.n.nw+1;omega⟩,fun y hy=>by have:=h9.st y hy;exact ⟨this.1,by show y<=r.n.nw+1;omega⟩⟩
 obtain ⟨w0,hw0⟩:∃ z,z=w.setCell ⟨b,9,none⟩ (.int .i64 (r.n.nw+1)):=⟨_,rfl⟩;have HR0:Hid (Zv w0 B b R0 x):=by rw [hw0,hR0];exact h.set 9 _ rfl rfl rfl rfl rfl rfl rfl rfl
 have HW0:Hid (Below B w w0):=by rw [hw0];exact h.setB 9 _
 have HD0:Hid (-(2^63)<=R0.draw/\R0.draw<2^63):=by rw [hR0];exact ⟨hd,hD⟩
 have ht0':0<=R0.n.tm:=by rw [hR0];exact ht0
 have ht1':R0.n.tm<=1073741824:=by rw [hR0];exact ht1
 have hodd':R0.n.sz%2=1:=by rw [hR0];exact hodd
 clear HQ HQ2 HQ3 hnw h hLd hR0 HE hb hd hD ht0 ht1 hodd HR;go_enter Tryz.func76,Tryz.ntmps76
 go_upto_region 3 with fail
 rw [<-hw0];clear hw0 c9 f9 hnb hw1;have k6:w0.cell? ⟨b,6,none⟩=some (.int .i64 R0.n.ro):=HR0.out.blk.cell 6;by_cases hro:R0.n.ro=3
 ·have hrb:(R0.n.ro == 3)=true:=by simpa using hro
  have HQ5:=HQ4.out.trans (if_pos hro);have HLt:Hid (LdT R0.n R0.n.sz.toNat):=HLd.out hro;obtain ⟨N,hN⟩:∃ N:Nat,R0.n.sz=N:=⟨R0.n.sz.toNat,by have:=HB0.out.sz0;omega⟩;have hN7:N<=7:=by have:=HB0.out.sz1;omega
  have hNt:R0.n.sz.toNat=N:=by omega
  rw [hNt] at HQ5 HLt;have HQ6:Hid _:=HQ5;have HN:Hid (R0.n.sz=(N:Int)):=hN;have HHl:Hid (∀ k,Yh R0.n k<=k):=heardK_le _;have HHs:Hid (∀ k,Yh R0.n (k+1)=Yh R0.n k+if (k:Int)+1≠R0.n.id/\R0.n.nw-R0.n.se.getD k 0<R0.n.el then 1 else 0):=fun k=>rfl
  have HH0:Hid (Yh R0.n 0=0):=rfl;have hnw0:=HB0.out.nw0;have hnw1:=HB0.out.nw1;clear HQ4 HQ5 HLd hro hN hNt
  go_upto_region 6 with fail
  go_loopw [2,3] (fun av jv wr=>∃ k:Nat,k<=N/\jv=.int .i64 ((k:Int)+1)/\av=.int .i64 ((Yh R0.n k+1:Nat):Int)/\Below w0.heap.size w0 wr) (fun _ jv _=>N+1-(intOf jv).toNat)
  case atStart=>exact ⟨0,Nat.zero_le _,rfl,by rw [HH0.out];rfl,Below.refl _ _⟩
  case round=>
   obtain ⟨k,hk,rfl,rfl,hBr⟩:=hrel;have HBr:Hid _:=hBr;have HRr:Hid (Zv wr B b R0 x):=HR0.out.below hBr;have c1:wr.cell? ⟨b,1,none⟩=some (.int .i64 (N:Int)):=by rw [<-HN.out];exact HRr.out.blk.cell 1
   have hck:=HHl.out k;have hst:=HHs.out k;clear hBr k6;by_cases hlt:k<N
   ·have hle:((k:Int)+1)<=(N:Int):=by omega
    have c0:wr.cell? ⟨b,0,none⟩=some (.int .i64 R0.n.id):=HRr.out.blk.cell 0;have c9:wr.cell? ⟨b,9,none⟩=some (.int .i64 R0.n.nw):=HRr.out.blk.cell 9;have c2:wr.cell? ⟨b,2,none⟩=some (.int .i64 R0.n.el):=HRr.out.blk.cell 2;obtain ⟨sg,sc,hvs,hsl,cs,-⟩:=int_row HRr.out.se k (by rw [HLt.out.sel];exact hlt);have c16:wr.cell? ⟨b,16,none⟩=some (.slice (some ⟨sg,0,none⟩) R0.n.se.length sc):=by rw [<-hvs];exact HRr.out.blk.cell 16
    have hse:=HLt.out.se _ (List.getElem_mem (show k<R0.n.se.length by rw [HLt.out.sel];exact hlt));have hgd:R0.n.se.getD k 0=R0.n.se[k]'(by rw [HLt.out.sel];exact hlt):=by rw [List.getD_eq_getElem?_getD,List.getElem?_eq_getElem (by rw [HLt.out.sel];exact hlt)];rfl
    rw [hgd] at hst;have hsi:(k:Int)<(R0.n.se.length:Int):=by rw [HLt.out.sel];omega
    clear hgd hvs;generalize (R0.n.se[k]'(by rw [HLt.out.sel];exact hlt))=SE at *;have hwk:IntKind.i64.wrap ((k:Int)+1-1)=(k:Int):=by rw [IntKind.wrap_i64];omega
    have hws:IntKind.i64.wrap (R0.n.nw-SE)=R0.n.nw-SE:=by rw [IntKind.wrap_i64];omega
    have hwc:IntKind.i64.wrap (((Yh R0.n k+1:Nat):Int)+1)=((Yh R0.n k+1+1:Nat):Int):=by rw [IntKind.wrap_i64];push_cast;omega
    by_cases hj:(k:Int)+1=R0.n.id
    ·have hjb:(((k:Int)+1) != R0.n.id)=false:=by simpa using hj
     rw [if_neg (fun h=>h.1 hj)] at hst;have HN2:Hid (Yh R0.n (k+1)=Yh R0.n k):=by rw [hst];rfl
     clear hst hj;generalize hhK:Yh R0.n k=HK at *
     go_upto_region 8 with fail
     go_quiet (fail)
     go_wp2_with fail
     go_roundw
     case rel=>exact ⟨k+1,by omega,by go_num,by rw [HN2.out],HBr.out.trans ⟨rfl,rfl,rfl,Nat.le_refl _,fun _ _=>rfl⟩⟩
     case measure=>simp [intOf];omega
    ·have hjb:(((k:Int)+1) != R0.n.id)=true:=by simpa using hj
     by_cases hg:R0.n.nw-SE<R0.n.el
     ·rw [if_pos ⟨hj,hg⟩] at hst
      have HN2:Hid (Yh R0.n (k+1)=Yh R0.n k+1):=hst;have hgb:decide (R0.n.nw-SE<R0.n.el)=true:=decide_eq_true hg;clear hst hj;generalize hhK:Yh R0.n k=HK at *
      go_upto_region 8 with fail
      go_quiet (fail)
      go_wp2_with fail
      go_roundw
      case rel=>exact ⟨k+1,by omega,by go_num,by rw [HN2.out];go_num,HBr.out.trans ⟨rfl,rfl,rfl,Nat.le_refl _,fun _ _=>rfl⟩⟩
      case measure=>simp [intOf];omega
     ·rw [if_neg (fun h=>hg h.2)] at hst
      have HN2:Hid (Yh R0.n (k+1)=Yh R0.n k):=by rw [hst];rfl
      have hgb:decide (R0.n.nw-SE<R0.n.el)=false:=decide_eq_false hg;clear hst hj;generalize hhK:Yh R0.n k=HK at *
      go_upto_region 8 with fail
      go_quiet (fail)
      go_wp2_with fail
      go_roundw
      case rel=>exact ⟨k+1,by omega,by go_num,by rw [HN2.out],HBr.out.trans ⟨rfl,rfl,rfl,Nat.le_refl _,fun _ _=>rfl⟩⟩
      case measure=>simp [intOf];omega
   ·obtain rfl:k=N:=by omega
    have hle:¬((k:Int)+1)<=(k:Int):=by omega
    have HM:Hid (∀ z,Calls Tryz.prog 100 #[.int .i64 ((Yh R0.n k+1:Nat):Int),.int .i64 (k:Int)] z fun e w'=>e=.returned (.bool (Z0c ((Yh R0.n k+1:Nat):Int) R0.n.sz))/\w'=z):=fun z=>by
     have h9:=Z01 ((Yh R0.n k+1:Nat):Int) (k:Int) (by rw [<-HN.out];exact hodd') (by omega) (by omega) z;rw [maj_same (by rw [<-HN.out];exact hodd'),<-HN.out] at h9;rw [<-HN.out];exact h9
    have HBr2:Hid (Below B w wr):=HW0.out.trans (HBr.out.mono (Nat.le_trans HR0.out.lo (Nat.le_of_lt HR0.out.lt)));obtain ⟨wp,hwp⟩:∃ z,z=wr:=⟨_,rfl⟩;rw [<-hwp] at HBr2 HRr c1;rw [<-hwp];clear hst hck HHl HHs HH0 hwp HBr HR0 HW0;obtain ⟨MJ,hMJ⟩:∃ MJ,MJ=Z0c ((Yh R0.n k+1:Nat):Int) R0.n.sz:=⟨_,rfl⟩;rw [<-hMJ] at HM HQ6;generalize Yh R0.n k+1=cnt at *;clear hMJ;by_cases hmj:MJ=true
    case neg=>
     have hmf:MJ=false:=by simpa using hmj
     have HQ7:Hid (RP=R0.lone.timer):=HQ6.out.trans (if_neg hmj);rw [hmf] at HM;clear HQ6 hmj hmf
     go_wp2_with (first
      |(go_at_call 100;refine (HM.out _).mono ?_;rintro e w' ⟨rfl,hww⟩;have hww2:=hww.symm;subst hww2)
      |(go_at_call 114;refine Calls.mono (Z31 b R0 x wp B HRr.out) ?_;rintro e w5 ⟨rfl,h5,b5,-⟩;have HR5:Hid _:=h5;have HW5:Hid (Below B w w5):=HBr2.out.trans b5;clear h5 b5)
      |(go_at_call 115;refine Calls.mono (Z2q b R0.lone x.lone w5 B HR5.out HD0.out.1 HD0.out.2 HB0.out.nw0 HB0.out.nw1) ?_;rintro e w6 ⟨rfl,h6,b6,-⟩;have HR6:Hid _:=h6;have HW6:Hid (Below B w w6):=HW5.out.trans b6;clear h6 b6))
     (try simp only [Exit.inBlock,Exit.then])
     exact bodyPost_ret (results_none rfl _ _ _) rfl ⟨x.lone,rfl,by rw [HQ7.out];exact HR6.out,HW6.out⟩
    have HQ7:Hid (RP=Rn.beatK k R0):=HQ6.out.trans (if_pos hmj);rw [hmj] at HM;clear HQ6 hmj;have HBe:Hid (∀ j,∃ s,(Rn.beatK j R0).n={ R0.n with st:=s }/\s.length=R0.n.st.length/\∀ y∈s,0<=y/\y<=R0.n.nw):=beatK_n R0 HB0.out.nw0 HLt.out.st;have HBs:Hid (∀ j,Rn.beatK (j+1) R0=if (j:Int)+1≠R0.n.id/\R0.n.bt<=R0.n.nw-(Rn.beatK j R0).n.st.getD j 0 then (Rn.beatK j R0).sendE j else Rn.beatK j R0):=fun j=>rfl
    have HBK0:Hid (Rn.beatK 0 R0=R0):=rfl
    go_upto_region 14 with (first
     |(go_at_call 100;refine (HM.out _).mono ?_;rintro e w' ⟨rfl,hww⟩;have hww2:=hww.symm;subst hww2))
    clear c1 HM
    go_loopw [4] (fun jv wr=>∃ j:Nat,j<=k/\jv=.int .i64 ((j:Int)+1)/\∃ X:RV,Zv wr B b (Rn.beatK j R0) X/\X.L.length<=x.L.length+j/\Below B w wr) (fun jv _=>k+1-(intOf jv).toNat)
    case atStart=>exact ⟨0,Nat.zero_le _,rfl,x,by rw [HBK0.out];exact HRr.out,Nat.le_refl _,HBr2.out⟩
    case round=>
     obtain ⟨j,hj0,rfl,X,hR,hXL,hBr⟩:=hrel;have HRj:Hid _:=hR;have HBj:Hid _:=hBr;have HXL:Hid (X.L.length<=x.L.length+j):=hXL;obtain ⟨s,hs1,hs2,hs3⟩:=HBe.out j;have hst:=HBs.out j;have HS1:Hid ((Rn.beatK j R0).n={ R0.n with st:=s }):=hs1;have c1:wr.cell? ⟨b,1,none⟩=some (.int .i64 (k:Int)):=by rw [<-HN.out];have h9:=hR.blk.cell 1;rw [h9];show some (Value.int .i64 (Rn.beatK j R0).n.sz)=_;rw [hs1]
     clear hR hXL hBr;by_cases hjlt:j<k
     ·have hjle:((j:Int)+1)<=(k:Int):=by omega
      have c0:wr.cell? ⟨b,0,none⟩=some (.int .i64 R0.n.id):=by have h9:=HRj.out.blk.cell 0;rw [h9];show some (Value.int .i64 (Rn.beatK j R0).n.id)=_;rw [hs1]
      have c9:wr.cell? ⟨b,9,none⟩=some (.int .i64 R0.n.nw):=by have h9:=HRj.out.blk.cell 9;rw [h9];show some (Value.int .i64 (Rn.beatK j R0).n.nw)=_;rw [hs1]
      have c3:wr.cell? ⟨b,3,none⟩=some (.int .i64 R0.n.bt):=by have h9:=HRj.out.blk.cell 3;rw [h9];show some (Value.int .i64 (Rn.beatK j R0).n.bt)=_;rw [hs1]
      have hst0:(Rn.beatK j R0).n.st=s:=by rw [hs1]
      have hsl:s.length=k:=by rw [hs2,HLt.out.ldb.stl]
      have hOs:=HRj.out.st;rw [hst0] at hOs hst;obtain ⟨tg,tc,hvt,htl,ct,-⟩:=int_row hOs j (by omega);have c17:wr.cell? ⟨b,17,none⟩=some (.slice (some ⟨tg,0,none⟩) s.length tc):=by rw [<-hvt];exact HRj.out.blk.cell 17
      have hsb:=hs3 _ (List.getElem_mem (show j<s.length by omega));have hgd:s.getD j 0=s[j]'(by omega):=by rw [List.getD_eq_getElem?_getD,List.getElem?_eq_getElem (by omega)];rfl
      rw [hgd] at hst;have hsi:(j:Int)<(s.length:Int):=by omega
      have HSl:Hid (s.length=k):=hsl;clear hgd;generalize (s[j]'(by omega))=TE at *;clear hvt hs1 hs2 hs3 hst0 hOs hsl;have hwk:IntKind.i64.wrap ((j:Int)+1-1)=(j:Int):=by rw [IntKind.wrap_i64];omega
      have hws:IntKind.i64.wrap (R0.n.nw-TE)=R0.n.nw-TE:=by rw [IntKind.wrap_i64];omega
      by_cases hjd:(j:Int)+1=R0.n.id
      ·have hjb:(((j:Int)+1) != R0.n.id)=false:=by simpa using hjd
       rw [if_neg (fun h=>h.1 hjd)] at hst;have HN2:Hid (Rn.beatK (j+1) R0=Rn.beatK j R0):=hst;clear hst hjd
       go_upto_region 16 with fail
       go_quiet (fail)
       go_wp2_with fail
       go_roundw
       case rel=>exact ⟨j+1,by omega,by go_num,X,by rw [HN2.out];exact HRj.out.below ⟨rfl,rfl,rfl,Nat.le_refl _,fun _ _=>rfl⟩,by have:=HXL.out;omega,HBj.out.trans ⟨rfl,rfl,rfl,Nat.le_refl _,fun _ _=>rfl⟩⟩
       case measure=>simp [intOf];omega
      ·have hjb:(((j:Int)+1) != R0.n.id)=true:=by simpa using hjd
       by_cases hg:R0.n.bt<=R0.n.nw-TE
       ·rw [if_pos ⟨hjd,hg⟩] at hst
        have HN2:Hid (Rn.beatK (j+1) R0=(Rn.beatK j R0).sendE j):=hst;have hgb:decide (R0.n.bt<=R0.n.nw-TE)=true:=decide_eq_true hg;obtain ⟨P,hPl,hP⟩:=HLt.out.ldb.nx j (by rw [HLt.out.ldb.nxl];exact hjlt) hjd
        have HSd:Hid (∀ z,Below wr.heap.size wr z->Calls Tryz.prog 116 #[.pointer (some ⟨b,0,none⟩),.int .i64 ((j:Int)+1)] z fun e w'=>∃ v y,e=.returned (.tuple #[])/\Zv w' B b ((Rn.beatK j R0).sendE j) (X.sent v y)/\Below B z w'):=fun z hz=>
         Z20 b (Rn.beatK j R0) X j P z B (HRj.out.below hz) (by rw [HS1.out];exact HB0.out.st s) (by have:=HXL.out;omega) (by rw [HS1.out];show j<R0.n.nx.length;rw [HLt.out.ldb.nxl];exact hjlt) (by rw [HS1.out];show j<s.length;have:=HSl.out;omega) (by omega) (by simp only [HS1.out];exact hP) (by rw [HS1.out];exact hPl)
        clear hst hjd hPl hP
        go_upto_region 16 with fail
        go_quiet (fail)
        obtain ⟨wq,hwq⟩:∃ z,z=wr.drewN nq:=⟨_,rfl⟩;have HBq:Hid (Below wr.heap.size wr wq):=by rw [hwq];exact ⟨rfl,rfl,rfl,Nat.le_refl _,fun _ _=>rfl⟩
        rw [<-hwq];clear hwq c1 c0 c9 c3 c17 ct
        go_wp2_with (first
         |(go_at_call 116;refine Calls.mono (HSd.out wq HBq.out) ?_;rintro e wz ⟨v9,y9,rfl,hRz,hbz⟩;have HRz:Hid _:=hRz;have HBz:Hid (Below B w wz):=(HBj.out.trans (HBq.out.mono (Nat.le_trans HRj.out.lo (Nat.le_of_lt HRj.out.lt)))).trans hbz;clear hRz hbz))
        go_roundw
        case rel=>exact ⟨j+1,by omega,by go_num,X.sent v9 y9,by rw [HN2.out];exact HRz.out,by have:=HXL.out;show (X.L ++ [y9]).length<=_;rw [List.length_append,List.length_singleton];omega,HBz.out⟩
        case measure=>simp [intOf];omega
       ·rw [if_neg (fun h=>hg h.2)] at hst
        have HN2:Hid (Rn.beatK (j+1) R0=Rn.beatK j R0):=hst;have hgb:decide (R0.n.bt<=R0.n.nw-TE)=false:=decide_eq_false hg;clear hst hjd
        go_upto_region 16 with fail
        go_quiet (fail)
        go_wp2_with fail
        go_roundw
        case rel=>exact ⟨j+1,by omega,by go_num,X,by rw [HN2.out];exact HRj.out.below ⟨rfl,rfl,rfl,Nat.le_refl _,fun _ _=>rfl⟩,by have:=HXL.out;omega,HBj.out.trans ⟨rfl,rfl,rfl,Nat.le_refl _,fun _ _=>rfl⟩⟩
        case measure=>simp [intOf];omega
     ·obtain rfl:j=k:=by omega
      have hjle:¬((j:Int)+1)<=(j:Int):=by omega
      have HF:Hid (Zv wr B b RP X):=by unfold Hid;rw [HQ7.out];exact HRj.out
      clear hst hs1 hs2 hs3
      go_wp2_with fail
      (try simp only [Exit.inBlock,Exit.then])
      first
       | exact bodyPost_ret (results_none rfl _ _ _) rfl ⟨X,rfl,HF.out,HBj.out⟩
       | exact bodyPost_ret (results_none rfl _ _ _) rfl ⟨rfl,⟨X,HF.out⟩,HBj.out⟩
 ·have hrb:(R0.n.ro == 3)=false:=by simpa using hro
  have HQ5:Hid _:=HQ4.out.trans (if_neg hro);clear HQ4 HLd hro;have k9:w0.cell? ⟨b,9,none⟩=some (.int .i64 R0.n.nw):=HR0.out.blk.cell 9;have k10:w0.cell? ⟨b,10,none⟩=some (.int .i64 R0.n.dl):=HR0.out.blk.cell 10
  go_upto_region 18 with fail
  go_quiet (fail)
  obtain ⟨w4,hw4⟩:∃ z,z=w0.drewN nq:=⟨_,rfl⟩;have hb4:Below w0.heap.size w0 w4:=by rw [hw4];exact ⟨rfl,rfl,rfl,Nat.le_refl _,fun _ _=>rfl⟩
  rw [<-hw4];have HR4:Hid (Zv w4 B b R0 x):=HR0.out.below hb4;have HW4:Hid (Below B w w4):=HW0.out.trans (hb4.mono (Nat.le_trans HR0.out.lo (Nat.le_of_lt HR0.out.lt)));clear hw4 hb4 k6 k9 k10 HR0 HW0
  go_upto_if 134 with fail
  by_cases hdl:R0.n.nw<R0.n.dl
  ·have HQ6:Hid (RP=R0):=HQ5.out.trans (if_pos hdl)
   rw [show decide (R0.n.nw<R0.n.dl)=true from decide_eq_true hdl];clear hdl HQ5
   go_wp2_with fail
   (try simp only [Exit.inBlock,Exit.then])
   exact bodyPost_ret (results_none rfl _ _ _) rfl ⟨x,rfl,by rw [HQ6.out];exact HR4.out,HW4.out⟩
  rw [show decide (R0.n.nw<R0.n.dl)=false from decide_eq_false hdl];have HQ6:Hid _:=HQ5.out.trans (if_neg hdl);obtain ⟨R2,hR2⟩:∃ R2,R2=(Rn.lone R0).timer:=⟨_,rfl⟩;obtain ⟨X2,hX2⟩:∃ X2:RV,X2=x.lone:=⟨_,rfl⟩;have HTm:Hid (∀ z,Zv z B b R0.lone x.lone->Calls Tryz.prog 115 #[.pointer (some ⟨b,0,none⟩)] z fun e w'=>e=.returned (.tuple #[])/\Zv w' B b R2 X2/\Below B z w'/\z.grownBy w' (some b)):=fun z hz=>by rw [hR2,hX2];exact Z2q b _ _ z B hz HD0.out.1 HD0.out.2 HB0.out.nw0 HB0.out.nw1
  have HE2:Hid (R2.n.tm=R0.n.tm/\R2.n.log=R0.n.log/\R2.n.id=R0.n.id/\R2.n.sz=R0.n.sz):=by rw [hR2];exact ⟨rfl,rfl,rfl,rfl⟩
  have HQ7:Hid (RP=if R0.n.tm=1073741824 then R2 else Rn.allK ⟨1,0,0,R0.n.tm+1,R0.n.log.length,Yn R0.n.log,0,0,0,[]⟩ R0.n.sz.toNat { R2 with n:={ R2.n with ro:=1,gr:=[R0.n.id] } }):=by rw [hR2];exact HQ6.out
  have HB2:Hid (NdB R2.n):=by rw [hR2];exact ⟨HB0.out.nw0,HB0.out.nw1,HB0.out.hd0,HB0.out.hd1,HB0.out.sz0,HB0.out.sz1,HB0.out.id0,HB0.out.id1,HB0.out.ln⟩
  have HX2:Hid (X2.L.length<=900):=by rw [hX2];exact hl
  clear hdl HQ5 HQ6 hR2 hX2
  go_upto_region 21 with (first
   |(go_at_call 114;refine Calls.mono (Z31 b R0 x w4 B HR4.out) ?_;rintro e w5 ⟨rfl,h5,b5,-⟩;have HR5:Hid _:=h5;have HW5:Hid (Below B w w5):=HW4.out.trans b5;clear h5 b5)
   |(go_at_call 115;refine Calls.mono (HTm.out w5 HR5.out) ?_;rintro e w6 ⟨rfl,h6,b6,-⟩;have HR6:Hid _:=h6;have HW6:Hid (Below B w w6):=HW5.out.trans b6;clear h6 b6))
  have c4:w6.cell? ⟨b,4,none⟩=some (.int .i64 R0.n.tm):=by rw [<-HE2.out.1];exact HR6.out.blk.cell 4
  by_cases htm:R0.n.tm=1073741824
  ·have HQ8:Hid (RP=R2):=HQ7.out.trans (if_pos htm)
   rw [htm] at c4;clear htm HQ7
   go_wp2_with fail
   (try simp only [Exit.inBlock,Exit.then])
   exact bodyPost_ret (results_none rfl _ _ _) rfl ⟨X2,rfl,by rw [HQ8.out];exact HR6.out,HW6.out⟩
  have htb:(R0.n.tm == 1073741824)=false:=by simpa using htm
  have HQ8:Hid _:=HQ7.out.trans (if_neg htm);clear htm HQ7 HR4 HW4 HR5 HW5 HTm;have c6:w6.cell? ⟨b,6,none⟩=some (.int .i64 R2.n.ro):=HR6.out.blk.cell 6;have f6:w6.frozen? ⟨b,6,none⟩=false:=HR6.out.blk.free 6
  go_upto_region 23 with fail
  obtain ⟨w8,hw8⟩:∃ z,z=w6.setCell ⟨b,6,none⟩ (.int .i64 1):=⟨_,rfl⟩;have HR8:Hid (Zv w8 B b { R2 with n:={ R2.n with ro:=1 } } X2):=by rw [hw8];exact HR6.out.set 6 _ rfl rfl rfl rfl rfl rfl rfl rfl
  have HW8:Hid (Below B w w8):=by rw [hw8];exact HW6.out.setCell (p:=⟨b,6,none⟩) HR6.out.lo _
  rw [<-hw8];clear hw8 c4 c6 f6 HR6 HW6;have c0:w8.cell? ⟨b,0,none⟩=some (.int .i64 R0.n.id):=by rw [<-HE2.out.2.2.1];exact HR8.out.blk.cell 0
  have HN8:Hid (∀ z,z=(w8.setCell ⟨b,13,none⟩ (.slice (some ⟨w8.heap.size,0,none⟩) 1 1)).alloc (.cells #[.int .i64 R0.n.id] 3)->Zv z B b { R2 with n:={ R2.n with ro:=1,gr:=[R0.n.id] } } { X2 with vg:=.slice (some ⟨w8.heap.size,0,none⟩) 1 1 }/\Below B w z):=fun z hz=>by
   have:=HR8.out.grantAt ((Below.refl _ _).alloc (Nat.le_refl _) _) (ownI_one w8 w8.heap.size (Nat.le_refl _) R0.n.id);rw [hz,<-World.setCell_alloc_past _ _ _ _ HR8.out.lt];exact ⟨this.1,HW8.out.trans this.2.1⟩
  have c13:∀ o:Obj,(w8.alloc o).cell? ⟨b,13,none⟩=some X2.vg:=fun o=>(HR8.out.below ((Below.refl _ _).alloc (Nat.le_refl _) _)).blk.cell 13
  have f13:∀ o:Obj,(w8.alloc o).frozen? ⟨b,13,none⟩=false:=fun o=>(HR8.out.below ((Below.refl _ _).alloc (Nat.le_refl _) _)).blk.free 13
  have h8l:b<w8.heap.size:=HR8.out.lt
  go_upto_region 24 with fail
  obtain ⟨wa,hwa⟩:∃ z,z=(w8.setCell ⟨b,13,none⟩ (.slice (some ⟨w8.heap.size,0,none⟩) 1 1)).alloc (.cells #[.int .i64 R0.n.id] 3):=⟨_,rfl⟩;have hRa:=(HN8.out wa hwa).1;have HBa:Hid _:=(HN8.out wa hwa).2;rw [<-hwa];obtain ⟨R3,hR3⟩:∃ R3:Rn,R3={ R2 with n:={ R2.n with ro:=1,gr:=[R0.n.id] } }:=⟨_,rfl⟩;obtain ⟨X3,hX3⟩:∃ X3:RV,X3={ X2 with vg:=.slice (some ⟨w8.heap.size,0,none⟩) 1 1 }:=⟨_,rfl⟩;rw [<-hR3,<-hX3] at hRa;have HRa:Hid _:=hRa;have HE3:Hid (R3.n.tm=R0.n.tm/\R3.n.log=R0.n.log/\R3.n.id=R0.n.id/\R3.n.sz=R0.n.sz):=by rw [hR3];exact HE2.out
  have HX3:Hid (X3.L.length<=900):=by rw [hX3];exact HX2.out
  have HB3:Hid (NdB R3.n):=by rw [hR3];exact ⟨HB2.out.nw0,HB2.out.nw1,HB2.out.hd0,HB2.out.hd1,HB2.out.sz0,HB2.out.sz1,HB2.out.id0,HB2.out.id1,HB2.out.ln⟩
  have HQ9:Hid (RP=Rn.allK ⟨1,0,0,R0.n.tm+1,R0.n.log.length,Yn R0.n.log,0,0,0,[]⟩ R3.n.sz.toNat R3):=by unfold Hid;rw [HE3.out.2.2.2,hR3];exact HQ8.out
  clear hwa HN8 c13 f13 c0 HR8 HW8 hRa hR3 hX3 HQ8;obtain ⟨la,lc,hvl⟩:=HRa.out.log.shape;rw [HE3.out.2.1] at hvl;have q4:∀ u:BW wa,u.w.cell? ⟨b,4,none⟩=some (.int .i64 R0.n.tm):=fun u=>by rw [<-HE3.out.1];exact (HRa.out.below u.h).blk.cell 4
  have q12:∀ u:BW wa,u.w.cell? ⟨b,12,none⟩=some (.slice la R0.n.log.length lc):=fun u=>by rw [<-hvl];exact (HRa.out.below u.h).blk.cell 12
  have HLt:Hid (∀ z,Below wa.heap.size wa z->Calls Tryz.prog 118 #[.agg (ndC R3.n X3)] z fun e w'=>e=.returned (.int .i64 (Yn R0.n.log))/\Below z.heap.size z w'):=fun z hz=>by rw [<-HE3.out.2.1];exact Z32 HRa.out HB3.out z hz
  have HAl:Hid (∀ z,Below wa.heap.size wa z->Calls Tryz.prog 117 #[.pointer (some ⟨b,0,none⟩),.agg #[.int .i64 1,.int .i64 0,.int .i64 0,.int .i64 (R0.n.tm+1),.int .i64 (R0.n.log.length:Int),.int .i64 (Yn R0.n.log),.int .i64 0,.int .i64 0,.int .i64 0,.slice none 0 0]] z fun e w'=>∃ x',e=.returned (.tuple #[])/\Zv w' B b (Rn.allK ⟨1,0,0,R0.n.tm+1,R0.n.log.length,Yn R0.n.log,0,0,0,[]⟩ R3.n.sz.toNat R3) x'/\Below B z w'/\x'.L.length<=X3.L.length+7):=fun z hz=>l4all_any b R3 X3 ⟨1,0,0,R0.n.tm+1,R0.n.log.length,Yn R0.n.log,0,0,0,[]⟩ none 0 z B (HRa.out.below hz) (Zp.nil _ _) (by have:=HX3.out;omega) (by have:=HB3.out.sz0;omega) HB3.out.sz1 HB3.out.id0
  have hBa:B<=wa.heap.size:=Nat.le_trans HRa.out.lo (Nat.le_of_lt HRa.out.lt);have hwt:IntKind.i64.wrap (R0.n.tm+1)=R0.n.tm+1:=by rw [IntKind.wrap_i64];omega
  have qn:∀ u:BW wa,Sem.run Tryz.prog (loadVar 36 ⟨b,0,none⟩) u.w=.ok (.agg (ndC R3.n X3)) u.w:=fun u=>run_load_node (HRa.out.below u.h)
  have NEa:Nonempty (BW wa):=⟨⟨wa,Below.refl _ _⟩⟩;clear hvl;refine Jw (C:=fun w'=>∃ u:BW wa,w'=u.w) _ (by kernel_rfl) rfl (by kernel_rfl) ⟨⟨_,(Below.refl _ _).drew⟩,rfl⟩ ?_;simp only [List.dropLast_cons_cons,List.dropLast_singleton]
  repeat (first | (go_big_quiet_want;refine q_load (W:=wa) 36 (.tmp 174) rfl rfl qn ?_;go_big_quiet_on;simp only [Act.put,List.setIfInBounds_toArray,List.set_cons_zero,List.set_cons_succ]) | go_big_quiet_step ((go_at_call 118;refine (HLt.out _ (BW.h _)).mono ?_;rintro e w9 ⟨rfl,hb9⟩;exact ⟨rfl,⟨⟨w9,(BW.h _).trans (hb9.mono (BW.h _).size)⟩,rfl⟩⟩)))
  refine wpQuiet_nil ?_;intro wb hwwb;have hb_wb:Below wa.heap.size wa wb:=(by obtain ⟨u,rfl⟩:=hwwb;exact u.h);clear hwwb;refine Yi (N:=117) rfl (fun _ _=>by go_simp) #[.pointer (some ⟨b,0,none⟩),.agg #[.int .i64 1,.int .i64 0,.int .i64 0,.int .i64 (R0.n.tm+1),.int .i64 (R0.n.log.length:Int),.int .i64 (Yn R0.n.log),.int .i64 0,.int .i64 0,.int .i64 0,.slice none 0 0]] (by simp only [List.map_toArray,List.map_cons,List.map_nil];rfl) ?_;refine (HAl.out wb hb_wb).mono ?_;rintro e w9 ⟨x9,rfl,hR9,hb9,-⟩;refine ⟨_,rfl,?_⟩;have HR9:Hid _:=hR9;have HB9:Hid (Below B w w9):=(HBa.out.trans (hb_wb.mono hBa)).trans hb9;clear hR9 hb9
  go_wp2_with fail
  (try simp only [Exit.inBlock,Exit.then])
  exact bodyPost_end (results_none rfl _ _ _) rfl ⟨_,rfl,by rw [HQ9.out];exact HR9.out,HB9.out⟩
end Go.Proofs.YtmmpoppgabadmaaGreat
