import Derived.Test.YtmmpoppgabadmaaGreatG02
import Derived.Deep.DeepCutAuto
set_option linter.unusedVariables false
set_option linter.unusedSimpArgs false
set_option maxRecDepth 100000
set_option maxHeartbeats 16000000
namespace Go.Proofs.YtmmpoppgabadmaaGreat
open Go.RowKit
theorem es_cells {w:World}{a:Option Addr}{n c:Nat}{l:List Ent}(h:Es w (.slice a n c) l)(i:Nat)(hi:i<l.length):∃ b off,a=some ⟨b,off,none⟩/\Jc w b (off+i*7) l[i]:=by
 obtain ⟨-,-,a',c',e,hc⟩:=h;simp only [Value.slice.injEq] at e;obtain ⟨rfl,-,rfl⟩:=e;obtain ⟨b,off,rfl,hj⟩:=hc i hi;exact ⟨b,off,rfl,hj i hi⟩
theorem Z20 (b:Nat)(r:Rn)(x:RV)(J P:Nat)(w:World)(B:Nat)(h:Zv w B b r x)(hb:NdB r.n)(hl:x.L.length<=1000)(hJ:J<r.n.nx.length)(hJs:J<r.n.st.length)(hJ7:J<=7)(hP:r.n.nx[J]=(P:Int)+1)(hPl:P<=r.n.log.length) :
  Calls Tryz.prog 116 #[.pointer (some ⟨b,0,none⟩),.int .i64 ((J:Int)+1)] w fun e w'=>∃ v y,e=.returned (.tuple #[])/\Zv w' B b (r.sendE J) (x.sent v y)/\Below B w w':=by
 have HR:Hid _:=h;have hBw:B<=w.heap.size:=Nat.le_trans h.lo (Nat.le_of_lt h.lt);have hbl:=h.lt;have hln:=hb.ln;obtain ⟨la,lc,hvl⟩:=h.log.shape;obtain ⟨ng,nc,hvn⟩:=h.nx.shape' (by omega);obtain ⟨sg,sc,hvt⟩:=h.st.shape' (by omega);have HEs:Hid (∀ z,Below w.heap.size w z->Es z (.slice la r.n.log.length lc) r.n.log):=fun z hz=>by rw [<-hvl];exact (h.below hz).es (by omega)
 have HC:Hid (∀ z,Below w.heap.size w z->z.cell? ⟨b,4,none⟩=some (.int .i64 r.n.tm)/\z.cell? ⟨b,8,none⟩=some (.int .i64 r.n.cm)/\z.cell? ⟨b,12,none⟩=some (.slice la r.n.log.length lc)/\z.cell? ⟨b,14,none⟩=some (.slice (some ⟨ng,0,none⟩) r.n.nx.length nc)/\z.cell? ⟨ng,J,none⟩=some (.int .i64 ((P:Int)+1))):=fun z hz=>by
  have hz':=h.below hz;refine ⟨hz'.blk.cell 4,hz'.blk.cell 8,by rw [<-hvl];exact hz'.blk.cell 12,by rw [<-hvn];exact hz'.blk.cell 14,?_⟩;have h9:=World.ownsRow.cellAt (by rw [<-hvn];exact hz'.nx:Zg inC 1 3 z B (.slice (some ⟨ng,0,none⟩) r.n.nx.length nc) r.n.nx) J (by omega);rw [h9,gC_in,List.getElem?_map,List.getElem?_eq_getElem hJ,hP];rfl
 have HFt:Hid (∀ e∈r.n.log,e.fits):=h.log.1;obtain ⟨LT,hLT⟩:∃ t,t=Xy r.n.log P:=⟨_,rfl⟩;have HLT:Hid (LT=Xy r.n.log P):=hLT;have HVt:Hid (x.vt=.slice (some ⟨sg,0,none⟩) r.n.st.length sc):=hvt;have hgd:r.n.nx.getD J 0=(P:Int)+1:=by rw [List.getD_eq_getElem?_getD,List.getElem?_eq_getElem hJ];exact hP
 have HEM:Hid (Jp r.n J=⟨5,0,(J:Int)+1,r.n.tm,(P:Int),LT,r.n.cm,0,0,(r.n.log.drop P).take 32⟩):=by
  unfold Hid Jp;rw [hgd,show ((P:Int)+1-1).toNat=P by omega,hLT,show (P:Int)+1-1=(P:Int) by omega]
 have hP9:P<=4096:=by omega
 have hjw:IntKind.i64.wrap ((J:Int)+1-1)=(J:Int):=by simp [IntKind.wrap,IntKind.bits,IntKind.signed];omega
 have hpw:IntKind.i64.wrap ((P:Int)+1-1)=(P:Int):=by simp [IntKind.wrap,IntKind.bits,IntKind.signed];omega
 have hJn:(J:Int)<(r.n.nx.length:Int):=by omega
 have HJs:Hid (J<r.n.st.length):=hJs;have HJn:Hid (J<r.n.nx.length):=hJ;clear hvl hvn hvt hLT hgd hP hJ hJs;obtain ⟨c4,c8,c12,c14,cJ⟩:=HC.out w (Below.refl _ _);clear h;go_enter Tryz.func116,Tryz.ntmps116
 go_upto_region 1 with fail
 go_cut [5] (fun s wx=>s=.pointer (some ⟨w.heap.size,0,none⟩)/\Blk wx w.heap.size #[.int .i64 5,.int .i64 0,.int .i64 ((J:Int)+1),.int .i64 r.n.tm,.int .i64 (P:Int),.int .i64 0,.int .i64 r.n.cm,.int .i64 0,.int .i64 0,.slice none 0 0] 43/\Below w.heap.size w wx)
 case first=>
  go_region_held3 (fun w'=>w'.cell? ⟨b,4,none⟩=some (.int .i64 r.n.tm)/\w'.cell? ⟨b,8,none⟩=some (.int .i64 r.n.cm)) (simp [*,go_sem]) (fail)
  all_goals go_wp2_with fail
  all_goals go_meet
  all_goals exact ⟨rfl,by first | exact Blk.new _ _ _ | exact (Blk.new _ _ _).drew,by first | exact (Below.refl _ _).alloc (Nat.le_refl _) _ | exact ((Below.refl _ _).alloc (Nat.le_refl _) _).drew | exact (Below.refl _ _).drew.alloc (Nat.le_refl _) _⟩
 case rest=>
  obtain ⟨rfl,hM1,hB1⟩:=hcut;obtain ⟨w1,hw1⟩:∃ z,z=wc:=⟨_,rfl⟩;rw [<-hw1] at hM1 hB1;subst hw1;have HM1:Hid (Blk w1 w.heap.size _ 43):=hM1;have HB1:Hid _:=hB1;clear c4 c8 c12 c14 cJ hjw hJn
  go_upto_if 31 with fail
  go_cut [31] (fun _ wx=>Blk wx w.heap.size #[.int .i64 5,.int .i64 0,.int .i64 ((J:Int)+1),.int .i64 r.n.tm,.int .i64 (P:Int),.int .i64 LT,.int .i64 r.n.cm,.int .i64 0,.int .i64 0,.slice none 0 0] 43/\Below w.heap.size w wx)
  case first=>
   by_cases h0:P=0
   ·subst h0
    have hlt:LT=0:=HLT.out;subst hlt
    go_wp2_with fail
    go_meet;exact ⟨HM1.out,HB1.out⟩
   ·obtain ⟨-,-,c12,-,-⟩:=HC.out w1 HB1.out
    obtain ⟨lg,lo,rfl,hlc⟩:=es_cells (HEs.out w1 HB1.out) (P-1) (by omega);have hl0:=hlc.1
    have hLT2:(r.n.log[P-1]'(by omega)).t=LT:=by
     rw [HLT.out];unfold Xy;rw [if_neg h0,List.getElem?_eq_getElem (by omega)];rfl
    rw [hLT2] at hl0;obtain ⟨Q,rfl⟩:∃ Q,P=Q+1:=⟨P-1,by omega⟩;rw [show Q+1-1=Q by omega] at hl0;have hqw:IntKind.i64.wrap ((Q:Int)+1-1)=(Q:Int):=by simp [IntKind.wrap,IntKind.bits,IntKind.signed];omega
    have hQl:(Q:Int)<(r.n.log.length:Int):=by omega
    have hQ0:(0:Int)<(Q:Int)+1:=by omega
    have q5:w1.cell? ⟨w.heap.size,5,none⟩=some (.int .i64 0):=HM1.out.cell 5;have f5:w1.frozen? ⟨w.heap.size,5,none⟩=false:=HM1.out.free 5;clear hlc hLT2 h0
    go_wp2_with fail
    go_meet;exact ⟨HM1.out.set 5 _,HB1.out.setCell (p:=⟨w.heap.size,5,none⟩) (Nat.le_refl _) _⟩
  case rest=>
   obtain ⟨hM2,hB2⟩:=hcut;obtain ⟨w2,hw2⟩:∃ z,z=wc:=⟨_,rfl⟩;rw [<-hw2] at hM2 hB2;subst hw2;have HM2:Hid (Blk w2 w.heap.size _ 43):=hM2;have HB2:Hid _:=hB2;obtain ⟨K,hK⟩:∃ K,K=min r.n.log.length (P+32):=⟨_,rfl⟩;have hKl:K<=r.n.log.length:=by omega
   have hK32:K<=P+32:=by omega
   have hKP:P<=K:=by omega
   have HKd:Hid (K=r.n.log.length∨K=P+32):=by unfold Hid;omega
   clear hM2 hB2 hK HM1 HB1 HLT hpw;go_wp2
   go_loopw [6] (fun iv wr=>∃(k:Nat) (va:Option Addr) (vc:Nat),P<=k/\k<=K/\iv=.int .i64 k/\Blk wr w.heap.size #[.int .i64 5,.int .i64 0,.int .i64 ((J:Int)+1),.int .i64 r.n.tm,.int .i64 (P:Int),.int .i64 LT,.int .i64 r.n.cm,.int .i64 0,.int .i64 0,.slice va (k-P) vc] 43/\Zp wr w.heap.size (.slice va (k-P) vc) ((r.n.log.drop P).take (k-P))/\Below w.heap.size w wr) (fun iv _=>K-(intOf iv).toNat)
   case atStart=>exact ⟨P,none,0,Nat.le_refl _,hKP,rfl,by rw [Nat.sub_self];exact HM2.out,by rw [Nat.sub_self];exact Zp.nil _ _,HB2.out⟩
   case round=>
    obtain ⟨k,va,vc,hPk,hkK,rfl,hMk,hOk,hBk⟩:=hrel;have HMk:Hid (Blk wr w.heap.size _ 43):=hMk;have HOk:Hid (Zp wr w.heap.size (.slice va (k-P) vc) ((r.n.log.drop P).take (k-P))):=hOk;have HBk:Hid _:=hBk;have hzk:=hBk.size;have hqk:w.heap.size<wr.heap.size:=hMk.lt;clear hMk hOk hBk HM2 HB2;obtain ⟨c4,c8,c12,c14,cJ⟩:=HC.out wr HBk.out;have hTl:((r.n.log.drop P).take (k-P)).length=k-P:=by rw [List.length_take,List.length_drop];omega
    have HTl:Hid (((r.n.log.drop P).take (k-P)).length=k-P):=hTl;clear hTl;by_cases hlt:k<K
    ·have hk1:(k:Int)<(r.n.log.length:Int):=by omega
     have hk2:(k:Int)<(P:Int)+32:=by omega
     obtain ⟨lg,lo,rfl,e0,e1,e2,e3,e4,e5,e6⟩:=es_cells (HEs.out wr HBk.out) k (by omega);have hfe:(r.n.log[k]'(by omega)).fits:=HFt.out _ (List.getElem_mem _)
     have HNx:Hid ((r.n.log.drop P).take (k+1-P)=(r.n.log.drop P).take (k-P) ++ [r.n.log[k]'(by omega)]):=by
      unfold Hid;rw [show k+1-P=k-P+1 by omega,List.take_succ_eq_append_getElem (by rw [List.length_drop];omega)];congr 2;rw [List.getElem_drop];congr 1;omega
     have HFe:Hid ((r.n.log[k]'(by omega)).fits):=hfe;generalize (r.n.log[k]'(by omega))=e at *;have q9:wr.cell? ⟨w.heap.size,9,none⟩=some (.slice va (k-P) vc):=HMk.out.cell 9;have pa:∀(o:Obj) (j:Nat),(wr.alloc o).cell? ⟨w.heap.size,j,none⟩=wr.cell? ⟨w.heap.size,j,none⟩:=fun o j=>World.cell?_alloc_lt _ _ _ hqk
     have pa':∀(o:Obj) (j:Nat),(wr.drew.alloc o).cell? ⟨w.heap.size,j,none⟩=wr.cell? ⟨w.heap.size,j,none⟩:=fun o j=>World.cell?_alloc_lt _ _ _ hqk
     have hne1:¬ wr.heap.size=w.heap.size:=by omega
     have hne2:¬ w.heap.size=wr.heap.size:=by omega
     have HNO:Hid ((Value.slice va (k-P) vc).ownBlock≠some w.heap.size):=fun e=>Ym HOk.out HMk.out (by decide) _ e rfl
     generalize hTK:(r.n.log.drop P).take (k-P)=TK at *;generalize hkp:k-P=kp at *;clear hfe hTK c4 c8 c14 cJ;go_wp2
     go_region_law
      (refine Z0u entLaw rfl (.tmp 61) (.tmp 70) rfl e (Zg.below (Zg.below HOk.out.g ((Below.refl _ _).drew)) ((Below.refl _ _).alloc (Nat.le_refl _) _)) rfl wr.heap.size 1 (Z1e wr.drew e.cells 118) rfl (by have:=HTl.out;omega) (by simp;omega) ?_;intro v3 w3 ho3 hg3;have HO3:Hid (Zg Ent.cells 7 118 w3 w.heap.size v3 (TK ++ [e])):=ho3;obtain ⟨a3,c3,e3'⟩:=ho3.shape;rw [List.length_append,List.length_singleton,HTl.out] at e3';have HG3:Hid (Xa _ (.slice va kp vc) w3 v3):=hg3;have BQ3:Hid (Blk w3 w.heap.size #[.int .i64 5,.int .i64 0,.int .i64 ((J:Int)+1),.int .i64 r.n.tm,.int .i64 (P:Int),.int .i64 LT,.int .i64 r.n.cm,.int .i64 0,.int .i64 0,.slice va kp vc] 43):=(HMk.out.drew.alloc _).keep (hg3.g.block _ (by simp;omega) (fun e=>HNO.out e.symm));have p9:w3.cell? ⟨w.heap.size,9,none⟩=some (.slice va kp vc):=BQ3.out.cell 9;have pf:=BQ3.out.free;subst e3';clear ho3 hg3)
     all_goals go_wp2
     all_goals (
      go_roundw
      case rel=>
       refine ⟨k+1,a3,c3,by omega,by omega,by go_num,?_,?_,?_⟩
       ·rw [show k+1-P=kp+1 by omega]
        exact BQ3.out.set 9 _
       ·rw [HNx.out,show k+1-P=kp+1 by omega]
        refine Zg.e (HO3.out.block fun j hj=>Below.heap_setCell _ _ _ _ (Zu HO3.out BQ3.out (by decide) j hj)) ?_;intro y hy;rcases List.mem_append.1 hy with hy | hy
        ·exact HOk.out.1 y hy
        ·rw [List.mem_singleton] at hy
         subst hy;exact HFe.out
       ·exact ((HBk.out.trans ((Below.refl _ _).drew.alloc (by exact hzk) _)).trans (growG HG3.out (Zg.below (Zg.below HOk.out.g ((Below.refl _ _).drew)) ((Below.refl _ _).alloc (Nat.le_refl _) _)) (by simp;omega))).setCell (p:=⟨w.heap.size,9,none⟩) (Nat.le_refl _) _
      case measure=>simp [intOf];omega)
    ·obtain rfl:k=K:=by omega
     have HKc:Hid ((¬(k:Int)<(r.n.log.length:Int))∨((k:Int)<(r.n.log.length:Int)/\¬(k:Int)<(P:Int)+32)):=by unfold Hid;have:=HKd.out;omega
     have HSd:=Z33 b r x ⟨5,0,(J:Int)+1,r.n.tm,(P:Int),LT,r.n.cm,0,0,(r.n.log.drop P).take (k-P)⟩ va vc wr B (HR.out.below HBk.out) (by show Zp wr B (.slice va ((r.n.log.drop P).take (k-P)).length vc) _;rw [HTl.out];exact HOk.out.le hBw) (by omega)
     have hEM:(⟨5,0,(J:Int)+1,r.n.tm,(P:Int),LT,r.n.cm,0,0,(r.n.log.drop P).take (k-P)⟩:Mg)=Jp r.n J:=by
      rw [HEM.out];congr 1;rcases HKd.out with e | e
      ·rw [List.take_of_length_le (by rw [List.length_drop];omega),List.take_of_length_le (by rw [List.length_drop];omega)]
      ·rw [show k-P=32 by omega]
     rw [show ((⟨5,0,(J:Int)+1,r.n.tm,(P:Int),LT,r.n.cm,0,0,(r.n.log.drop P).take (k-P)⟩:Mg).es.length)=k-P from HTl.out] at HSd;rw [hEM] at HSd
     have HSd2:Hid (Calls Tryz.prog 146 #[.pointer (some ⟨b,0,none⟩),.agg #[.int .i64 5,.int .i64 0,.int .i64 ((J:Int)+1),.int .i64 r.n.tm,.int .i64 (P:Int),.int .i64 LT,.int .i64 r.n.cm,.int .i64 0,.int .i64 0,.slice va (k-P) vc]] wr fun e w'=>∃ v y,e=.returned (.tuple #[])/\Zv w' B b (r.send (Jp r.n J)) (x.sent v y)/\Below B wr w'/\Gr2 wr b x.vo w' v):=by
      have h9:=HSd;rw [<-hEM] at h9;rw [<-hEM];exact h9
     have HSt:Hid (∀ z v y,Zv z B b (r.send (Jp r.n J)) (x.sent v y)->z.cell? ⟨b,9,none⟩=some (.int .i64 r.n.nw)/\z.cell? ⟨b,17,none⟩=some (.slice (some ⟨sg,0,none⟩) r.n.st.length sc)/\(∃ u,z.cell? ⟨sg,J,none⟩=some u)/\z.frozen? ⟨sg,J,none⟩=false/\Zv (z.setCell ⟨sg,J,none⟩ (.int .i64 r.n.nw)) B b (r.sendE J) (x.sent v y)/\Below B z (z.setCell ⟨sg,J,none⟩ (.int .i64 r.n.nw))):=fun z v y hz=>by
      have hst:Zg inC 1 3 z B (.slice (some ⟨sg,0,none⟩) r.n.st.length sc) r.n.st:=by rw [<-HVt.out];exact hz.st
      have hth:=hst.there Z0b J (by have:=HJs.out;omega);rw [Nat.zero_add] at hth;have h5:=hz.stAt (show (x.sent v y).vt=_ from HVt.out) J HJs.out r.n.nw;exact ⟨hz.blk.cell 9,by rw [<-HVt.out];exact hz.blk.cell 17,Option.isSome_iff_exists.1 hth.1,hth.2,h5.1,h5.2⟩
     clear HSd hEM HKd HEs HC HFt;have G1:Hid True:=trivial;have hJn:(J:Int)<(r.n.st.length:Int):=by have:=HJs.out;omega
     have hjw:IntKind.i64.wrap ((J:Int)+1-1)=(J:Int):=by simp [IntKind.wrap,IntKind.bits,IntKind.signed];omega
     rcases HKc.out with hk1 | ⟨hk1,hk2⟩
     ·go_upto_region 9 with (first
       |(have hBA:=G1;refine Zx 43 (.tmp 5) rfl ?_;clear hBA;refine Zk rfl 43 (.tmp 5) rfl w.heap.size rfl HMk.out Tryz.underlying43 rfl sizeMg rfl ?_;clear G1)
       |(go_at_call 146;refine HSd2.out.mono ?_;rintro e w5 ⟨v5,y5,rfl,hR5,hb5,hg5⟩;obtain ⟨d9,d17,⟨du,dJ⟩,fJ,hR6,hb6⟩:=HSt.out w5 v5 y5 hR5;have HF:Hid (Zv (w5.setCell ⟨sg,J,none⟩ (.int .i64 r.n.nw)) B b (r.sendE J) (x.sent v5 y5)/\Below B w (w5.setCell ⟨sg,J,none⟩ (.int .i64 r.n.nw))):=⟨hR6,((HBk.out.mono hBw).trans hb5).trans hb6⟩;clear hR5 hb5 hg5 hR6 hb6))
      have hJn2:(J:Int)<(r.n.st.length:Int):=by have:=HJs.out;omega
      have hJ00:(0:Int)<=(J:Int):=by omega
      have hjw2:IntKind.i64.wrap ((J:Int)+1-1)=(J:Int):=by simp [IntKind.wrap,IntKind.bits,IntKind.signed];omega
      have hjw3:IntKind.i64.wrap (J:Int)=(J:Int):=by simp [IntKind.wrap,IntKind.bits,IntKind.signed];omega
      go_region
      all_goals go_wp2
      all_goals exact bodyPost_end (results_none rfl _ _ _) rfl ⟨_,_,rfl,HF.out.1.drew,HF.out.2.drew⟩
     ·go_upto_region 9 with (first
       |(have hBA:=G1;refine Zx 43 (.tmp 5) rfl ?_;clear hBA;refine Zk rfl 43 (.tmp 5) rfl w.heap.size rfl HMk.out Tryz.underlying43 rfl sizeMg rfl ?_;clear G1)
       |(go_at_call 146;refine HSd2.out.mono ?_;rintro e w5 ⟨v5,y5,rfl,hR5,hb5,hg5⟩;obtain ⟨d9,d17,⟨du,dJ⟩,fJ,hR6,hb6⟩:=HSt.out w5 v5 y5 hR5;have HF:Hid (Zv (w5.setCell ⟨sg,J,none⟩ (.int .i64 r.n.nw)) B b (r.sendE J) (x.sent v5 y5)/\Below B w (w5.setCell ⟨sg,J,none⟩ (.int .i64 r.n.nw))):=⟨hR6,((HBk.out.mono hBw).trans hb5).trans hb6⟩;clear hR5 hb5 hg5 hR6 hb6))
      have hJn2:(J:Int)<(r.n.st.length:Int):=by have:=HJs.out;omega
      have hJ00:(0:Int)<=(J:Int):=by omega
      have hjw2:IntKind.i64.wrap ((J:Int)+1-1)=(J:Int):=by simp [IntKind.wrap,IntKind.bits,IntKind.signed];omega
      have hjw3:IntKind.i64.wrap (J:Int)=(J:Int):=by simp [IntKind.wrap,IntKind.bits,IntKind.signed];omega
      go_region
      all_goals go_wp2
      all_goals exact bodyPost_end (results_none rfl _ _ _) rfl ⟨_,_,rfl,HF.out.1.drew,HF.out.2.drew⟩
end Go.Proofs.YtmmpoppgabadmaaGreat
