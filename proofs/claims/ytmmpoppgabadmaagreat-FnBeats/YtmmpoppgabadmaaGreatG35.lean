import Derived.Test.YtmmpoppgabadmaaGreatG34
import Derived.Test.YtmmpoppgabadmaaGreatG08
import Derived.Deep.DeepCutAuto
set_option linter.unusedVariables false
set_option linter.unusedSimpArgs false
set_option maxRecDepth 100000
set_option maxHeartbeats 16000000
namespace Go.Proofs.YtmmpoppgabadmaaGreat
open Go.RowKit
theorem zeroPt (w:World):(zeroValue 126).run Tryz.prog w=.ok (.pointer none) w:=by kernel_rfl
theorem Zp.capI {w:World}{B:Nat}{a:Option Addr}{n c:Nat}{l:List Ent}(h:Zp w B (.slice a n c) l):n<=c:=by
 rcases h.2.2 with ⟨e,h0⟩ | ⟨g,cap,cur,e,_,_,h1,_⟩
 ·injection e with _ e2 e3;omega
 ·injection e with _ e2 e3;omega
theorem Es.takeI {w:World}{a:Option Addr}{n c:Nat}{l:List Ent}(h:Es w (.slice a n c) l)(k:Nat)(hk:k<=l.length):Es w (.slice a k c) (l.take k):=by
 obtain ⟨hl,hf,a',c',e,hc⟩:=h;simp only [Value.slice.injEq] at e;obtain ⟨rfl,-,rfl⟩:=e;have hlen:(l.take k).length=k:=by rw [List.length_take];omega
 refine ⟨by omega,fun e he=>hf e (List.mem_of_mem_take he),a,c,by rw [hlen],fun i hi=>?_⟩;obtain ⟨b,off,rfl,hj⟩:=hc i (by omega);refine ⟨b,off,rfl,fun j h=>?_⟩;rw [List.getElem_take];exact hj j (by omega)
theorem Es.part {w:World}{g n c:Nat}{l:List Ent}(h:Es w (.slice (some ⟨g,0,none⟩) n c) l)(p k:Nat)(hk:p+k<=l.length)(a':Option Addr)(c':Nat)(ha:0<k->a'=some ⟨g,p*7,none⟩):Es w (.slice a' k c') ((l.drop p).take k):=by
 obtain ⟨hl,hf,a1,c1,e,hc⟩:=h;simp only [Value.slice.injEq] at e;obtain ⟨rfl,-,rfl⟩:=e;have hlen:((l.drop p).take k).length=k:=by rw [List.length_take,List.length_drop];omega
 refine ⟨by omega,fun e he=>hf e (List.mem_of_mem_drop (List.mem_of_mem_take he)),a',c',by rw [hlen],fun i hi=>?_⟩;obtain ⟨b,off,e,hj⟩:=hc p (by omega);simp only [Option.some.injEq,Addr.mk.injEq,and_true] at e;obtain ⟨rfl,rfl⟩:=e;refine ⟨g,p*7,ha (by omega),fun j h=>?_⟩;have:=hj (p+j) (by omega);rw [List.getElem_take,List.getElem_drop];rw [show p*7+j*7=0+(p+j)*7 by omega];exact this
theorem Z3i (u:World)(la:Option Addr)(LN lc P K:Nat)(hi:Int)(e:hi=(P:Int)+(K:Int))(h:P+K<=lc) :
  (Instr.slice 34 (.slice la LN lc) (some (.int .i64 (P:Int))) (some (.int .i64 hi)) none).run Tryz.prog u=.ok (.slice (if lc=P then la else la.map (·.add (P*7))) K (lc-P)) u:=by
 have h7:(sizeOf 118).run Tryz.prog u=.ok 7 u:=by kernel_rfl
 have hel:Tryz.prog.elem 34=118:=by kernel_rfl
 rw [run_slice_lh u 34 la LN lc (by rw [hel];exact Tryz.underlying34) .i64 .i64 (P:Int) hi (by omega) (by omega) (by omega)];rw [hel,h7];simp only [Result.andThen,sliced];rw [show hi.toNat=P+K by omega,show ((P:Int)).toNat=P by omega,show P+K-P=K by omega]
theorem Z2v (b:Nat)(r:Rn)(x:CV)(y:Int)(P:Nat)(w:World)(B:Nat)(h:Zj w B b r x)(hro:r.n.ro=3)(hy0:1<=y)(hy1:y<=r.n.sz)(hyi:y≠r.n.id)(hP:r.n.nx.getD (y-1).toNat 0=(P:Int)+1)(hPl:P<=r.n.log.length)(hll:r.n.log.length<=4096)(hl:x.L.length<=90000) :
  Calls Tryz.prog 157 #[.pointer (some ⟨b,0,none⟩),.int .i64 y] w fun e w'=>e=.returned (.tuple #[])/\∃ v m',Zj w' B b (r.sendE (y-1).toNat) (x.sent v m')/\Tch b w x w' (x.sent v m'):=by
 have HR:Hid _:=h;have z1:=h.ci.sz1;obtain ⟨q,hq⟩:=Option.isSome_iff_exists.1 ((h.pk y).2 ⟨hro,hy0,hy1,hyi⟩);have HQ:Hid (x.f y=some q):=hq;have HPM:Hid (IM ptV w x.pm x.f):=h.pm;have hbq:=(h.pf y q hq).1;obtain ⟨la,lc,hvl⟩:=h.log.shape;have HVl:Hid (x.vl=.slice la r.n.log.length lc):=hvl;have hcap:r.n.log.length<=lc:=by have h9:=h.log;rw [hvl] at h9;exact h9.capI
 have hmaxc:lc<=9223372036854775807:=by
  have h9:=h.log;rw [hvl] at h9;rcases h9.2.2 with ⟨e,h0⟩ | ⟨g,cap,cur,e,_,_,h1,h2,_⟩
  ·injection e with _ e2 e3;omega
  ·injection e with _ e2 e3;unfold maxLen at h2;omega
 have HEs:Hid (∀ z,Below w.heap.size w z->Es z (.slice la r.n.log.length lc) r.n.log):=fun z hz=>by rw [<-hvl];exact (h.below hz).es hll
 have HC:Hid (∀ z,Below w.heap.size w z->z.cell? ⟨b,12,none⟩=some (.slice la r.n.log.length lc)/\z.cell? ⟨b,4,none⟩=some (.int .i64 r.n.tm)/\z.cell? ⟨b,8,none⟩=some (.int .i64 r.n.cm)):=fun z hz=>⟨by rw [<-hvl];exact (h.below hz).blk.cell 12,(h.below hz).blk.cell 4,(h.below hz).blk.cell 8⟩
 have hlt:=h.lt
 have hla:P<r.n.log.length->∃ g,la=some ⟨g,0,none⟩:=fun hp=>by
  obtain ⟨g,cap,e⟩:=h.log.shape' (by omega);rw [hvl] at e;injection e with e1;exact ⟨g,e1⟩
 have HLa:Hid (P<r.n.log.length->∃ g,la=some ⟨g,0,none⟩):=hla;have d19:w.cell? ⟨b,19,none⟩=some (.map (some x.pm)):=h.blk.cell 19;have dq:w.cell? ⟨q,0,none⟩=some (.int .i64 ((P:Int)+1)):=by rw [<-hP];exact hbq.cell 0
 have hv:(x.f y).elim (Value.pointer none) ptV=.pointer (some ⟨q,0,none⟩):=by rw [hq];rfl
 have hw3:=wf3 (x:=y) (by omega) (by omega);obtain ⟨c12,c4,c8⟩:=HC.out w (Below.refl _ _)
 have HT:Hid (∀ z,Below w.heap.size w z->Calls Tryz.prog 180 #[.slice la P lc] z fun e w'=>e=.returned (.int .i64 (Xy r.n.log P))/\w'=z):=fun z hz=>by
  rw [<-termAt_take _ _ hPl];exact Z1a _ _ _ ((HEs.out z hz).takeI P hPl)
 have hEM:Jp r.n (y-1).toNat=⟨5,0,y,r.n.tm,(P:Int),Xy r.n.log P,r.n.cm,0,0,(r.n.log.drop P).take 32⟩:=by
  unfold Jp;rw [hP];simp only [Mg.mk.injEq,true_and,and_true];refine ⟨by omega,by omega,?_,?_⟩
  ·rw [show ((P:Int)+1-1).toNat=P by omega]
  ·rw [show ((P:Int)+1-1).toNat=P by omega]
 have HEM:Hid _:=hEM;obtain ⟨K,hK⟩:∃ K:Nat,K=min 32 (r.n.log.length-P):=⟨_,rfl⟩;have HK:Hid (K=min 32 (r.n.log.length-P)):=hK;have hmin:min ((P:Int)+32) (r.n.log.length:Int)=(P:Int)+(K:Int):=by omega
 have hKl:P+K<=r.n.log.length:=by omega
 have HKt:Hid ((r.n.log.drop P).take 32=(r.n.log.drop P).take K):=by
  unfold Hid;by_cases h9:K=32
  ·rw [h9]
  ·rw [List.take_of_length_le (by rw [List.length_drop];omega),List.take_of_length_le (by rw [List.length_drop];omega)]
 have hf:=h.bf;have HLt:Hid (Xy r.n.log P=Xy r.n.log P):=rfl;clear h hvl hbq hP hEM hK hq hla;generalize hLT:Xy r.n.log P=LT at *;generalize hLL:r.n.log.length=LN at *;go_enter Tryz.func157,Tryz.ntmps157
 go_upto_region 2 with (at_lookup;refine wpl_imlook _ rfl _ _ 78 rfl 126 Tryz.underlying78 (zeroPt _) x.pm rfl HPM.out y hw3 rfl _ hv ?_)
 have hPc:(P:Int)<=(lc:Int):=by omega
 have hP0:(0:Int)<=(P:Int):=by omega
 have hPi:((P:Int)).toNat=P:=by omega
 go_cut [6] (fun s6 W=>s6=.pointer (some ⟨w.heap.size,0,none⟩)/\Blk W w.heap.size #[.int .i64 5,.int .i64 0,.int .i64 0,.int .i64 r.n.tm,.int .i64 (P:Int),.int .i64 LT,.int .i64 r.n.cm,.int .i64 0,.int .i64 0,.slice none 0 0] 43/\Below w.heap.size w W)
 case first=>
  go_region_held3 (fun w'=>w'.cell? ⟨b,12,none⟩=some (.slice la LN lc)/\w'.cell? ⟨b,4,none⟩=some (.int .i64 r.n.tm)/\w'.cell? ⟨b,8,none⟩=some (.int .i64 r.n.cm)) (simp [*,go_sem])
   (first
    |(go_at_call 180;refine Calls.mono (HT.out _ (by first | exact Below.refl _ _ | exact (Below.refl _ _).drew | exact (Below.alloc0 _).drew | exact Below.alloc0 _ | exact ((Below.refl _ _).drew).alloc (Nat.le_refl _) _)) ?_;rintro e w1 ⟨rfl,hw⟩;have hw2:=hw.symm;subst hw2))
  all_goals (
   go_wp2_with fail
   go_meet
   first
    | exact ⟨rfl,(Blk.new _ _ _).drew,(Below.alloc0 _).drew⟩
    | exact ⟨rfl,Blk.new _ _ _,((Below.refl _ _).drew).alloc (Nat.le_refl _) _⟩)
 case rest=>
  obtain ⟨rfl,hM,hBd⟩:=hcut;obtain ⟨W,hW⟩:∃ z,z=wc:=⟨_,rfl⟩;rw [<-hW] at hM hBd;subst hW;have HM:Hid (Blk W w.heap.size _ 43):=hM;have HBd:Hid _:=hBd;have hzW:w.heap.size<W.heap.size:=hM.lt;obtain ⟨p12,p4,p8⟩:=HC.out W hBd;have q9:W.cell? ⟨w.heap.size,9,none⟩=some (.slice none 0 0):=hM.cell 9;have f9:W.frozen? ⟨w.heap.size,9,none⟩=false:=hM.free 9;clear hM hBd c12 c4 c8 dq d19;have hk1:(P:Int)<=(P:Int)+(K:Int):=by omega
  have hk2:(P:Int)+(K:Int)<=(lc:Int):=by omega
  go_upto_region 3 with fail
  go_cut [] (fun U=>∃ ea ec,Blk U w.heap.size #[.int .i64 5,.int .i64 0,.int .i64 0,.int .i64 r.n.tm,.int .i64 (P:Int),.int .i64 LT,.int .i64 r.n.cm,.int .i64 0,.int .i64 0,.slice ea K ec] 43/\Zp U W.heap.size (.slice ea K ec) ((r.n.log.drop P).take K)/\Below w.heap.size w U)
  case first=>
   obtain ⟨SA,hSA⟩:∃ SA,SA=(if lc=P then la else la.map (·.add (P*7))):=⟨_,rfl⟩
   have HSA:Hid (0<K->∃ g,la=some ⟨g,0,none⟩/\SA=some ⟨g,P*7,none⟩):=fun hk=>by
    obtain ⟨g,hg⟩:=HLa.out (by omega);refine ⟨g,hg,?_⟩;rw [hSA,if_neg (by omega),hg];simp [Ju]
   have HCl:Hid (∀ z,Below w.heap.size w z->Calls Tryz.prog 80 #[.slice SA K (lc-P)] z fun e w'=>∃ v',e=.returned v'/\Zp w' z.heap.size v' ((r.n.log.drop P).take K)/\Below z.heap.size z w'):=fun z hz=>by
    have hes:=HEs.out z hz;refine Z3j _ _ z ?_ (by rw [List.length_take];omega);rcases Nat.eq_zero_or_pos K with h0 | h0
    ·subst h0
     refine ⟨by simp,by simp,SA,lc-P,by simp,fun i hi=>by simp at hi⟩
    ·obtain ⟨g,h1,h2⟩:=HSA.out h0
     rw [h1] at hes;exact hes.part P K (by omega) _ _ (fun _=>h2)
   have hsl1:LN=P+K->∀ u,(Instr.slice 34 (.slice la LN lc) (some (.int .i64 (P:Int))) (some (.int .i64 (LN:Int))) none).run Tryz.prog u=.ok (.slice SA K (lc-P)) u:=fun e u=>by rw [hSA];exact Z3i u la LN lc P K _ (by omega) (by omega)
   have hsl2:K=32->∀ u,(Instr.slice 34 (.slice la LN lc) (some (.int .i64 (P:Int))) (some (.int .i64 ((P:Int)+32))) none).run Tryz.prog u=.ok (.slice SA K (lc-P)) u:=fun e u=>by rw [hSA];exact Z3i u la LN lc P K _ (by omega) (by omega)
   have HkA:Hid ((LN:Int)<(P:Int)+32->LN=P+K):=fun h=>by have:=HK.out;omega
   have HkB:Hid (¬(LN:Int)<(P:Int)+32->K=32):=fun h=>by have:=HK.out;omega
   clear hSA HSA;have hwr:IntKind.i64.wrap ((P:Int)+32)=(P:Int)+32:=by rw [IntKind.wrap_i64];omega
   have HKn:Hid (((r.n.log.drop P).take K).length=K):=by unfold Hid;rw [List.length_take,List.length_drop];omega
   by_cases hA:(LN:Int)<(P:Int)+32
   ·have hsl:=hsl1 (HkA.out hA)
    clear hsl1 hsl2
    go_region_held3 (fun w'=>w'.cell? ⟨b,12,none⟩=some (.slice la LN lc)) (simp [*,go_sem])
     (first
      |(go_at_call 80;refine Calls.mono (HCl.out _ HBd.out.drew) ?_;rintro e w1 ⟨v1,rfl,ho1,hb1⟩;obtain ⟨ea,ec,e1⟩:=ho1.shape;rw [HKn.out] at e1;subst e1;have HO1:Hid (Zp w1 W.heap.size (.slice ea K ec) ((r.n.log.drop P).take K)):=ho1;have HB1:Hid (Below W.heap.size W w1):=(Below.refl _ _).drew.trans hb1;have HM1:Hid (Blk w1 w.heap.size #[.int .i64 5,.int .i64 0,.int .i64 0,.int .i64 r.n.tm,.int .i64 (P:Int),.int .i64 LT,.int .i64 r.n.cm,.int .i64 0,.int .i64 0,.slice none 0 0] 43):=HM.out.below HB1.out hzW;have p12b:w1.cell? ⟨b,12,none⟩=some (.slice la LN lc):=(HC.out w1 (HBd.out.trans (HB1.out.mono (by omega)))).1;have q9b:w1.cell? ⟨w.heap.size,9,none⟩=some (.slice none 0 0):=HM1.out.cell 9;have f9b:w1.frozen? ⟨w.heap.size,9,none⟩=false:=HM1.out.free 9;clear ho1 hb1))
    all_goals (
     go_wp2_with fail
     go_meet;exact ⟨ea,ec,HM1.out.set 9 _,HO1.out.block fun k e=>Below.heap_setCell _ _ _ _ (by have h9:=(World.ownsRow.lt HO1.out.2 k e).1;simp only;omega),(HBd.out.trans (HB1.out.mono (by omega))).setCell (p:=⟨w.heap.size,9,none⟩) (Nat.le_refl _) _⟩)
   ·have hsl:=hsl2 (HkB.out hA)
    clear hsl1 hsl2
    go_region_held3 (fun w'=>w'.cell? ⟨b,12,none⟩=some (.slice la LN lc)) (simp [*,go_sem])
     (first
      |(go_at_call 80;refine Calls.mono (HCl.out _ HBd.out.drew) ?_;rintro e w1 ⟨v1,rfl,ho1,hb1⟩;obtain ⟨ea,ec,e1⟩:=ho1.shape;rw [HKn.out] at e1;subst e1;have HO1:Hid (Zp w1 W.heap.size (.slice ea K ec) ((r.n.log.drop P).take K)):=ho1;have HB1:Hid (Below W.heap.size W w1):=(Below.refl _ _).drew.trans hb1;have HM1:Hid (Blk w1 w.heap.size #[.int .i64 5,.int .i64 0,.int .i64 0,.int .i64 r.n.tm,.int .i64 (P:Int),.int .i64 LT,.int .i64 r.n.cm,.int .i64 0,.int .i64 0,.slice none 0 0] 43):=HM.out.below HB1.out hzW;have p12b:w1.cell? ⟨b,12,none⟩=some (.slice la LN lc):=(HC.out w1 (HBd.out.trans (HB1.out.mono (by omega)))).1;have q9b:w1.cell? ⟨w.heap.size,9,none⟩=some (.slice none 0 0):=HM1.out.cell 9;have f9b:w1.frozen? ⟨w.heap.size,9,none⟩=false:=HM1.out.free 9;clear ho1 hb1))
    all_goals (
     go_wp2_with fail
     go_meet;exact ⟨ea,ec,HM1.out.set 9 _,HO1.out.block fun k e=>Below.heap_setCell _ _ _ _ (by have h9:=(World.ownsRow.lt HO1.out.2 k e).1;simp only;omega),(HBd.out.trans (HB1.out.mono (by omega))).setCell (p:=⟨w.heap.size,9,none⟩) (Nat.le_refl _) _⟩)
  case rest=>
   obtain ⟨ea,ec,hM1,hO1,hB1⟩:=hcut;obtain ⟨U,hU⟩:∃ z,z=wc:=⟨_,rfl⟩;rw [<-hU] at hM1 hO1 hB1;subst hU;have HM1:Hid (Blk U w.heap.size _ 43):=hM1;have HO1:Hid (Zp U W.heap.size (.slice ea K ec) ((r.n.log.drop P).take K)):=hO1;have HB1:Hid _:=hB1;have hCU:=HR.out.below hB1;have hKn:((r.n.log.drop P).take K).length=K:=by rw [List.length_take,List.length_drop];omega
   have HS:=send_any b r x ⟨5,0,0,r.n.tm,(P:Int),LT,r.n.cm,0,0,(r.n.log.drop P).take K⟩ y ea ec U B hCU (by show Zp U B (.slice ea ((r.n.log.drop P).take K).length ec) _;rw [hKn];exact hO1.le (by have:=HR.out.lo;omega)) (by
    show ∀ k,(Value.slice ea ((r.n.log.drop P).take K).length ec).ownBlock=some k->_;rw [hKn];intro k e;have h9:=(World.ownsRow.lt hO1.2 k e).1;refine ⟨fun e2=>?_,fun p hp e2=>?_⟩
    ·have:=(World.ownsRow.lt HR.out.log.2 k e2).2;omega
    ·have:=(World.ownsRow.lt (HR.out.ents p hp).2 k e2).2;omega) (by omega)
   rw [show ((⟨5,0,0,r.n.tm,(P:Int),LT,r.n.cm,0,0,(r.n.log.drop P).take K⟩:Mg).es.length)=K from hKn] at HS
   have HSd:Hid (Calls Tryz.prog 165 #[.pointer (some ⟨b,0,none⟩),.int .i64 y,.agg #[.int .i64 5,.int .i64 0,.int .i64 0,.int .i64 r.n.tm,.int .i64 (P:Int),.int .i64 LT,.int .i64 r.n.cm,.int .i64 0,.int .i64 0,.slice ea K ec]] U fun e w'=>e=.returned (.tuple #[])/\∃ v y1,Zj w' B b (r.send (Jp r.n (y-1).toNat)) (x.sent v y1)/\Tch b U x w' (x.sent v y1)):=by
    unfold Hid;rw [HEM.out,HKt.out];exact HS
   have HFin:Hid (∀ z v y1,Zj z B b (r.send (Jp r.n (y-1).toNat)) (x.sent v y1)->z.cell? ⟨b,9,none⟩=some (.int .i64 r.n.nw)/\(∃ u,z.cell? ⟨q,3,none⟩=some u)/\z.frozen? ⟨q,3,none⟩=false/\Zj (z.setCell ⟨q,3,none⟩ (.int .i64 r.n.nw)) B b (r.sendE (y-1).toNat) (x.sent v y1)/\Tch b z (x.sent v y1) (z.setCell ⟨q,3,none⟩ (.int .i64 r.n.nw)) (x.sent v y1)):=fun z v y1 hz=>by
    have hq2:(x.sent v y1).f y=some q:=HQ.out;have h9:=hz.stP hq2 r.n.nw;exact ⟨hz.blk.cell 9,⟨_,(hz.pf y q hq2).1.cell 3⟩,(hz.pf y q hq2).1.free 3,h9.1,h9.2⟩
   clear HS hM1 hO1 hCU hKn p12 p4 p8 q9 f9;have G1:Hid True:=trivial
   go_wp2_with (first
    |(have hBA:=G1;refine Zx 43 (.tmp 6) rfl ?_;clear hBA;refine Zk rfl 43 (.tmp 6) rfl w.heap.size rfl HM1.out Tryz.underlying43 rfl sizeMg rfl ?_;clear G1)
    |(go_at_call 165;refine Calls.mono HSd.out ?_;rintro e w5 ⟨rfl,v5,y5,hR5,ht5⟩;obtain ⟨d9,⟨du,dJ⟩,fJ,hR6,ht6⟩:=HFin.out w5 v5 y5 hR5;have HF:Hid (Zj (w5.setCell ⟨q,3,none⟩ (.int .i64 r.n.nw)) B b (r.sendE (y-1).toNat) (x.sent v5 y5)/\Tch b w x (w5.setCell ⟨q,3,none⟩ (.int .i64 r.n.nw)) (x.sent v5 y5)):=⟨hR6,(Tch.head HB1.out ht5).trans ht6⟩;clear hR5 ht5 hR6 ht6))
   (try simp only [Exit.inBlock,Exit.then])
   exact bodyPost_end (results_none rfl _ _ _) rfl ⟨rfl,_,_,HF.out⟩
end Go.Proofs.YtmmpoppgabadmaaGreat
