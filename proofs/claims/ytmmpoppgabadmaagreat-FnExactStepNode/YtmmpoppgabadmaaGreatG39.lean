import Derived.Test.YtmmpoppgabadmaaGreatG38
set_option linter.unusedVariables false
set_option linter.unusedSimpArgs false
set_option maxRecDepth 100000
set_option maxHeartbeats 16000000
namespace Go.Proofs.YtmmpoppgabadmaaGreat
open Go.RowKit Go.Maps
theorem run_imput {γ:Type}{vl:γ->Value}{f:Int->Option γ}(w:World)(t e:TypeId)(ht:Tryz.prog.underlying t=some (.map 3 e))(b:Nat)(h:IM vl w b f)(l:List Int)(hl:l.Nodup)(hml:∀ y,y∈l↔(f y).isSome=true)(hn:l.length<1000000)(c:Int)(hc:(Lit.int .i64 c).wf=true)(y:γ) :
  ∃ w',(Instr.mapUpdate t (.map (some b)) (.int .i64 c) (vl y)).run Tryz.prog w=.ok () w'/\IM vl w' b (fun d=>if d=c then some y else f d)/\w.grownBy w' (some b):=by
 obtain ⟨n,D,h1,h2⟩:=h;have hz:=IM.size h1 h2 hl hml;replace h1:=tight3 h1;obtain ⟨w',hrun,ho,hgr⟩:=h1.update law3 ht (by rw [hz];unfold maxLen;omega) (key3 hc) (show Z12 (vl y)=some (.held (vl y),[]) from rfl);refine ⟨w',hrun,⟨_,_,ho,fun d=>?_⟩,hgr⟩;by_cases hcd:d=c
 ·subst hcd
  simp only [if_true];exact ⟨has_put_same h1.isMap (law3.key (key3 hc)) _,fun z=>atKey_put_same h1.isMap (law3.key (key3 hc)) _ _⟩
 ·have hne:Lit.int .i64 d≠Lit.int .i64 c:=fun e=>hcd (by injection e)
  simp only [if_neg hcd];exact ⟨(has_put_other hne _).trans (h2 d).1,fun z=>(atKey_put_other hne _ _).trans ((h2 d).2 z)⟩
def Z03 (r:Rn):Rn:={ r with n:={ r.lone.n with ro:=3,ld:=r.n.id,nx:=Zl r.n.id r.n.sz.toNat ((r.n.log.length:Int)+1),mt:=Zl r.n.id r.n.sz.toNat 0,se:=Zl r.n.id r.n.sz.toNat r.n.nw,st:=Zl r.n.id r.n.sz.toNat r.n.nw } }
def Z17 (r:Rn):Rn:={ Z03 r with n:={ (Z03 r).n with log:=if r.n.log.length<4096 then r.n.log ++ [e0 r.n.tm] else r.n.log } }
theorem leadG_eq (r:Rn):r.lead=(Z17 r).sendAll:=rfl
theorem leadL_D (id:Int)(k:Nat)(y:Int)(J:Nat)(h:J<k):(Zl id k y).getD J 0=lv id J y:=by
 rw [List.getD_eq_getElem?_getD,leadL_get _ _ _ _ h];rfl
theorem leadM_ci {r:Rn}(h:CI r.n):CI (Z03 r).n:=by
 obtain ⟨c1,c2,c3,c4,c5,c6,c7,c8,c9⟩:=h;refine ⟨c1,c2,c3,c4,c5,.nil,(fun y hy=>by cases hy),fun _=>⟨⟨Jc _ _ _,Jc _ _ _,Jc _ _ _,Jc _ _ _⟩,?_⟩,fun hn=>absurd rfl hn⟩
 have hid:∀ y,(Zl r.n.id r.n.sz.toNat y).getD (r.n.id-1).toNat 0=0:=fun y=>by
  rw [leadL_D _ _ _ _ (by omega)];unfold lv;rw [if_pos (by omega)]
 exact ⟨hid _,hid _,hid _,hid _⟩
theorem leadM_pg (r:Rn)(y:Int)(h1:1<=y)(h2:y<=r.n.sz)(h3:y≠r.n.id):pgC (Z03 r).n y=#[.int .i64 ((r.n.log.length:Int)+1),.int .i64 0,.int .i64 r.n.nw,.int .i64 r.n.nw]:=by
 have hy:∀ z,(Zl r.n.id r.n.sz.toNat z).getD (y-1).toNat 0=z:=fun z=>by
  rw [leadL_D _ _ _ _ (by omega)];unfold lv;rw [if_neg (by omega)]
 unfold pgC Z03;simp only [hy]
theorem Z3i (id:Int)(y:Int):∀ k:Nat,y∈oth id k↔(1<=y/\y<=k/\y≠id)
 | 0=>by
  simp only [oth,List.not_mem_nil,false_iff];omega
 | k+1=>by
  rw [oth];split
  ·rename_i h
   rw [Z3i id y k]
   push_cast
   omega
  ·rename_i h
   rw [List.mem_append,Z3i id y k,List.mem_singleton]
   push_cast
   omega
theorem Z2k (id:Int):∀ k:Nat,(oth id k).Nodup
 | 0=>.nil
 | k+1=>by
  rw [oth];split
  ·exact Z2k id k
  ·refine List.nodup_append.2 ⟨Z2k id k,by simp,fun a ha c hc=>?_⟩
   rw [List.mem_singleton] at hc;have:=(Z3i id a k).1 ha;omega
theorem infoPg:(Tryz.prog.info? 124).map (·.size)=some 4:=by kernel_rfl
theorem lead_any (b:Nat)(r:Rn)(x:CV)(w:World)(B:Nat)(h:Z0 w B b r x)(hro:r.n.ro≠3)(hb:NdB r.n)(hl:x.L.length<=900) :
  Calls Tryz.prog 171 #[.pointer (some ⟨b,0,none⟩)] w fun e w'=>e=.returned (.tuple #[])/\∃ x',Z0 w' B b r.lead x'/\Tch b w x w' x':=by
 have i0:=h.ci.id0;have i1:=h.ci.id1;have z0:=h.ci.sz0;have z1:=h.ci.sz1;have hll:=hb.ln;obtain ⟨N,hN⟩:∃ N:Nat,r.n.sz=(N:Int):=⟨r.n.sz.toNat,by omega⟩;have hN2:r.n.sz.toNat=N:=by omega
 have HFl:Hid ((oth r.n.id N).length=N-1):=by have h9:=Z1e r.n.id r.n.sz i0 i1;rw [hN2] at h9;exact h9
 have HMem:Hid (∀ y,y∈oth r.n.id N↔(1<=y/\y<=(N:Int)/\y≠r.n.id)):=fun y=>Z3i r.n.id y N
 have HNd:Hid ((oth r.n.id N).Nodup):=Z2k r.n.id N;have HPg:Hid (∀ y,y∈oth r.n.id N->pgC (Z03 r).n y=#[.int .i64 ((r.n.log.length:Int)+1),.int .i64 0,.int .i64 r.n.nw,.int .i64 r.n.nw]):=fun y hy=>by have:=(HMem.out y).1 hy;exact leadM_pg r y (by omega) (by omega) (by omega)
 obtain ⟨f1,f2,f3,f4,f5⟩:=h.bf;have f6:=h.entB;have c6:w.cell? ⟨b,6,none⟩=some (.int .i64 r.n.ro):=h.blk.cell 6;have g6:w.frozen? ⟨b,6,none⟩=false:=h.blk.free 6;have c7:w.cell? ⟨b,7,none⟩=some (.int .i64 r.n.ld):=h.blk.cell 7;have g7:w.frozen? ⟨b,7,none⟩=false:=h.blk.free 7;have c0:w.cell? ⟨b,0,none⟩=some (.int .i64 r.n.id):=h.blk.cell 0;have hC0:Z0 w B b { r with n:={ r.n with log:=r.n.log } } x:=h;have HB1:Hid (Blk ((w.setCell ⟨b,6,none⟩ (.int .i64 3)).setCell ⟨b,7,none⟩ (.int .i64 r.n.id)) b (crC (Z03 r) x) 80):=(h.blk.set 6 _).set 7 _;have HK1:Hid (∀ k,k≠b->k<w.heap.size->((w.setCell ⟨b,6,none⟩ (.int .i64 3)).setCell ⟨b,7,none⟩ (.int .i64 r.n.id)).heap[k]? = w.heap[k]?):=X8 (b:=b) (X8 (b:=b) (Z2e w b) 6 _) 7 _;have HT1:Hid (Tch b w x ((w.setCell ⟨b,6,none⟩ (.int .i64 3)).setCell ⟨b,7,none⟩ (.int .i64 r.n.id)) x):=(Tch.set b w x 6 _).trans (Tch.set b _ x 7 _);have HG1:Hid (IM unV ((w.setCell ⟨b,6,none⟩ (.int .i64 3)).setCell ⟨b,7,none⟩ (.int .i64 r.n.id)) x.gm (grF r.n.gr)):=h.gm.keep (HK1.out _ f1 h.gm.lt);have HS1:Hid (((w.setCell ⟨b,6,none⟩ (.int .i64 3)).setCell ⟨b,7,none⟩ (.int .i64 r.n.id)).heap.size=w.heap.size):=by simp [Hid,World.setCell]
 have HMk:Hid (∀ w2,Blk w2 b (crC (Z03 r) x) 80->IM unV w2 x.gm (fun _=>(none:Option Unit))->(∀ k,k≠b->k≠x.gm->k<w.heap.size->w2.heap[k]? = w.heap[k]?)->Z07 w2 B b (Z03 r) x []):=fun w2 hb2 hg2 hk2=>by
  refine ⟨hb2,h.lo,h.log.block fun k e=>hk2 k (f4 k e).1 (f4 k e).2.1 (World.ownsRow.lt h.log.2 k e).2,hg2,h.gml,h.pm.keep (hk2 _ f2 h.gp.symm h.pm.lt),h.pml,h.gp,fun y q e=>?_,h.pi,fun y=>?_,h.out.block fun k e=>hk2 k (f5 k e).1 (f5 k e).2.1 (h.out.lts k e).2,h.outC,fun p hp=>(h.ents p hp).block fun k e=>hk2 k (f6 p hp k e).1 (f6 p hp k e).2.1 (World.ownsRow.lt (h.ents p hp).2 k e).2,h.apE,leadM_ci h.ci⟩
  ·exact absurd ((h.pk y).1 (by rw [e];rfl)).1 hro
  ·constructor
   ·intro e;cases e
   ·intro e;exact absurd ((h.pk y).1 e).1 hro
 have hlt:=h.lt;have hBw:B<=w.heap.size:=Nat.le_trans h.lo (Nat.le_of_lt h.lt);have HLead:Hid (r.lead=(Z17 r).sendAll):=leadG_eq r;have HLdb:Hid (LdB (Z17 r).n (Z17 r).n.sz.toNat/\NdB (Z17 r).n):=Z5d r hb;have HCI:Hid (CI r.n):=h.ci;have HN:Hid (r.n.sz=(N:Int)):=hN;have HI:Hid (∀ i (hi:i<(oth r.n.id N).length),(oth r.n.id N)[i]=(kI r.n.id i:Int)+1):=Z1x r.n.id i0 N;have hn3:3<=N:=by omega
 have hn7:N<=7:=by omega
 obtain ⟨LN,hLN⟩:∃ LN,LN=r.n.log.length:=⟨_,rfl⟩;rw [<-hLN] at HPg hll;have HLN:Hid _:=hLN;clear hLN;rw [HLead.out];generalize r.lead=RLd at *;clear h hC0 hb f3 f4 f5 f6 hN hN2 i0 i1 z0 z1 hro;go_enter Tryz.func171,Tryz.ntmps171
 go_upto_region 1 with fail
 generalize (w.setCell ⟨b,6,none⟩ (.int .i64 3)).setCell ⟨b,7,none⟩ (.int .i64 r.n.id)=w1 at *;have d18:w1.cell? ⟨b,18,none⟩=some (.map (some x.gm)):=HB1.out.cell 18;clear c6 g6 c7 g7 c0
 go_upto_region 2 with (refine Z3r _ _ rfl ?_;refine Z2j _ rfl _ 77 rfl 121 Tryz.underlying77 x.gm rfl HG1.out ?_;intro w2 hg2 hgr2 hs2;have HC2:Hid (Z07 w2 B b (Z03 r) x []):=HMk.out w2 (HB1.out.keep (hgr2.block b HB1.out.lt (fun e=>f1 (by injection e with e;exact e.symm)))) hg2 (fun k h1 h2 h3=>(hgr2.block k (by have:=HS1.out;omega) (fun e=>h2 (by injection e with e))).trans (HK1.out k h1 h3));have HT2:Hid (Tch b w x w2 x):=HT1.out.trans (Tch.of x hgr2 (.inr (.inl rfl)));clear hg2 hgr2 hs2)
 have HOt:Hid (Calls Tryz.prog 81 #[.pointer (some ⟨b,0,none⟩)] w2 fun e w'=>∃ a c,e=.returned (.slice a (N-1) c)/\Z6 inC 1 3 w' w2.heap.size (.slice a (N-1) c) (oth r.n.id N)/\Below w2.heap.size w2 w'):=Z4c b r.n.id N w2 (HC2.out.blk.cell 0) (by rw [<-HN.out];exact HC2.out.blk.cell 1) HC2.out.blk.lt HCI.out.id0 (by rw [<-HN.out];exact HCI.out.id1) (by omega) (by omega);clear d18
 go_wp2_with (first
  |(go_at_call 81;refine Calls.mono HOt.out ?_;rintro e w3 ⟨oa,oc,rfl,ho1,hb1⟩;have HO1:Hid (Z6 inC 1 3 w3 w2.heap.size (.slice oa (N-1) oc) (oth r.n.id N)):=ho1;have HB3:Hid _:=hb1;clear ho1 hb1))
 go_loopw [3,24] (fun sj iv wr=>∃(i:Nat) (xi:CV),i<=N-1/\iv=.int .i64 (i:Int)/\xi.L=x.L/\Z07 wr B b (Z03 r) xi ((oth r.n.id N).take i)/\Tch b w x wr xi/\Z6 inC 1 3 wr w2.heap.size (.slice oa (N-1) oc) (oth r.n.id N)) (fun _ iv _=>N-(RowKit.intOf iv).toNat)
 case atStart=>exact ⟨0,x,by omega,rfl,rfl,HC2.out.below HB3.out,HT2.out.tail HB3.out,HO1.out⟩
 case round=>
  obtain ⟨i,xi,hi,rfl,hxl,hC,hT,hO⟩:=hrel;obtain ⟨wq,hwq⟩:∃ z,z=wr:=⟨_,rfl⟩;rw [<-hwq] at hC hT hO;subst hwq;have HC:Hid _:=hC;have HT:Hid _:=hT;have HO:Hid (Z6 inC 1 3 wq w2.heap.size (.slice oa (N-1) oc) (oth r.n.id N)):=hO;by_cases hlt2:i<N-1
  ·obtain ⟨g,off,rfl,hc⟩:=in_at HO.out (by rw [HFl.out];omega) i (by rw [HFl.out];omega)
   have hmy:=(HMem.out _).1 (List.getElem_mem (l:=oth r.n.id N) (n:=i) (by rw [HFl.out];omega));have HPy:=HPg.out _ (List.getElem_mem (l:=oth r.n.id N) (n:=i) (by rw [HFl.out];omega));have HTk:Hid ((oth r.n.id N).take (i+1)=(oth r.n.id N).take i ++ [(oth r.n.id N)[i]'(by rw [HFl.out];omega)]):=List.take_succ_eq_append_getElem (by rw [HFl.out];omega)
   have HNy:Hid ((oth r.n.id N)[i]'(by rw [HFl.out];omega) ∉ (oth r.n.id N).take i):=by
    intro hm;obtain ⟨j,hj,e⟩:=List.mem_iff_getElem.1 hm;rw [List.getElem_take] at e;have h9:=(List.getElem_inj HNd.out).1 e;rw [List.length_take] at hj;omega
   have HTn:Hid (((oth r.n.id N).take i).Nodup/\((oth r.n.id N).take i).length<1000000):=⟨HNd.out.sublist (List.take_sublist _ _),by rw [List.length_take];omega⟩;have h1d:decide ((i:Int)<((N-1:Nat):Int))=true:=decide_eq_true (by omega);have h1:(i:Int)<((N-1:Nat):Int):=by omega
   obtain ⟨la,lc,hvl⟩:=hC.log.shape;have hvl2:xi.vl=.slice la LN lc:=by rw [HLN.out];exact hvl
   have e12:wq.cell? ⟨b,12,none⟩=some (.slice la LN lc):=by rw [<-hvl2];exact hC.blk.cell 12
   have e19:wq.cell? ⟨b,19,none⟩=some (.map (some xi.pm)):=hC.blk.cell 19;have e9:wq.cell? ⟨b,9,none⟩=some (.int .i64 r.n.nw):=hC.blk.cell 9;have hltq:=hC.blk.lt;have hwl:IntKind.i64.wrap ((LN:Int)+1)=(LN:Int)+1:=by rw [IntKind.wrap_i64];omega
   generalize (oth r.n.id N)[i]'(by rw [HFl.out];omega)=y at *;have HPy2:Hid _:=HPy;have hw3:=wf3 (x:=y) (by omega) (by omega);have HQ:Hid (∀ z,z=w2->True):=fun _ _=>trivial
   clear hC hT hO hvl hvl2 HPy
   go_upto_region 5 with fail
   clear hc;have HNb:Hid (Z07 ((wq.alloc (.cells #[.int .i64 ((LN:Int)+1),.int .i64 0,.int .i64 r.n.nw,.int .i64 r.n.nw] 124)).drew) B b (Z03 r) xi ((oth r.n.id N).take i)):=HC.out.below (Below.alloc0 _).drew
   have HPut:Hid (∀ w5,((wq.alloc (.cells #[.int .i64 ((LN:Int)+1),.int .i64 0,.int .i64 r.n.nw,.int .i64 r.n.nw] 124)).drew).grownBy w5 (some xi.pm)->IM ptV w5 xi.pm (fun d=>if d=y then some wq.heap.size else xi.f d)->Z07 w5 B b (Z03 r) { xi with f:=fun d=>if d=y then some wq.heap.size else xi.f d } ((oth r.n.id N).take (i+1))/\Tch b wq xi w5 { xi with f:=fun d=>if d=y then some wq.heap.size else xi.f d }):=fun w5 hg hp=>by
    rw [HTk.out];exact HC.out.put (Below.alloc0 _).drew (by rw [HPy2.out];exact (Blk.new _ _ _).drew) (Nat.le_refl _) (Nat.le_trans HC.out.lo (Nat.le_of_lt HC.out.blk.lt)) hg hp HNy.out
   have HOb:Hid (∀ w5,((wq.alloc (.cells #[.int .i64 ((LN:Int)+1),.int .i64 0,.int .i64 r.n.nw,.int .i64 r.n.nw] 124)).drew).grownBy w5 (some xi.pm)->Z6 inC 1 3 w5 w2.heap.size (.slice (some ⟨g,off,none⟩) (N-1) oc) (oth r.n.id N)):=fun w5 hg=>by
    have h9:=HO.out.below (Below.alloc0 (w:=wq) (.cells #[.int .i64 ((LN:Int)+1),.int .i64 0,.int .i64 r.n.nw,.int .i64 r.n.nw] 124)).drew;refine h9.block fun k e=>hg.block k (h9.lts k e).2 ?_
    intro e2;injection e2 with e2;subst e2;obtain ⟨cur,s,hk⟩:=Z1p h9 e;obtain ⟨pe,pc,hpo⟩:=HNb.out.pm.obj;exact hmap hk hpo
   obtain ⟨w5,hrun5,hi5,hg5⟩:=run_imput (vl:=ptV) (f:=xi.f) _ 78 126 Tryz.underlying78 xi.pm HNb.out.pm ((oth r.n.id N).take i) HTn.out.1 HNb.out.pk HTn.out.2 y hw3 wq.heap.size;unfold ptV at hrun5;obtain ⟨hC5,hT5⟩:=HPut.out w5 hg5 hi5;have HC5:Hid _:=hC5;have HT5:Hid _:=HT.out.trans hT5;have HO5:Hid _:=HOb.out w5 hg5;clear hi5 hg5 hC5 hT5
   go_region
   all_goals go_wp2_with fail
   all_goals (
    go_roundw
    case rel=>exact ⟨i+1,{ xi with f:=fun d=>if d=y then some wq.heap.size else xi.f d },by omega,by go_num,hxl,HC5.out,HT5.out,HO5.out⟩
    case measure=>simp [RowKit.intOf];omega)
  ·obtain rfl:i=N-1:=by omega
   have h1d:decide (((N-1:Nat):Int)<((N-1:Nat):Int))=false:=decide_eq_false (by omega)
   have HCq:Hid (Z0 wq B b (Z03 r) xi):=hC.at' fun y=>by
    rw [List.take_of_length_le (by rw [HFl.out];omega),HMem.out y];show _↔((3:Int)=3/\1<=y/\y<=r.n.sz/\y≠r.n.id);rw [HN.out];simp
   obtain ⟨la,lc,hvl⟩:=hC.log.shape;have hvl2:xi.vl=.slice la LN lc:=by rw [HLN.out];exact hvl
   have e12:wq.cell? ⟨b,12,none⟩=some (.slice la LN lc):=by rw [<-hvl2];exact hC.blk.cell 12
   have e4:wq.cell? ⟨b,4,none⟩=some (.int .i64 r.n.tm):=hC.blk.cell 4;have hltq:=hC.blk.lt;have HXl:Hid (xi.L.length<=900):=by unfold Hid;rw [hxl];exact hl
   have hBq:B<=wq.heap.size:=Nat.le_trans hC.lo (Nat.le_of_lt hC.blk.lt);have HVl:Hid (xi.vl=.slice la LN lc):=hvl2;have HSa:Hid (∀ z x9,Z0 z B b (Z17 r) x9->x9.L.length<=900->Calls Tryz.prog 137 #[.pointer (some ⟨b,0,none⟩)] z fun e w'=>e=.returned (.tuple #[])/\∃ x',Z0 w' B b (Z17 r).sendAll x'/\Tch b z x9 w' x'):=fun z x9 hz hx=>Z4n b (Z17 r) x9 z B hz rfl HLdb.out.1 HLdb.out.2.ln hx
   by_cases hf:LN<4096
   ·have hfd:decide ((LN:Int)<4096)=true:=decide_eq_true (by omega)
    have hfi:(LN:Int)<4096:=by omega
    have HFin:Hid (∀ w5 w6 v,Below wq.heap.size wq w5->Z6 Ent.cells 7 118 w6 B v (r.n.log ++ [e0 r.n.tm])->Jy w5 (.slice la LN lc) w6 v->Z0 (w6.setCell ⟨b,12,none⟩ v) B b (Z17 r) { xi with vl:=v }/\Tch b wq xi (w6.setCell ⟨b,12,none⟩ v) { xi with vl:=v }):=fun w5 w6 v h5 ho hg=>by
     have hLg:Z17 r={ Z03 r with n:={ (Z03 r).n with log:=r.n.log ++ [e0 r.n.tm] } }:=by
      unfold Z17;rw [if_pos (by have:=HLN.out;omega)]
     rw [hLg];refine HCq.out.logAt h5 (Z6.e ho ?_) (by rw [HVl.out];exact hg);intro e he;rcases List.mem_append.1 he with he | he
     ·exact HCq.out.log.1 e he
     ·rw [List.mem_singleton] at he
      subst he;exact ⟨Nat.zero_le _,Nat.zero_le _,Nat.zero_le _⟩
    have HOl:Hid (Z6 Ent.cells 7 118 wq B (.slice la LN lc) r.n.log):=by unfold Hid;rw [<-hvl2];exact HCq.out.log.g
    have BRq:Hid (Blk wq b (crC (Z03 r) xi) 80):=HCq.out.blk;have HNO:Hid ((Value.slice la LN lc).ownBlock≠some b):=fun e=>Zm HOl.out BRq.out (by decide) b e rfl
    have HLe:Hid (r.n.log.length<=1000000):=by have:=HLN.out;unfold Hid;omega
    have HLs:Hid ((r.n.log ++ [e0 r.n.tm]).length=LN+1):=by unfold Hid;rw [List.length_append,List.length_singleton,HLN.out]
    have pa:∀(o:Obj) (j:Nat),(wq.alloc o).cell? ⟨b,j,none⟩=wq.cell? ⟨b,j,none⟩:=fun o j=>World.cell?_alloc_lt _ _ _ (by show b<wq.heap.size;omega)
    have pa':∀(o:Obj) (j:Nat),(wq.drew.alloc o).cell? ⟨b,j,none⟩=wq.cell? ⟨b,j,none⟩:=fun o j=>World.cell?_alloc_lt _ _ _ (by show b<wq.heap.size;omega)
    have hne1:¬ wq.heap.size=b:=by omega
    have hne2:¬ b=wq.heap.size:=by omega
    clear hC hT hO hvl hvl2
    go_upto_region 8 with fail
    go_region_law
     (refine J3 entLaw rfl (.tmp 65) (.tmp 72) rfl (e0 r.n.tm) (Z6.below (Z6.below HOl.out ((Below.refl _ _).drew)) ((Below.refl _ _).alloc (Nat.le_refl _) _)) rfl wq.heap.size 1 (J2 wq.drew (e0 r.n.tm).cells 118) rfl HLe.out (by simp;omega) ?_;intro v3 w3 ho3 hg3;have HO3:Hid (Z6 Ent.cells 7 118 w3 B v3 (r.n.log ++ [e0 r.n.tm])):=ho3;obtain ⟨a3,c3,e3'⟩:=ho3.shape;rw [HLs.out] at e3';have HG3:Hid (Jy _ (.slice la LN lc) w3 v3):=hg3;have BQ3:Hid (Blk w3 b (crC (Z03 r) xi) 80):=(BRq.out.drew.alloc _).keep (hg3.g.block _ (by simp;omega) (fun e=>HNO.out e.symm));obtain ⟨vq,p12⟩:∃ vq,w3.cell? ⟨b,12,none⟩=some vq:=⟨_,BQ3.out.cell 12⟩;have pf:=BQ3.out.free;subst e3';have HF3:Hid _:=HFin.out _ _ _ ((Below.refl _ _).drew.alloc (Nat.le_refl _) _) ho3 hg3;clear ho3 hg3)
    all_goals go_wp2_with (first
     |(go_at_call 137;refine Calls.mono (HSa.out _ _ HF3.out.1 HXl.out) ?_;rintro e w8 ⟨rfl,x8,h8,t8⟩;have H8:Hid _:=h8;have T8:Hid (Tch b w x w8 x8):=(HT.out.trans HF3.out.2).trans t8;clear h8 t8))
    all_goals (
     (try simp only [Exit.inBlock,Exit.then])
     exact bodyPost_end (results_none rfl _ _ _) rfl ⟨rfl,_,H8.out,T8.out⟩)
   ·have hfd:decide ((LN:Int)<4096)=false:=decide_eq_false (by omega)
    have hfi:¬(LN:Int)<4096:=by omega
    have HCg:Hid (Z0 wq B b (Z17 r) xi):=by
     have hLg:Z17 r=Z03 r:=by
      unfold Z17;rw [if_neg (by have:=HLN.out;omega)];rfl
     unfold Hid;rw [hLg];exact HCq.out
    clear hC hT hO hvl hvl2
    go_wp2_with (first
     |(go_at_call 137;refine Calls.mono (HSa.out _ _ HCg.out HXl.out) ?_;rintro e w8 ⟨rfl,x8,h8,t8⟩;have H8:Hid _:=h8;have T8:Hid (Tch b w x w8 x8):=HT.out.trans t8;clear h8 t8))
    (try simp only [Exit.inBlock,Exit.then])
    exact bodyPost_end (results_none rfl _ _ _) rfl ⟨rfl,_,H8.out,T8.out⟩
end Go.Proofs.YtmmpoppgabadmaaGreat
