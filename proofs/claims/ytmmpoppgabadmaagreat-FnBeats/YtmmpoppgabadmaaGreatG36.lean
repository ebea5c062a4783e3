import Derived.Test.YtmmpoppgabadmaaGreatG35
import Derived.Test.YtmmpoppgabadmaaGreatG11
set_option linter.unusedVariables false
set_option linter.unusedSimpArgs false
set_option maxRecDepth 100000
set_option maxHeartbeats 16000000
namespace Go.Proofs.YtmmpoppgabadmaaGreat
open Go.RowKit
theorem Zj.hasntC {w:World}{B b:Nat}{r:Rn}{x:CV}(h:Zj w B b r x){q:Nat}{C:Array Value}{t:TypeId}{s:Nat×Nat}(hq:w.heap[q]? = some (.cells C t s))(h1:t≠80)(h2:t≠124)(h3:t≠118)(h4:t≠43):¬ x.has b q:=by
 obtain ⟨ge,gc,hg⟩:=h.gm.obj;obtain ⟨pe,pc,hp⟩:=h.pm.obj;rintro (rfl | rfl | rfl | ⟨y,e⟩ | e | e)
 ·exact h1 (X6 hq h.blk)
 ·exact hmap hq hg
 ·exact hmap hq hp
 ·exact h2 (X6 hq (h.pf y _ e).1)
 ·obtain ⟨cur,s,e2⟩:=Jq h.log e
  exact h3 (X6 hq e2)
 ·obtain ⟨cur,s,e2⟩:=Z1k h.out e
  exact h4 (X6 hq e2)
theorem Zg.tch {α:Type}{cs:α->List Value}{m:Nat}{T:TypeId}{w w':World}{B B' b:Nat}{r:Rn}{x x':CV}{v:Value}{l:List α}(ho:Zg cs m T w B' v l)(h:Zj w B b r x)(ht:Tch b w x w' x')(h1:T≠80)(h2:T≠124)(h3:T≠118)(h4:T≠43):Zg cs m T w' B' v l:=
 ho.block fun k e=>by
  obtain ⟨cur,s,hk⟩:=Z1k ho e;exact ht.block k (ho.lts k e).2 (h.hasntC hk h1 h2 h3 h4)
theorem kI_full (id sz:Int)(h:1<=id)(h2:id<=sz):kI id (sz.toNat-1)=sz.toNat:=by
 unfold kI;rw [if_neg (by omega)];omega
theorem in_at {w:World}{B:Nat}{a:Option Addr}{n c:Nat}{l:List Int}(h:Zg inC 1 3 w B (.slice a n c) l)(hl:l.length<=1000000)(i:Nat)(hi:i<l.length):∃ g off,a=some ⟨g,off,none⟩/\w.cell? ⟨g,off+i,none⟩=some (.int .i64 l[i]):=by
 obtain ⟨-,a',c',e,hc⟩:=ix_sl (Zg.sl Z0b h (by unfold maxLen;omega));simp only [Value.slice.injEq] at e;obtain ⟨rfl,-,rfl⟩:=e;obtain ⟨b,off,rfl,hj⟩:=hc i hi;exact ⟨b,off,rfl,hj i hi⟩
end Go.Proofs.YtmmpoppgabadmaaGreat
namespace Go.Proofs.YtmmpoppgabadmaaGreat
open Go.RowKit Go.Maps
theorem allK_nC (m:Mg)(r:Rn):∀ k,(Rn.allK m k r).n=r.n
 | 0=>rfl
 | k+1=>by
  rw [Rn.allK];split
  ·exact allK_nC m r k
  ·exact allK_nC m r k
theorem Zj.gm_len {w:World}{B b:Nat}{r:Rn}{x:CV}(h:Zj w B b r x):r.n.gr.length<1000000:=by
 have h9:=h.ci.gr2;have h8:=h.ci.gr1
 have h7:∀(l:List Int) (lo:Int),l.Pairwise (· < ·)->(∀ y∈l,lo<y/\y<=7)->lo<=7->(l.length:Int)<=7-lo:=by
  intro l
  induction l with
  | nil=>intro lo _ _ h;simp;omega
  | cons a l ih=>
   intro lo hp hy hlo;have ha:=hy a (by simp);have:=ih a (List.Pairwise.of_cons hp) (fun y hy'=>⟨List.rel_of_pairwise_cons hp hy',(hy y (by simp [hy'])).2⟩) ha.2;rw [List.length_cons]
   push_cast
   omega
 have:=h7 r.n.gr 0 h8 (fun y hy=>by have:=h9 y hy;have:=h.ci.sz1;omega) (by omega);omega
theorem Z3a (b:Nat)(r:Rn)(x:CV)(ro kd tm:Int)(w:World)(B:Nat)(h:Zj w B b r x)(hro:r.n.ro≠3)(hro':ro≠3)(hll:r.n.log.length<=4096)(hl:x.L.length<=900) :
  Calls Tryz.prog 158 #[.pointer (some ⟨b,0,none⟩),.int .i64 ro,.int .i64 kd,.int .i64 tm] w fun e w'=>e=.returned (.tuple #[])/\∃ x',Zj w' B b (Rn.allK ⟨kd,0,0,tm,r.n.log.length,Yn r.n.log,0,0,0,[]⟩ r.n.sz.toNat { r with n:={ r.n with ro:=ro,gr:=[r.n.id] } }) x'/\Tch b w x w' x':=by
 have i0:=h.ci.id0;have i1:=h.ci.id1;have z0:=h.ci.sz0;have z1:=h.ci.sz1;obtain ⟨N,hN⟩:∃ N:Nat,r.n.sz=(N:Int):=⟨r.n.sz.toNat,by omega⟩;have hN2:r.n.sz.toNat=N:=by omega
 have hfull:=Z24 r.n.id r.n.sz i0 i1;have hkf:=kI_full r.n.id r.n.sz i0 i1;have hkl:=fun i=>kI_lt r.n.id r.n.sz i i0 i1
 rw [hN2] at hfull hkf hkl ⊢;have HG:Hid (∀ i (hi:i<(oth r.n.id N).length),(oth r.n.id N)[i]=(kI r.n.id i:Int)+1):=Z21 r.n.id i0 N;have HKf:Hid (kI r.n.id (N-1)=N):=hkf;have HFl:Hid ((oth r.n.id N).length=N-1):=hfull;have c6:w.cell? ⟨b,6,none⟩=some (.int .i64 r.n.ro):=h.blk.cell 6;have f6:w.frozen? ⟨b,6,none⟩=false:=h.blk.free 6;have HC1:Hid (Zj (w.setCell ⟨b,6,none⟩ (.int .i64 ro)) B b { r with n:={ r.n with ro:=ro } } x):=h.set 6 _ rfl rfl rfl rfl rfl rfl rfl rfl rfl rfl ⟨fun e=>absurd e hro',fun e=>absurd e hro⟩;have HT1:Hid (Tch b w x (w.setCell ⟨b,6,none⟩ (.int .i64 ro)) x):=Tch.set _ _ _ _ _;have HF:Hid (∀ i,Rn.allK ⟨kd,0,0,tm,r.n.log.length,Yn r.n.log,0,0,0,[]⟩ (kI r.n.id (i+1)) { r with n:={ r.n with ro:=ro,gr:=[r.n.id] } }=(Rn.allK ⟨kd,0,0,tm,r.n.log.length,Yn r.n.log,0,0,0,[]⟩ (kI r.n.id i) { r with n:={ r.n with ro:=ro,gr:=[r.n.id] } }).send { (⟨kd,0,0,tm,r.n.log.length,Yn r.n.log,0,0,0,[]⟩:Mg) with td:=(kI r.n.id i:Int)+1 }):=oth_fold r.n.id (fun k=>Rn.allK ⟨kd,0,0,tm,r.n.log.length,Yn r.n.log,0,0,0,[]⟩ k { r with n:={ r.n with ro:=ro,gr:=[r.n.id] } }) (fun k a=>a.send { (⟨kd,0,0,tm,r.n.log.length,Yn r.n.log,0,0,0,[]⟩:Mg) with td:=(k:Int)+1 }) (fun k=>rfl);have HZ:Hid (Rn.allK ⟨kd,0,0,tm,r.n.log.length,Yn r.n.log,0,0,0,[]⟩ (kI r.n.id 0) { r with n:={ r.n with ro:=ro,gr:=[r.n.id] } }={ r with n:={ r.n with ro:=ro,gr:=[r.n.id] } }):=oth_zero r.n.id i0 (fun k=>Rn.allK ⟨kd,0,0,tm,r.n.log.length,Yn r.n.log,0,0,0,[]⟩ k { r with n:={ r.n with ro:=ro,gr:=[r.n.id] } }) (fun k a=>a.send { (⟨kd,0,0,tm,r.n.log.length,Yn r.n.log,0,0,0,[]⟩:Mg) with td:=(k:Int)+1 }) (fun k=>rfl);have HAn:Hid (∀ k,(Rn.allK ⟨kd,0,0,tm,r.n.log.length,Yn r.n.log,0,0,0,[]⟩ k { r with n:={ r.n with ro:=ro,gr:=[r.n.id] } }).n={ r.n with ro:=ro,gr:=[r.n.id] }):=fun k=>allK_nC _ _ k
 obtain ⟨R1,hR1⟩:∃ R1:Rn,R1={ r with n:={ r.n with ro:=ro,gr:=[r.n.id] } }:=⟨_,rfl⟩;obtain ⟨MM,hMM⟩:∃ MM:Mg,MM=⟨kd,0,0,tm,r.n.log.length,Yn r.n.log,0,0,0,[]⟩:=⟨_,rfl⟩;rw [<-hR1,<-hMM] at HF HZ HAn ⊢;have HR1:Hid (R1={ r with n:={ r.n with ro:=ro,gr:=[r.n.id] } }):=hR1;have HMM:Hid (MM=⟨kd,0,0,tm,r.n.log.length,Yn r.n.log,0,0,0,[]⟩):=hMM;have HI:Hid (1<=r.n.id/\r.n.id<=r.n.sz):=⟨i0,i1⟩;have hn3:3<=N:=by omega
 have hn7:N<=7:=by omega
 have hw3:=wf3 (x:=r.n.id) (by omega) (by omega);have HN:Hid (r.n.sz=(N:Int)):=hN;clear h hR1 hMM hfull hkf hkl hN hN2 i0 i1 z0 z1 hro hro';go_enter Tryz.func158,Tryz.ntmps158
 go_upto_region 1 with fail
 generalize w.setCell ⟨b,6,none⟩ (.int .i64 ro)=w1 at *;have d18:w1.cell? ⟨b,18,none⟩=some (.map (some x.gm)):=HC1.out.blk.cell 18;clear c6 f6
 go_upto_region 2 with (refine gate_clr _ _ rfl ?_;refine Z2j _ rfl _ 77 rfl 121 Tryz.underlying77 x.gm rfl HC1.out.gm ?_;intro w2 hg2 hgr2 hs2;have HC2:Hid (Zj w2 B b { r with n:={ r.n with ro:=ro,gr:=[] } } x):=HC1.out.gmAt (gr':=[]) (by have e9:grF []=fun _=>(none:Option Unit):=rfl;rw [e9];exact hg2) (fun k hk hl=>hgr2.block k hl (fun e=>hk (by injection e with e))) .nil (fun y hy=>by cases hy);have HT2:Hid (Tch b w x w2 x):=HT1.out.trans (Tch.of x hgr2 (.inr (.inl rfl)));clear hg2 hgr2 hs2)
 have q18:∀ u:BW w2,u.w.cell? ⟨b,18,none⟩=some (.map (some x.gm)):=fun u=>(HC2.out.below u.h).blk.cell 18
 have q0:∀ u:BW w2,u.w.cell? ⟨b,0,none⟩=some (.int .i64 r.n.id):=fun u=>(HC2.out.below u.h).blk.cell 0
 have NE2:Nonempty (BW w2):=⟨⟨w2,Below.refl _ _⟩⟩;clear d18;go_frame
 go_cut [] (fun W=>Zj W B b R1 x/\Tch b w x W x)
 case first=>
  refine Jw (C:=fun w'=>∃ u:BW w2,w'=u.w) _ (by kernel_rfl) rfl (by kernel_rfl) ⟨⟨_,(Below.refl _ _).drew⟩,rfl⟩ ?_;simp only [List.dropLast_cons_cons,List.dropLast_singleton]
  repeat (first | go_big_quiet_step ((fail)))
  refine wpQuiet_nil ?_;intro w3 hww3;have hb_w3:Below w2.heap.size w2 w3:=(by obtain ⟨u,rfl⟩:=hww3;exact u.h);clear hww3;refine wp_imput (γ:=Unit) (vl:=unV) (f:=grF []) w3 (.tmp 22) (.tmp 27) (.tmp 28) 77 rfl 121 Tryz.underlying77 x.gm rfl (HC2.out.below hb_w3).gm [] .nil (Z22 _) (by simp) r.n.id hw3 () rfl rfl ?_;intro w4 hi4 hg4
  have HC4:Hid (Zj w4 B b R1 x):=by
   have h9:=(HC2.out.below hb_w3).gmAt (w':=w4) (gr':=[r.n.id]) (by
    have e9:grF [r.n.id]=fun d=>if d=r.n.id then some () else grF [] d:=by
     funext d
     unfold grF;by_cases hd:d=r.n.id <;> simp [hd]
    rw [e9];exact hi4) (fun k hk hl=>hg4.block k hl (fun e=>hk (by injection e with e))) (List.pairwise_singleton _ _) (fun y hy=>by rw [List.mem_singleton] at hy;rw [hy];exact HI.out)
   unfold Hid;rw [HR1.out];exact h9
  have HT4:Hid (Tch b w x w4 x):=(HT2.out.tail hb_w3).trans (Tch.of x hg4 (.inr (.inl rfl)));clear hi4 hg4
  go_wp2_with fail
  go_meet;exact ⟨HC4.out,HT4.out⟩
 case rest=>
  obtain ⟨hC,hT⟩:=hcut;obtain ⟨w5,hw5⟩:∃ z,z=wc:=⟨_,rfl⟩;rw [<-hw5] at hC hT;subst hw5;have HC5:Hid _:=hC;have HT5:Hid _:=hT
  have HOt:Hid (Calls Tryz.prog 81 #[.pointer (some ⟨b,0,none⟩)] w5 fun e w'=>∃ a c,e=.returned (.slice a (N-1) c)/\Zg inC 1 3 w' w5.heap.size (.slice a (N-1) c) (oth r.n.id N)/\Below w5.heap.size w5 w'):=by
   have h9:=Z2y b R1 x w5 B hC;have e1:R1.n.sz.toNat=N:=by rw [HR1.out];show r.n.sz.toNat=N;have:=HN.out;omega
   have e2:R1.n.id=r.n.id:=by rw [HR1.out]
   rw [e1,e2] at h9;exact h9
  clear hC hT q18 q0 NE2
  go_wp2_with (first
   |(go_at_call 81;refine Calls.mono HOt.out ?_;rintro e w6 ⟨oa,oc,rfl,ho1,hb1⟩;have HO1:Hid (Zg inC 1 3 w6 w5.heap.size (.slice oa (N-1) oc) (oth r.n.id N)):=ho1;have HB1:Hid _:=hb1;clear ho1 hb1))
  go_loopw [9,32] (fun sj iv wr=>∃(i:Nat) (xi:CV),i<=N-1/\iv=.int .i64 (i:Int)/\xi.L.length<=x.L.length+i/\Zj wr B b (Rn.allK MM (kI r.n.id i) R1) xi/\Tch b w x wr xi/\Zg inC 1 3 wr w5.heap.size (.slice oa (N-1) oc) (oth r.n.id N)) (fun _ iv _=>N-(RowKit.intOf iv).toNat)
  case atStart=>exact ⟨0,x,by omega,rfl,by omega,by rw [HZ.out];exact HC5.out.below HB1.out,HT5.out.tail HB1.out,HO1.out⟩
  case round=>
   obtain ⟨i,xi,hi,rfl,hxl,hC,hT,hO⟩:=hrel;obtain ⟨wq,hwq⟩:∃ z,z=wr:=⟨_,rfl⟩;rw [<-hwq] at hC hT hO;subst hwq;have HC:Hid _:=hC;have HT:Hid _:=hT;have HO:Hid (Zg inC 1 3 wq w5.heap.size (.slice oa (N-1) oc) (oth r.n.id N)):=hO;have HLg:Hid ((Rn.allK MM (kI r.n.id i) R1).n.log=r.n.log):=by unfold Hid;rw [HAn.out]
   have hlg:=HLg.out;clear hT hO;by_cases hlt:i<N-1
   ·obtain ⟨g,off,rfl,hc⟩:=in_at HO.out (by rw [HFl.out];omega) i (by rw [HFl.out];omega)
    rw [HG.out] at hc;have h1d:decide ((i:Int)<((N-1:Nat):Int))=true:=decide_eq_true (by omega);have h1:(i:Int)<((N-1:Nat):Int):=by omega
    obtain ⟨la,lc,hvl⟩:=hC.log.shape;rw [hlg] at hvl;have q12:∀ u:BW wq,u.w.cell? ⟨b,12,none⟩=some (.slice la r.n.log.length lc):=fun u=>by rw [<-hvl];exact (hC.below u.h).blk.cell 12
    have HLt:Hid (∀ z,Below wq.heap.size wq z->Calls Tryz.prog 180 #[.slice la r.n.log.length lc] z fun e w'=>e=.returned (.int .i64 (Yn r.n.log))/\w'=z):=fun z hz=>Z1a _ _ _ (by rw [<-hvl];have h9:=(HC.out.below hz).es (by rw [HLg.out];exact hll);rw [HLg.out] at h9;exact h9)
    have NEq:Nonempty (BW wq):=⟨⟨wq,Below.refl _ _⟩⟩
    have HSe:Hid (∀ z,Below wq.heap.size wq z->Calls Tryz.prog 165 #[.pointer (some ⟨b,0,none⟩),.int .i64 ((kI r.n.id i:Int)+1),.agg #[.int .i64 kd,.int .i64 0,.int .i64 0,.int .i64 tm,.int .i64 (r.n.log.length:Int),.int .i64 (Yn r.n.log),.int .i64 0,.int .i64 0,.int .i64 0,.slice none 0 0]] z fun e w'=>e=.returned (.tuple #[])/\∃ v m',Zj w' B b (Rn.allK MM (kI r.n.id (i+1)) R1) (xi.sent v m')/\Tch b z xi w' (xi.sent v m')):=fun z hz=>by
     have h9:=send_any b (Rn.allK MM (kI r.n.id i) R1) xi ⟨kd,0,0,tm,r.n.log.length,Yn r.n.log,0,0,0,[]⟩ ((kI r.n.id i:Int)+1) none 0 z B (HC.out.below hz) (Zp.nil _ _) (fun k e=>by cases e) (by omega);rw [HF.out i,HMM.out];rw [HMM.out] at h9;exact h9
    clear hC hvl hlg;generalize (kI r.n.id i:Int)+1=y at *;generalize Yn r.n.log=LT at *;generalize r.n.log.length=LN at *
    go_upto_region 6 with fail
    clear hc;refine Jw (C:=fun w'=>∃ u:BW wq,w'=u.w) _ (by kernel_rfl) rfl (by kernel_rfl) ⟨⟨_,(Below.refl _ _).drew⟩,rfl⟩ ?_;simp only [List.dropLast_cons_cons,List.dropLast_singleton]
    repeat (first | go_big_quiet_step ((go_at_call 180;refine Calls.mono (HLt.out _ (BW.h _)) ?_;rintro e w9 ⟨rfl,hw9⟩;have hw9b:=hw9.symm;subst hw9b;exact ⟨rfl,⟨_,rfl⟩⟩)))
    refine wpQuiet_nil ?_;intro w7 hww7;have hb_w7:Below wq.heap.size wq w7:=(by obtain ⟨u,rfl⟩:=hww7;exact u.h);clear hww7;refine Yi (N:=165) rfl (fun _ _=>by go_simp) #[.pointer (some ⟨b,0,none⟩),.int .i64 y,.agg #[.int .i64 kd,.int .i64 0,.int .i64 0,.int .i64 tm,.int .i64 (LN:Int),.int .i64 LT,.int .i64 0,.int .i64 0,.int .i64 0,.slice none 0 0]] (by simp only [List.map_toArray,List.map_cons,List.map_nil];rfl) ?_;refine Calls.mono (HSe.out w7 hb_w7) ?_;rintro e w8 ⟨rfl,v8,m8,h8,t8⟩;refine ⟨_,rfl,?_⟩;have H8:Hid _:=h8;have HO8:Hid (Zg inC 1 3 w8 w5.heap.size (.slice (some ⟨g,off,none⟩) (N-1) oc) (oth r.n.id N)):=(HO.out.below hb_w7).tch (HC.out.below hb_w7) t8 (by decide) (by decide) (by decide) (by decide);have T8:Hid _:=(HT.out.tail hb_w7).trans t8;clear h8 t8
    go_wp2_with fail
    go_roundw
    case rel=>exact ⟨i+1,xi.sent v8 m8,by omega,by go_num,by show (xi.L ++ [m8]).length<=_;rw [List.length_append,List.length_singleton];omega,H8.out,T8.out,HO8.out⟩
    case measure=>simp [RowKit.intOf];omega
   ·obtain rfl:i=N-1:=by omega
    have h1d:decide (((N-1:Nat):Int)<((N-1:Nat):Int))=false:=decide_eq_false (by omega);have HC2:Hid (Zj wq B b (Rn.allK MM N R1) xi):=by have h9:=HC.out;rw [HKf.out] at h9;exact h9
    clear hC hlg;go_wp2
    (try simp only [Exit.inBlock,Exit.then])
    exact bodyPost_end (results_none rfl _ _ _) rfl ⟨rfl,_,HC2.out,HT.out⟩
end Go.Proofs.YtmmpoppgabadmaaGreat
namespace Go.Proofs.YtmmpoppgabadmaaGreat
open Go.RowKit Go.Maps
def Rn.stand (r:Rn):Rn:=Rn.allK ⟨3,0,0,r.n.tm+1,r.n.log.length,Yn r.n.log,0,0,0,[]⟩ r.n.sz.toNat (Rn.timer { r with n:={ r.n with tm:=r.n.tm+1,vo:=r.n.id,ro:=2,gr:=[r.n.id] } })
theorem stand_any (b:Nat)(r:Rn)(x:CV)(w:World)(B:Nat)(h:Zj w B b r x)(hro:r.n.ro≠3)(ht0:0<=r.n.tm)(ht1:r.n.tm<=1073741824)(hd : -(2^63)<=r.draw)(hD:r.draw<2^63)(hn0:0<=r.n.nw)(hn1:r.n.nw<=1099511627776)(hll:r.n.log.length<=4096)(hl:x.L.length<=900) :
  Calls Tryz.prog 169 #[.pointer (some ⟨b,0,none⟩)] w fun e w'=>e=.returned (.tuple #[])/\∃ x',Zj w' B b r.stand x'/\Tch b w x w' x':=by
 have c4:w.cell? ⟨b,4,none⟩=some (.int .i64 r.n.tm):=h.blk.cell 4;have f4:w.frozen? ⟨b,4,none⟩=false:=h.blk.free 4;have c5:w.cell? ⟨b,5,none⟩=some (.int .i64 r.n.vo):=h.blk.cell 5;have f5:w.frozen? ⟨b,5,none⟩=false:=h.blk.free 5;have c0:w.cell? ⟨b,0,none⟩=some (.int .i64 r.n.id):=h.blk.cell 0;have hwr:IntKind.i64.wrap (r.n.tm+1)=r.n.tm+1:=by rw [IntKind.wrap_i64];omega
 obtain ⟨R1,hR1⟩:∃ R1:Rn,R1={ r with n:={ r.n with tm:=r.n.tm+1,vo:=r.n.id } }:=⟨_,rfl⟩
 have HC1:Hid (Zj ((w.setCell ⟨b,4,none⟩ (.int .i64 (r.n.tm+1))).setCell ⟨b,5,none⟩ (.int .i64 r.n.id)) B b R1 x):=by
  unfold Hid;rw [hR1];exact (h.set (r':={ r with n:={ r.n with tm:=r.n.tm+1 } }) 4 _ rfl rfl rfl rfl rfl rfl rfl rfl rfl rfl Iff.rfl).set 5 _ rfl rfl rfl rfl rfl rfl rfl rfl rfl rfl Iff.rfl
 have HT1:Hid (Tch b w x ((w.setCell ⟨b,4,none⟩ (.int .i64 (r.n.tm+1))).setCell ⟨b,5,none⟩ (.int .i64 r.n.id)) x):=(Tch.set b w x 4 _).trans (Tch.set b _ x 5 _);have HTm:Hid (∀ z,Zj z B b R1 x->Calls Tryz.prog 156 #[.pointer (some ⟨b,0,none⟩)] z fun e w'=>e=.returned (.tuple #[])/\Zj w' B b R1.timer x/\Tch b z x w' x):=fun z hz=>Z0j b R1 x z B hz (by rw [hR1];exact hd) (by rw [hR1];exact hD) (by rw [hR1];exact hn0) (by rw [hR1];exact hn1)
 have HAk:Hid (∀ z,Zj z B b R1.timer x->Calls Tryz.prog 158 #[.pointer (some ⟨b,0,none⟩),.int .i64 2,.int .i64 3,.int .i64 (r.n.tm+1)] z fun e w'=>e=.returned (.tuple #[])/\∃ x',Zj w' B b r.stand x'/\Tch b z x w' x'):=fun z hz=>by
  have h9:=Z3a b R1.timer x 2 3 (r.n.tm+1) z B hz (by rw [hR1];exact hro) (by decide) (by rw [hR1];exact hll) hl;rw [hR1] at h9;exact h9
 have HE:Hid (∀ z,Zj z B b R1.timer x->z.cell? ⟨b,4,none⟩=some (.int .i64 (r.n.tm+1))):=fun z hz=>by have h9:=hz.blk.cell 4;rw [hR1] at h9;exact h9
 clear h hR1;generalize r.stand=RS at *;go_enter Tryz.func169,Tryz.ntmps169
 go_wp2_with (first
  |(go_at_call 156;refine Calls.mono (HTm.out _ HC1.out) ?_;rintro e w1 ⟨rfl,h1,t1⟩;have H1:Hid _:=h1;have T1:Hid (Tch b w x w1 x):=HT1.out.trans t1;have e4:=HE.out w1 h1;clear h1 t1)
  |(go_at_call 158;refine Calls.mono (HAk.out _ H1.out) ?_;rintro e w2 ⟨rfl,x2,h2,t2⟩;have H2:Hid _:=h2;have T2:Hid (Tch b w x w2 x2):=T1.out.trans t2;clear h2 t2))
 (try simp only [Exit.inBlock,Exit.then])
 exact bodyPost_end (results_none rfl _ _ _) rfl ⟨rfl,_,H2.out,T2.out⟩
def Rn.askFirst (r:Rn):Rn:=
 if r.n.tm=1073741824 then r.lone.timer
 else Rn.allK ⟨1,0,0,r.n.tm+1,r.n.log.length,Yn r.n.log,0,0,0,[]⟩ r.n.sz.toNat { r.lone.timer with n:={ r.lone.timer.n with ro:=1,gr:=[r.n.id] } }
theorem askFirst_any (b:Nat)(r:Rn)(x:CV)(w:World)(B:Nat)(h:Zj w B b r x)(ht0:0<=r.n.tm)(ht1:r.n.tm<=1073741824)(hd : -(2^63)<=r.draw)(hD:r.draw<2^63)(hn0:0<=r.n.nw)(hn1:r.n.nw<=1099511627776)(hll:r.n.log.length<=4096)(hl:x.L.length<=900) :
  Calls Tryz.prog 128 #[.pointer (some ⟨b,0,none⟩)] w fun e w'=>e=.returned (.tuple #[])/\∃ x',Zj w' B b r.askFirst x'/\Tch b w x w' x':=by
 have hwr:IntKind.i64.wrap (r.n.tm+1)=r.n.tm+1:=by rw [IntKind.wrap_i64];omega
 have HFo:Hid (Calls Tryz.prog 155 #[.pointer (some ⟨b,0,none⟩),.int .i64 0] w fun e w'=>e=.returned (.tuple #[])/\Zj w' B b r.lone x.lone/\Tch b w x w' x.lone):=Z2w b r x 0 w B h;have HTm:Hid (∀ z,Zj z B b r.lone x.lone->Calls Tryz.prog 156 #[.pointer (some ⟨b,0,none⟩)] z fun e w'=>e=.returned (.tuple #[])/\Zj w' B b r.lone.timer x.lone/\Tch b z x.lone w' x.lone):=fun z hz=>Z0j b r.lone x.lone z B hz hd hD hn0 hn1
 have HE:Hid (∀ z,Zj z B b r.lone.timer x.lone->z.cell? ⟨b,4,none⟩=some (.int .i64 r.n.tm)):=fun z hz=>hz.blk.cell 4
 by_cases ht:r.n.tm=1073741824
 ·have HQ:Hid (r.askFirst=r.lone.timer):=by unfold Hid Rn.askFirst;rw [if_pos ht]
  have htd:decide (r.n.tm<1073741824)=false:=decide_eq_false (by omega);have htn:¬ r.n.tm<1073741824:=by omega
  rw [HQ.out];clear h HQ ht;generalize r.lone.timer=RT at *;go_enter Tryz.func128,Tryz.ntmps128
  go_wp2_with (first
   |(go_at_call 155;refine Calls.mono HFo.out ?_;rintro e w1 ⟨rfl,h1,t1⟩;have H1:Hid _:=h1;have T1:Hid _:=t1;clear h1 t1)
   |(go_at_call 156;refine Calls.mono (HTm.out _ H1.out) ?_;rintro e w2 ⟨rfl,h2,t2⟩;have H2:Hid _:=h2;have T2:Hid (Tch b w x w2 x.lone):=T1.out.trans t2;have e4:=HE.out w2 h2;clear h2 t2))
  (try simp only [Exit.inBlock,Exit.then])
  exact bodyPost_end (results_none rfl _ _ _) rfl ⟨rfl,_,H2.out,T2.out⟩
 ·have HQ:Hid (r.askFirst=Rn.allK ⟨1,0,0,r.n.tm+1,r.n.log.length,Yn r.n.log,0,0,0,[]⟩ r.n.sz.toNat { r.lone.timer with n:={ r.lone.timer.n with ro:=1,gr:=[r.n.id] } }):=by unfold Hid Rn.askFirst;rw [if_neg ht]
  have HAk:Hid (∀ z,Zj z B b r.lone.timer x.lone->Calls Tryz.prog 158 #[.pointer (some ⟨b,0,none⟩),.int .i64 1,.int .i64 1,.int .i64 (r.n.tm+1)] z fun e w'=>e=.returned (.tuple #[])/\∃ x',Zj w' B b r.askFirst x'/\Tch b z x.lone w' x'):=fun z hz=>by
   rw [HQ.out];exact Z3a b r.lone.timer x.lone 1 1 (r.n.tm+1) z B hz (show (0:Int)≠3 by decide) (by decide) hll hl
  have htd:decide (r.n.tm<1073741824)=true:=decide_eq_true (by omega);have htn:r.n.tm<1073741824:=by omega
  clear h HQ ht;generalize r.askFirst=RF at *;generalize r.lone.timer=RT at *;go_enter Tryz.func128,Tryz.ntmps128
  go_wp2_with (first
   |(go_at_call 155;refine Calls.mono HFo.out ?_;rintro e w1 ⟨rfl,h1,t1⟩;have H1:Hid _:=h1;have T1:Hid _:=t1;clear h1 t1)
   |(go_at_call 156;refine Calls.mono (HTm.out _ H1.out) ?_;rintro e w2 ⟨rfl,h2,t2⟩;have H2:Hid _:=h2;have T2:Hid (Tch b w x w2 x.lone):=T1.out.trans t2;have e4:=HE.out w2 h2;clear h2 t2)
   |(go_at_call 158;refine Calls.mono (HAk.out _ H2.out) ?_;rintro e w3 ⟨rfl,x3,h3,t3⟩;have H3:Hid _:=h3;have T3:Hid (Tch b w x w3 x3):=T2.out.trans t3;clear h3 t3))
  (try simp only [Exit.inBlock,Exit.then])
  exact bodyPost_end (results_none rfl _ _ _) rfl ⟨rfl,_,H3.out,T3.out⟩
end Go.Proofs.YtmmpoppgabadmaaGreat
namespace Go.Proofs.YtmmpoppgabadmaaGreat
open Go.RowKit Go.Maps
def Jz (p:Int->Bool)(lf:Int->Bool)(id:Int):Nat->Nat
 | 0=>0
 | k+1=>Jz p lf id k+if (k:Int)+1≠id/\p ((k:Int)+1)=true/\lf ((k:Int)+1)=false then 1 else 0
theorem cntL_le (p lf:Int->Bool)(id:Int):∀ k,Jz p lf id k<=k
 | 0=>Nat.le_refl _
 | k+1=>by
  have:=cntL_le p lf id k;rw [Jz];split <;> omega
theorem cntL_none (p lf:Int->Bool)(id:Int):∀ k:Nat,(∀ y:Int,1<=y->y<=k->y≠id->lf y=true)->Jz p lf id k=0
 | 0,_=>rfl
 | k+1,h=>by
  rw [Jz,cntL_none p lf id k (fun y h1 h2 h3=>h y h1 (by omega) h3),if_neg];rintro ⟨h1,-,h3⟩;rw [h _ (by omega) (by omega) h1] at h3;cases h3
theorem Z3h (p lf:Int->Bool)(id y:Int):∀ k:Nat,(k:Int)<y->Jz p (fun z=>lf z && !(z == y)) id k=Jz p lf id k
 | 0,_=>rfl
 | k+1,h=>by
  rw [Jz,Jz,Z3h p lf id y k (by omega)];have:(((k:Int)+1) == y)=false:=by rw [beq_eq_false_iff_ne];omega
  simp only [this,Bool.not_false,Bool.and_true]
theorem cntL_step (p lf:Int->Bool)(id y:Int)(h1:1<=y)(hid:y≠id)(hl:lf y=true):∀ k:Nat,y<=k->Jz p (fun z=>lf z && !(z == y)) id k=Jz p lf id k+if p y=true then 1 else 0
 | 0,h=>by omega
 | k+1,h=>by
  rw [Jz,Jz];by_cases e:(k:Int)+1=y
  ·rw [Z3h p lf id y k (by omega)]
   rw [e];simp [hl,hid]
  ·rw [cntL_step p lf id y h1 hid hl k (by omega)]
   have:(((k:Int)+1) == y)=false:=by rw [beq_eq_false_iff_ne];exact e
   simp only [this,Bool.not_false,Bool.and_true];omega
theorem Z2u (b:Nat)(r:Rn)(x:CV)(eb:Nat)(p:Int->Bool)(w:World)(B:Nat)(h:Zj w B b r x)(hro:r.n.ro=3)
  (HP:∀ z y q,Below w.heap.size w z->x.f y=some q->Calls Tryz.prog 153 #[.pointer (some ⟨q,0,none⟩),.pointer (some ⟨eb,0,none⟩)] z fun e w'=>e=.returned (.bool (p y))/\Below z.heap.size z w') :
  Calls Tryz.prog 154 #[.pointer (some ⟨b,0,none⟩),.func (.func 153) #[] #[.pointer (some ⟨eb,0,none⟩)]] w fun e w'=>e=.returned (.bool (Z0c (1+(Jz p (fun _=>false) r.n.id r.n.sz.toNat:Int)) r.n.sz))/\Below w.heap.size w w':=by
 have z0:=h.ci.sz0;have z1:=h.ci.sz1;obtain ⟨N,hN⟩:∃ N:Nat,r.n.sz=(N:Int):=⟨r.n.sz.toNat,by omega⟩;have hN2:r.n.sz.toNat=N:=by omega
 have HPk:Hid (∀ y q,x.f y=some q->1<=y/\y<=N/\y≠r.n.id):=fun y q e=>by have:=(h.pk y).1 (by rw [e];rfl);omega
 have HPs:Hid (∀ y:Int,1<=y->y<=N->y≠r.n.id->(x.f y).isSome=true):=fun y h1 h2 h3=>(h.pk y).2 ⟨hro,h1,by omega,h3⟩
 have HPM:Hid (IM ptV w x.pm x.f):=h.pm;have c19:w.cell? ⟨b,19,none⟩=some (.map (some x.pm)):=h.blk.cell 19;have hlt:=h.lt;have HR:Hid _:=h;have HPp:Hid (∀ z y q,Below w.heap.size w z->x.f y=some q->Calls Tryz.prog 153 #[.pointer (some ⟨q,0,none⟩),.pointer (some ⟨eb,0,none⟩)] z fun e w'=>e=.returned (.bool (p y))/\Below z.heap.size z w'):=HP;have HPl:Hid (∀ z,Below w.heap.size w z->z.cell? ⟨b,1,none⟩=some (.int .i64 (N:Int))):=fun z hz=>by rw [<-hN];exact (h.below hz).blk.cell 1
 have hpm:=h.pm.lt;rw [hN2];have HM:Hid (∀ k:Nat,majB (1+(k:Int)) (N:Int)=Z0c (1+(k:Int)) r.n.sz):=fun k=>by have h9:=majB_P (k+1) (N:Int);push_cast at h9;rw [hN,show (1+(k:Int))=(k:Int)+1 by omega];exact h9
 have hn3:3<=N:=by omega
 have hn7:N<=7:=by omega
 obtain ⟨MQ,hMQ⟩:∃ MQ,MQ=Z0c (1+(Jz p (fun _=>false) r.n.id N:Int)) r.n.sz:=⟨_,rfl⟩;rw [<-hMQ];have HMQ:Hid (MQ=Z0c (1+(Jz p (fun _=>false) r.n.id N:Int)) r.n.sz):=hMQ;clear h HP hN hN2 hMQ;go_enter Tryz.func154,Tryz.ntmps154
 go_wp2_with (first
  |(at_range;refine Z2o _ rfl _ 78 rfl 126 Tryz.underlying78 x.pm rfl HPM.out ?_;intro w1 cnt1 hr1 hg1 hs1;have HR1:Hid (IR ptV w1 x.pm w.heap.size x.f (fun y=>(x.f y).isSome) cnt1):=hr1;have HB1:Hid (Below w.heap.size w w1):=⟨hg1.os,hg1.tape,hg1.output,hg1.size,fun k hk=>hg1.block k hk (by simp)⟩;clear hr1 hg1 hs1))
 go_frame
 go_loopw [5,7] (fun cv sv wr=>∃(lf:Int->Bool) (cnt:Nat),cv=.int .i64 (1+(Jz p lf r.n.id N:Int))/\IR ptV wr x.pm w.heap.size x.f lf cnt/\Below w.heap.size w wr/\(∀ y,lf y=true->∃ q,x.f y=some q)) (fun _ _ wr=>wr.rangeLeft x.pm w.heap.size)
 case atStart=>exact ⟨_,_,by rw [cntL_none p _ r.n.id N (fun y h1 h2 h3=>HPs.out y h1 h2 h3)];rfl,HR1.out,HB1.out,fun y hy=>Option.isSome_iff_exists.1 hy⟩
 case round=>
  obtain ⟨lf,cnt,rfl,hIR,hB,hlf⟩:=hrel;have HIR:Hid (IR ptV wr x.pm w.heap.size x.f lf cnt):=hIR;have HB:Hid _:=hB;have hcl:=cntL_le p lf r.n.id N;have HLf:Hid (∀ y,lf y=true->∃ q,x.f y=some q):=hlf;clear hIR hB hlf;obtain ⟨C,hC⟩:∃ C:Nat,C=Jz p lf r.n.id N:=⟨_,rfl⟩;rw [<-hC] at hcl ⊢;have HC:Hid (C=Jz p lf r.n.id N):=hC;clear hC;have HIRo:Hid (wr.rangeLeft x.pm w.heap.size=cnt):=HIR.out.left_eq;rcases HIR.out.next 0 with ⟨h0,hl,hrun⟩ | ⟨y,q,w2,cnt2,hly,hfy,hIR2,hlt2,hg2,hs2,hrun,hen2⟩
  ·have HCf:Hid (C=Jz p (fun _=>false) r.n.id N):=by
    unfold Hid;rw [HC.out];congr 1
    funext y
    exact hl y
   have d1:=HPl.out wr HB.out;have HMj:Hid (∀ z,Calls Tryz.prog 112 #[.int .i64 (1+(C:Int)),.int .i64 (N:Int)] z fun e w'=>e=.returned (.bool MQ)/\w'=z):=fun z=>by rw [HMQ.out,<-HCf.out,<-HM.out C];exact Jx _ _ (by omega) (by omega) z
   clear hl h0
   go_wp2_with (first
    |(go_at_call 112;refine Calls.mono (HMj.out _) ?_;rintro e w5 ⟨rfl,hw⟩;obtain rfl:=hw.symm;clear hw))
   go_ret;exact ⟨rfl,HB.out⟩
  ·have HI2:Hid (IR ptV w2 x.pm w.heap.size x.f (fun z=>lf z && !(z == y)) cnt2):=hIR2
   have HB2:Hid (Below w.heap.size w w2):=HB.out.grown hg2 HB.out.size (fun k e=>by injection e with e;omega);have hy:=HPk.out y q hfy;have HSt:Hid (Jz p (fun z=>lf z && !(z == y)) r.n.id N=C+if p y=true then 1 else 0):=by unfold Hid;rw [HC.out];exact cntL_step p lf r.n.id y hy.1 hy.2.2 hly N hy.2.1
   have HCt:Hid (cnt2<cnt):=hlt2;have HCl:Hid (∀ z,Below w.heap.size w z->Calls Tryz.prog 153 #[.pointer (some ⟨q,0,none⟩),.pointer (some ⟨eb,0,none⟩)] z fun e w'=>e=.returned (.bool (p y))/\Below z.heap.size z w'):=fun z hz=>HPp.out z y q hz hfy
   have HLf2:Hid (∀ z,(lf z && !(z == y))=true->∃ q,x.f z=some q):=fun z hz=>HLf.out z (by rw [Bool.and_eq_true] at hz;exact hz.1)
   unfold ptV at hrun hen2;clear hIR2 hlt2 hg2 hs2 hly hfy hy;generalize p y=py at *;cases py
   ·go_wp2_with (first
     |(go_at_call 153;refine Calls.mono (HCl.out _ HB2.out) ?_;rintro e w3 ⟨rfl,hb3⟩;have HB3:Hid (Below w.heap.size w w3):=HB2.out.trans (hb3.mono HB2.out.size);have HI3:Hid (IR ptV w3 x.pm w.heap.size x.f (fun z=>lf z && !(z == y)) cnt2):=HI2.out.keep (hb3.block _ HI2.out.im.lt) (hb3.block _ HI2.out.lt);clear hb3))
    go_roundw
    case rel=>exact ⟨_,cnt2,by rw [HSt.out];simp,HI3.out,HB3.out,HLf2.out⟩
    case measure=>rw [HI3.out.left_eq,HIRo.out];exact HCt.out
   ·have hwr:IntKind.i64.wrap (1+(C:Int)+1)=1+(C:Int)+1:=by rw [IntKind.wrap_i64];omega
    go_wp2_with (first
     |(go_at_call 153;refine Calls.mono (HCl.out _ HB2.out) ?_;rintro e w3 ⟨rfl,hb3⟩;have HB3:Hid (Below w.heap.size w w3):=HB2.out.trans (hb3.mono HB2.out.size);have HI3:Hid (IR ptV w3 x.pm w.heap.size x.f (fun z=>lf z && !(z == y)) cnt2):=HI2.out.keep (hb3.block _ HI2.out.im.lt) (hb3.block _ HI2.out.lt);clear hb3))
    go_roundw
    case rel=>exact ⟨_,cnt2,by rw [HSt.out];simp;omega,HI3.out,HB3.out,HLf2.out⟩
    case measure=>rw [HI3.out.left_eq,HIRo.out];exact HCt.out
end Go.Proofs.YtmmpoppgabadmaaGreat
namespace Go.Proofs.YtmmpoppgabadmaaGreat
open Go.RowKit Go.Maps
def Z2f (n:Nd)(y:Int):Bool:=decide (n.nw-n.se.getD (y-1).toNat 0<n.el)
theorem heard_cnt (n:Nd):∀ k,Jz (Z2f n) (fun _=>false) n.id k=Yh n k
 | 0=>rfl
 | k+1=>by
  rw [Jz,Yh,heard_cnt n k];congr 1;unfold Z2f;rw [show ((k:Int)+1-1).toNat=k by omega];by_cases h1:(k:Int)+1=n.id <;> by_cases h2:n.nw-n.se.getD k 0<n.el <;> simp [h1,h2]
theorem heard1_any (b:Nat)(r:Rn)(x:CV)(eb:Nat)(w:World)(B:Nat)(h:Zj w B b r x)(he:Blk w eb #[.pointer (some ⟨b,0,none⟩)] 74)(y:Int)(q:Nat)(hq:x.f y=some q)(hn0:0<=r.n.nw)(hn1:r.n.nw<=1099511627776)(hs0:0<=r.n.se.getD (y-1).toNat 0)(hs1:r.n.se.getD (y-1).toNat 0<=r.n.nw) :
  Calls Tryz.prog 153 #[.pointer (some ⟨q,0,none⟩),.pointer (some ⟨eb,0,none⟩)] w fun e w'=>e=.returned (.bool (Z2f r.n y))/\Below w.heap.size w w':=by
 have c9:w.cell? ⟨b,9,none⟩=some (.int .i64 r.n.nw):=h.blk.cell 9;have c2:w.cell? ⟨b,2,none⟩=some (.int .i64 r.n.el):=h.blk.cell 2;have ce:w.cell? ⟨eb,0,none⟩=some (.pointer (some ⟨b,0,none⟩)):=he.cell 0;have cq:w.cell? ⟨q,2,none⟩=some (.int .i64 (r.n.se.getD (y-1).toNat 0)):=(h.pf y q hq).1.cell 2;have HQ:Hid (Z2f r.n y=decide (r.n.nw-r.n.se.getD (y-1).toNat 0<r.n.el)):=rfl;clear h he hq;generalize Z2f r.n y=hp at *;generalize r.n.se.getD (y-1).toNat 0=S at *;have hw:IntKind.i64.wrap (r.n.nw-S)=r.n.nw-S:=by rw [IntKind.wrap_i64];omega
 rw [HQ.out];clear HQ;go_enter Tryz.func153,Tryz.ntmps153;go_wp2;go_quiet (fail)
 go_wp2;go_ret;exact ⟨rfl,Xv _ _ _⟩
def Rn.tickL (r:Rn):Rn:=if Z0c (1+(Yh r.n r.n.sz.toNat:Int)) r.n.sz=true then r.beatK r.n.sz.toNat else r.lone.timer
def Rn.beat1 (r:Rn)(k:Nat)(a:Rn):Rn:=if r.n.bt<=r.n.nw-a.n.st.getD k 0 then a.sendE k else a
theorem Z3b (r:Rn)(k:Nat):Rn.beatK (k+1) r=if (k:Int)+1=r.n.id then Rn.beatK k r else r.beat1 k (Rn.beatK k r):=by
 rw [Rn.beatK];unfold Rn.beat1;by_cases h1:(k:Int)+1=r.n.id
 ·rw [if_pos h1,if_neg (fun h=>h.1 h1)]
 ·rw [if_neg h1]
  by_cases h2:r.n.bt<=r.n.nw-(Rn.beatK k r).n.st.getD k 0
  ·rw [if_pos ⟨h1,h2⟩,if_pos h2]
  ·rw [if_neg (fun h=>h2 h.2),if_neg h2]
theorem Z3e (b:Nat)(r:Rn)(x:CV)(w:World)(B:Nat)(h:Zj w B b r x)(hro:r.n.ro=3)(hd : -(2^63)<=r.draw)(hD:r.draw<2^63)(hn0:0<=r.n.nw)(hn1:r.n.nw<=1099511627776)(hLt:LdT r.n r.n.sz.toNat)(hll:r.n.log.length<=4096)(hl:x.L.length<=900) :
  Calls Tryz.prog 127 #[.pointer (some ⟨b,0,none⟩)] w fun e w'=>e=.returned (.tuple #[])/\∃ x',Zj w' B b r.tickL x'/\Tch b w x w' x':=by
 have HR:Hid _:=h;obtain ⟨W,hW⟩:∃ W,W=w.alloc (.cells #[.pointer (some ⟨b,0,none⟩)] 74):=⟨_,rfl⟩;have HB:Hid (Below w.heap.size w W):=by unfold Hid;rw [hW];exact Below.alloc0 _
 have HE:Hid (Blk W w.heap.size #[.pointer (some ⟨b,0,none⟩)] 74):=by unfold Hid;rw [hW];exact Blk.new _ _ _
 have HCW:Hid (Zj W B b r x):=h.below HB.out;have i0:=h.ci.id0;have i1:=h.ci.id1;have z0:=h.ci.sz0;have z1:=h.ci.sz1
 have HSu:Hid (Calls Tryz.prog 154 #[.pointer (some ⟨b,0,none⟩),.func (.func 153) #[] #[.pointer (some ⟨w.heap.size,0,none⟩)]] W fun e w'=>e=.returned (.bool (Z0c (1+(Yh r.n r.n.sz.toNat:Int)) r.n.sz))/\Below W.heap.size W w'):=by
  unfold Hid;rw [<-heard_cnt];refine Z2u b r x w.heap.size (Z2f r.n) W B HCW.out hro fun z y q hz hq=>?_
  have hp:=(HCW.out.pk y).1 (by rw [hq];rfl)
  have hse:r.n.se.getD (y-1).toNat 0∈r.n.se:=by
   rw [List.getD_eq_getElem?_getD,List.getElem?_eq_getElem (by rw [hLt.sel];omega)];exact List.getElem_mem _
  have:=hLt.se _ hse;exact heard1_any b r x w.heap.size z B (HCW.out.below hz) (HE.out.below hz HE.out.lt) y q hq hn0 hn1 this.1 this.2
 have c1:∀ z,Below W.heap.size W z->z.cell? ⟨w.heap.size,0,none⟩=some (.pointer (some ⟨b,0,none⟩)):=fun z hz=>(HE.out.below hz HE.out.lt).cell 0
 have HC1:Hid (∀ z,Below W.heap.size W z->z.cell? ⟨w.heap.size,0,none⟩=some (.pointer (some ⟨b,0,none⟩))):=c1;have cW:=c1 W (Below.refl _ _);have hE1:∀ z x',Tch b W x z x'->z.cell? ⟨w.heap.size,0,none⟩=some (.pointer (some ⟨b,0,none⟩)):=fun z x' ht=>(ht.blk HE.out (HCW.out.hasnt HE.out (by decide) (by decide) (by decide) (by decide))).cell 0
 have HE1:Hid (∀ z x',Tch b W x z x'->z.cell? ⟨w.heap.size,0,none⟩=some (.pointer (some ⟨b,0,none⟩))):=hE1;cases hm:Z0c (1+(Yh r.n r.n.sz.toNat:Int)) r.n.sz
 ·have HQ:Hid (r.tickL=r.lone.timer):=by unfold Hid Rn.tickL;rw [hm];rfl
  rw [HQ.out];rw [hm] at HSu;have HFo:Hid (∀ z,Below W.heap.size W z->Calls Tryz.prog 155 #[.pointer (some ⟨b,0,none⟩),.int .i64 0] z fun e w'=>e=.returned (.tuple #[])/\Zj w' B b r.lone x.lone/\Tch b z x w' x.lone):=fun z hz=>Z2w b r x 0 z B (HCW.out.below hz)
  have HTm:Hid (∀ z,Zj z B b r.lone x.lone->Calls Tryz.prog 156 #[.pointer (some ⟨b,0,none⟩)] z fun e w'=>e=.returned (.tuple #[])/\Zj w' B b r.lone.timer x.lone/\Tch b z x.lone w' x.lone):=fun z hz=>Z0j b r.lone x.lone z B hz hd hD hn0 hn1
  clear h c1 hE1 hm HQ hLt;generalize r.lone.timer=RT at *;generalize r.lone=RL at *;go_enter Tryz.func127,Tryz.ntmps127
  go_upto_region 1 with fail
  rw [<-hW];clear hW
  go_wp2_with (first
   |(go_at_call 154;refine Calls.mono HSu.out ?_;rintro e w1 ⟨rfl,hb1⟩;have HB1:Hid _:=hb1;have c2:=HC1.out w1 hb1;clear hb1)
   |(go_at_call 155;refine Calls.mono (HFo.out _ HB1.out) ?_;rintro e w2 ⟨rfl,h2,t2⟩;have H2:Hid _:=h2;have T2:Hid (Tch b W x w2 x.lone):=Tch.head HB1.out t2;have c3:=HE1.out w2 _ T2.out;clear h2 t2)
   |(go_at_call 156;refine Calls.mono (HTm.out _ H2.out) ?_;rintro e w3 ⟨rfl,h3,t3⟩;have H3:Hid _:=h3;have T3:Hid (Tch b W x w3 x.lone):=T2.out.trans t3;clear h3 t3))
  (try simp only [Exit.inBlock,Exit.then])
  first
   | exact bodyPost_end (results_none rfl _ _ _) rfl ⟨rfl,_,H3.out,Tch.head HB.out T3.out⟩
   | exact bodyPost_ret (results_none rfl _ _ _) rfl ⟨rfl,_,H3.out,Tch.head HB.out T3.out⟩
 ·have HQ:Hid (r.tickL=r.beatK r.n.sz.toNat):=by unfold Hid Rn.tickL;rw [hm];rfl
  rw [HQ.out];rw [hm] at HSu;obtain ⟨N,hN⟩:∃ N:Nat,r.n.sz=(N:Int):=⟨r.n.sz.toNat,by omega⟩;have hN2:r.n.sz.toNat=N:=by omega
  have hfull:=Z24 r.n.id r.n.sz i0 i1;have hkf:=kI_full r.n.id r.n.sz i0 i1;have hkl:=fun i=>kI_lt r.n.id r.n.sz i i0 i1
  rw [hN2] at hfull hkf hkl hLt ⊢;have HG:Hid (∀ i (hi:i<(oth r.n.id N).length),(oth r.n.id N)[i]=(kI r.n.id i:Int)+1):=Z21 r.n.id i0 N;have HKf:Hid (kI r.n.id (N-1)=N):=hkf;have HFl:Hid ((oth r.n.id N).length=N-1):=hfull;have HKl:Hid (∀ i,i<N-1->(kI r.n.id i:Int)+1<=r.n.sz/\(kI r.n.id i:Int)+1≠r.n.id):=hkl;have HF:Hid (∀ i,Rn.beatK (kI r.n.id (i+1)) r=r.beat1 (kI r.n.id i) (Rn.beatK (kI r.n.id i) r)):=oth_fold r.n.id (fun k=>Rn.beatK k r) (fun k a=>r.beat1 k a) (Z3b r);have HZ:Hid (Rn.beatK (kI r.n.id 0) r=r):=oth_zero r.n.id i0 (fun k=>Rn.beatK k r) (fun k a=>r.beat1 k a) (Z3b r);have HSn:Hid (∀ k,∃ s,(Rn.beatK k r).n={ r.n with st:=s }/\s.length=r.n.st.length/\∀ y∈s,0<=y/\y<=r.n.nw):=beatK_n r hn0 hLt.st;have HLd:Hid (LdB r.n N):=hLt.ldb;have HN:Hid (r.n.sz=(N:Int)):=hN;have hn3:3<=N:=by omega
  have hn7:N<=7:=by omega
  have HOt:Hid (∀ z,Below W.heap.size W z->Calls Tryz.prog 81 #[.pointer (some ⟨b,0,none⟩)] z fun e w'=>∃ a c,e=.returned (.slice a (N-1) c)/\Zg inC 1 3 w' z.heap.size (.slice a (N-1) c) (oth r.n.id N)/\Below z.heap.size z w'):=fun z hz=>by
   have h9:=Z2y b r x z B (HCW.out.below hz);rw [hN2] at h9;exact h9
  clear h c1 hE1 hm HQ hLt hfull hkf hkl hN hN2 i0 i1 z0 z1;go_enter Tryz.func127,Tryz.ntmps127
  go_upto_region 1 with fail
  rw [<-hW];clear hW
  go_wp2_with (first
   |(go_at_call 154;refine Calls.mono HSu.out ?_;rintro e w1 ⟨rfl,hb1⟩;have HB1:Hid _:=hb1;have c2:=HC1.out w1 hb1;clear hb1)
   |(go_at_call 81;refine Calls.mono (HOt.out _ HB1.out) ?_;rintro e w2 ⟨oa,oc,rfl,ho2,hb2⟩;have HO2:Hid (Zg inC 1 3 w2 w1.heap.size (.slice oa (N-1) oc) (oth r.n.id N)):=ho2;have HB2:Hid (Below W.heap.size W w2):=HB1.out.trans (hb2.mono HB1.out.size);clear ho2 hb2))
  go_loopw [4,17] (fun sj iv wr=>∃(i:Nat) (xi:CV),i<=N-1/\iv=.int .i64 (i:Int)/\xi.L.length<=x.L.length+i/\Zj wr B b (Rn.beatK (kI r.n.id i) r) xi/\Tch b W x wr xi/\Zg inC 1 3 wr w1.heap.size (.slice oa (N-1) oc) (oth r.n.id N)) (fun _ iv _=>N-(RowKit.intOf iv).toNat)
  case atStart=>exact ⟨0,x,by omega,rfl,by omega,by rw [HZ.out];exact HCW.out.below HB2.out,Tch.below0 _ _ HB2.out,HO2.out⟩
  case round=>
   obtain ⟨i,xi,hi,rfl,hxl,hC,hT,hO⟩:=hrel;obtain ⟨wq,hwq⟩:∃ z,z=wr:=⟨_,rfl⟩;rw [<-hwq] at hC hT hO;subst hwq;have HC:Hid _:=hC;have HT:Hid _:=hT;have HO:Hid (Zg inC 1 3 wq w1.heap.size (.slice oa (N-1) oc) (oth r.n.id N)):=hO;by_cases hlt:i<N-1
   ·obtain ⟨g,off,rfl,hc⟩:=in_at HO.out (by rw [HFl.out];omega) i (by rw [HFl.out];omega)
    rw [HG.out] at hc;have h1d:decide ((i:Int)<((N-1:Nat):Int))=true:=decide_eq_true (by omega);have h1:(i:Int)<((N-1:Nat):Int):=by omega
    obtain ⟨hk1,hk2⟩:=HKl.out i hlt;obtain ⟨s,hs1,hs2,hs3⟩:=HSn.out (kI r.n.id i);obtain ⟨P,hP1,hP2⟩:=HLd.out.nx (kI r.n.id i) (by rw [HLd.out.nxl];have:=HN.out;omega) hk2;have hPd:r.n.nx.getD (kI r.n.id i) 0=(P:Int)+1:=by rw [List.getD_eq_getElem?_getD,List.getElem?_eq_getElem (by rw [HLd.out.nxl];have:=HN.out;omega),hP2];rfl
    clear hP2;obtain ⟨J,hJ⟩:∃ J,J=kI r.n.id i:=⟨_,rfl⟩;have hFi:=HF.out i;rw [<-hJ] at hC hc hk1 hk2 hs1 hPd hFi;obtain ⟨q,hq⟩:=Option.isSome_iff_exists.1 ((hC.pk ((J:Int)+1)).2 ⟨by rw [hs1];exact hro,by omega,by rw [hs1];exact hk1,by rw [hs1];exact hk2⟩);have hb19:=hC.blk.cell 19;have e19:wq.cell? ⟨b,19,none⟩=some (.map (some xi.pm)):=hb19;have e9:wq.cell? ⟨b,9,none⟩=some (.int .i64 r.n.nw):=by have h9:=hC.blk.cell 9;unfold crC at h9;rw [hs1] at h9;exact h9
    have e3:wq.cell? ⟨b,3,none⟩=some (.int .i64 r.n.bt):=by have h9:=hC.blk.cell 3;unfold crC at h9;rw [hs1] at h9;exact h9
    have e0:wq.cell? ⟨w.heap.size,0,none⟩=some (.pointer (some ⟨b,0,none⟩)):=HE1.out wq xi hT;obtain ⟨S,hS⟩:∃ S,S=(Rn.beatK J r).n.st.getD J 0:=⟨_,rfl⟩
    have hSb:0<=S/\S<=r.n.nw:=by
     rw [hS,hs1];show 0<=s.getD J 0/\s.getD J 0<=r.n.nw;by_cases hJs:J<s.length
     ·rw [List.getD_eq_getElem?_getD,List.getElem?_eq_getElem hJs]
      exact hs3 _ (List.getElem_mem _)
     ·rw [List.getD_eq_getElem?_getD,List.getElem?_eq_none (by omega)]
      exact ⟨Int.le_refl _,hn0⟩
    have eq3:wq.cell? ⟨q,3,none⟩=some (.int .i64 S):=by
     have h9:=(hC.pf _ q hq).1.cell 3;unfold pgC at h9;rw [show ((J:Int)+1-1).toNat=J by omega,<-hS] at h9;exact h9
    have hlk:∀ n,(Instr.lookup 78 (.map (some xi.pm)) (.int .i64 ((J:Int)+1)) false).run Tryz.prog (wq.drewN n)=.ok (.pointer (some ⟨q,0,none⟩)) (wq.drewN n):=fun n=>Z38 _ Tryz.underlying78 (zeroPt _) (hC.pm.below (Xv _ _ n)) (wf3 (by omega) (by have:=HN.out;omega)) _ (by rw [hq];rfl)
    have hlk0:(Instr.lookup 78 (.map (some xi.pm)) (.int .i64 ((J:Int)+1)) false).run Tryz.prog wq=.ok (.pointer (some ⟨q,0,none⟩)) wq:=hlk 0;have hwS:IntKind.i64.wrap (r.n.nw-S)=r.n.nw-S:=by rw [IntKind.wrap_i64];omega
    have HSe:Hid (∀ z,Below wq.heap.size wq z->Calls Tryz.prog 157 #[.pointer (some ⟨b,0,none⟩),.int .i64 ((J:Int)+1)] z fun e w'=>e=.returned (.tuple #[])/\∃ v m',Zj w' B b ((Rn.beatK J r).sendE J) (xi.sent v m')/\Tch b z xi w' (xi.sent v m')):=fun z hz=>by
     have h9:=Z2v b (Rn.beatK J r) xi ((J:Int)+1) P z B (hC.below hz) (by rw [hs1];exact hro) (by omega) (by rw [hs1];exact hk1) (by rw [hs1];exact hk2) (by
      rw [hs1];show r.n.nx.getD ((J:Int)+1-1).toNat 0=_;rw [show ((J:Int)+1-1).toNat=J by omega];exact hPd) (by rw [hs1];exact hP1) (by rw [hs1];exact hll) (by omega)
     rw [show ((J:Int)+1-1).toNat=J by omega] at h9;exact h9
    have HCq:Hid _:=hC;unfold Rn.beat1 at hFi;rw [<-hS] at hFi;by_cases hbt:r.n.bt<=r.n.nw-S
    ·rw [if_pos hbt] at hFi
     have HFi:Hid _:=hFi;have hbd:decide (r.n.bt<=r.n.nw-S)=true:=decide_eq_true hbt;clear hC hT hO hFi hS hs1 hs2 hs3 hP1 hPd hk1 hk2 hJ hq hb19 HC;generalize (J:Int)+1=y at *
     go_upto_region 8 with fail
     go_quiet (fail)
     have e0n:∀ nq,(wq.drewN nq).cell? ⟨w.heap.size,0,none⟩=some (.pointer (some ⟨b,0,none⟩)):=fun nq=>e0
     go_wp2_with (first
      |(go_at_call 157;refine Calls.mono (HSe.out _ (Xv _ _ _)) ?_;rintro e w5 ⟨rfl,v5,m5,h5,t5⟩;have H5:Hid (Zj w5 B b (Rn.beatK (kI r.n.id (i+1)) r) (xi.sent v5 m5)):=(by unfold Hid;rw [HFi.out];exact h5);have T5:Hid (Tch b W x w5 (xi.sent v5 m5)):=HT.out.trans (Tch.head (Xv _ _ _) t5);have O5:Hid (Zg inC 1 3 w5 w1.heap.size (.slice (some ⟨g,off,none⟩) (N-1) oc) (oth r.n.id N)):=HO.out.tch HCq.out (Tch.head (Xv _ _ _) t5) (by decide) (by decide) (by decide) (by decide);clear h5 t5))
     go_roundw
     case rel=>exact ⟨i+1,xi.sent v5 m5,by omega,by go_num,by show (xi.L ++ [m5]).length<=_;rw [List.length_append,List.length_singleton];omega,H5.out,T5.out,O5.out⟩
     case measure=>simp [RowKit.intOf];omega
    ·rw [if_neg hbt] at hFi
     have HFi:Hid _:=hFi;have hbd:decide (r.n.bt<=r.n.nw-S)=false:=decide_eq_false hbt;clear hC hT hO hFi hS hs1 hs2 hs3 hP1 hPd hk1 hk2 hJ hq hb19 HC;generalize (J:Int)+1=y at *
     go_upto_region 8 with fail
     go_quiet (fail)
     go_wp2_with fail
     go_roundw
     case rel=>exact ⟨i+1,xi,by omega,by go_num,by omega,by rw [HFi.out];exact HCq.out.below (Xv _ _ _),HT.out.tail (Xv _ _ _),HO.out.below (Xv _ _ _)⟩
     case measure=>simp [RowKit.intOf];omega
   ·obtain rfl:i=N-1:=by omega
    have h1d:decide (((N-1:Nat):Int)<((N-1:Nat):Int))=false:=decide_eq_false (by omega);have HC2:Hid (Zj wq B b (Rn.beatK N r) xi):=by have h9:=HC.out;rw [HKf.out] at h9;exact h9
    clear hC hT hO;go_wp2
    (try simp only [Exit.inBlock,Exit.then])
    exact bodyPost_end (results_none rfl _ _ _) rfl ⟨rfl,_,HC2.out,Tch.head HB.out HT.out⟩
end Go.Proofs.YtmmpoppgabadmaaGreat
namespace Go.Proofs.YtmmpoppgabadmaaGreat
open Go.RowKit Go.Maps
theorem Z2b (m:Mg)(r:Rn):∀ k,(Rn.allK m k r).code=r.code
 | 0=>rfl
 | k+1=>by
  rw [Rn.allK];split
  ·exact Z2b m r k
  ·exact Z2b m r k
theorem Z1j (r:Rn):∀ k,(Rn.beatK k r).code=r.code
 | 0=>rfl
 | k+1=>by
  rw [Rn.beatK];split
  ·exact Z1j r k
  ·exact Z1j r k
theorem askFirst_code (r:Rn):r.askFirst.code=r.code:=by
 unfold Rn.askFirst;split
 ·rfl
 ·exact Z2b _ _ _
theorem tickL_code (r:Rn):r.tickL.code=r.code:=by
 unfold Rn.tickL;split
 ·exact Z1j _ _
 ·rfl
theorem Z1u (r:Rn):r.tick=if r.n.nw=1099511627776 then { r with code:=7 } else if r.n.ro=3 then Rn.tickL { r with n:={ r.n with nw:=r.n.nw+1 } } else if r.n.nw+1<r.n.dl then { r with n:={ r.n with nw:=r.n.nw+1 } } else Rn.askFirst { r with n:={ r.n with nw:=r.n.nw+1 } }:=rfl
theorem tick_any (b:Nat)(r:Rn)(x:CV)(w:World)(B:Nat)(h:Zj w B b r x)(hc:r.code=0)(ht0:0<=r.n.tm)(ht1:r.n.tm<=1073741824)(hd : -(2^63)<=r.draw)(hD:r.draw<2^63)(hn0:0<=r.n.nw)(hn1:r.n.nw<=1099511627776)(hLt:r.n.ro=3->LdT r.n r.n.sz.toNat)(hll:r.n.log.length<=4096)(hl:x.L.length<=900) :
  Calls Tryz.prog 83 #[.pointer (some ⟨b,0,none⟩)] w fun e w'=>e=.returned (.int .i64 r.tick.code)/\∃ x',Zj w' B b r.tick x'/\Tch b w x w' x':=by
 have HR:Hid _:=h;have c9:w.cell? ⟨b,9,none⟩=some (.int .i64 r.n.nw):=h.blk.cell 9;have f9:w.frozen? ⟨b,9,none⟩=false:=h.blk.free 9;by_cases hnm:r.n.nw=1099511627776
 ·have HQ:Hid (r.tick={ r with code:=7 }):=by unfold Hid;rw [Z1u,if_pos hnm]
  rw [HQ.out];have hb:(r.n.nw == 1099511627776)=true:=by simpa using hnm
  clear h HQ hnm;go_enter Tryz.func83,Tryz.ntmps83;go_wp2;go_ret;exact ⟨rfl,x,HR.out.re (r':={ r with code:=7 }) (kp':=x.kp) HR.out.blk (fun _ _ _=>rfl) rfl rfl rfl rfl rfl rfl rfl rfl rfl Iff.rfl,Tch.refl _ _ _⟩
 have hnb:(r.n.nw == 1099511627776)=false:=by simpa using hnm
 have hwr:IntKind.i64.wrap (r.n.nw+1)=r.n.nw+1:=by rw [IntKind.wrap_i64];omega
 obtain ⟨R1,hR1⟩:∃ R1:Rn,R1={ r with n:={ r.n with nw:=r.n.nw+1 } }:=⟨_,rfl⟩;have HC1:Hid (Zj (w.setCell ⟨b,9,none⟩ (.int .i64 (r.n.nw+1))) B b R1 x):=by unfold Hid;rw [hR1];exact h.set 9 _ rfl rfl rfl rfl rfl rfl rfl rfl rfl rfl Iff.rfl
 have HT1:Hid (Tch b w x (w.setCell ⟨b,9,none⟩ (.int .i64 (r.n.nw+1))) x):=Tch.set _ _ _ _ _;have e6:(w.setCell ⟨b,9,none⟩ (.int .i64 (r.n.nw+1))).cell? ⟨b,6,none⟩=some (.int .i64 r.n.ro):=by have h9:=HC1.out.blk.cell 6;rw [hR1] at h9;exact h9
 have e9:(w.setCell ⟨b,9,none⟩ (.int .i64 (r.n.nw+1))).cell? ⟨b,9,none⟩=some (.int .i64 (r.n.nw+1)):=by have h9:=HC1.out.blk.cell 9;rw [hR1] at h9;exact h9
 have e10:(w.setCell ⟨b,9,none⟩ (.int .i64 (r.n.nw+1))).cell? ⟨b,10,none⟩=some (.int .i64 r.n.dl):=by have h9:=HC1.out.blk.cell 10;rw [hR1] at h9;exact h9
 have hk1:R1.code=0:=by rw [hR1];exact hc
 by_cases hro:r.n.ro=3
 ·have HQ:Hid (r.tick=R1.tickL):=by unfold Hid;rw [Z1u,if_neg hnm,if_pos hro,hR1]
  have HK:Hid (R1.tickL.code=0):=(tickL_code _).trans hk1;have hrb:(r.n.ro == 3)=true:=by simpa using hro
  have hL:=hLt hro
  have HTl:Hid (Calls Tryz.prog 127 #[.pointer (some ⟨b,0,none⟩)] (w.setCell ⟨b,9,none⟩ (.int .i64 (r.n.nw+1))) fun e w'=>e=.returned (.tuple #[])/\∃ x',Zj w' B b R1.tickL x'/\Tch b (w.setCell ⟨b,9,none⟩ (.int .i64 (r.n.nw+1))) x w' x'):=by
   refine Z3e b R1 x _ B HC1.out (by rw [hR1];exact hro) (by rw [hR1];exact hd) (by rw [hR1];exact hD) (by rw [hR1];show 0<=r.n.nw+1;omega) (by rw [hR1];show r.n.nw+1<=_;omega) ?_ (by rw [hR1];exact hll) hl;rw [hR1];exact ⟨⟨hL.ldb.nxl,hL.ldb.stl,hL.ldb.nx⟩,hL.sel,fun y hy=>⟨(hL.se y hy).1,by have:=(hL.se y hy).2;show y<=r.n.nw+1;omega⟩,fun y hy=>⟨(hL.st y hy).1,by have:=(hL.st y hy).2;show y<=r.n.nw+1;omega⟩⟩
  rw [HQ.out];rw [HK.out];clear h HQ hnm hro hR1 hL hLt HC1 HR;generalize R1.tickL=RT at *;go_enter Tryz.func83,Tryz.ntmps83
  go_wp2_with (first
   |(go_at_call 127;refine Calls.mono HTl.out ?_;rintro e w2 ⟨rfl,x2,h2,t2⟩;have H2:Hid _:=h2;have T2:Hid (Tch b w x w2 x2):=HT1.out.trans t2;clear h2 t2))
  go_ret;exact ⟨rfl,_,H2.out,T2.out⟩
 have hrb:(r.n.ro == 3)=false:=by simpa using hro
 by_cases hdl:r.n.nw+1<r.n.dl
 ·have HQ:Hid (r.tick=R1):=by unfold Hid;rw [Z1u,if_neg hnm,if_neg hro,if_pos hdl,hR1]
  rw [HQ.out,hk1];have hdd:decide (r.n.dl<=r.n.nw+1)=false:=decide_eq_false (by omega);have hdn:¬ r.n.dl<=r.n.nw+1:=by omega
  clear h HQ hnm hro hR1 hLt HR hk1;go_enter Tryz.func83,Tryz.ntmps83
  go_upto_region 6 with fail
  generalize w.setCell ⟨b,9,none⟩ (.int .i64 (r.n.nw+1))=w1 at *;go_quiet (fail)
  go_wp2;go_ret;exact ⟨rfl,x,HC1.out.below (Xv _ _ _),HT1.out.tail (Xv _ _ _)⟩
 ·have HQ:Hid (r.tick=R1.askFirst):=by unfold Hid;rw [Z1u,if_neg hnm,if_neg hro,if_neg hdl,hR1]
  have HK:Hid (R1.askFirst.code=0):=(askFirst_code _).trans hk1;have HAf:Hid (∀ z,Zj z B b R1 x->Calls Tryz.prog 128 #[.pointer (some ⟨b,0,none⟩)] z fun e w'=>e=.returned (.tuple #[])/\∃ x',Zj w' B b R1.askFirst x'/\Tch b z x w' x'):=fun z hz=>askFirst_any b R1 x z B hz (by rw [hR1];exact ht0) (by rw [hR1];exact ht1) (by rw [hR1];exact hd) (by rw [hR1];exact hD) (by rw [hR1];show 0<=r.n.nw+1;omega) (by rw [hR1];show r.n.nw+1<=_;omega) (by rw [hR1];exact hll) hl
  rw [HQ.out,HK.out];have hdd:decide (r.n.dl<=r.n.nw+1)=true:=decide_eq_true (by omega);have hdn:r.n.dl<=r.n.nw+1:=by omega
  clear h HQ hnm hro hR1 hLt HR hk1;generalize R1.askFirst=RT at *;go_enter Tryz.func83,Tryz.ntmps83
  go_upto_region 6 with fail
  generalize w.setCell ⟨b,9,none⟩ (.int .i64 (r.n.nw+1))=w1 at *;go_quiet (fail)
  go_wp2_with (first
   |(go_at_call 128;refine Calls.mono (HAf.out _ (HC1.out.below (Xv _ _ _))) ?_;rintro e w2 ⟨rfl,x2,h2,t2⟩;have H2:Hid _:=h2;have T2:Hid (Tch b w x w2 x2):=(HT1.out.tail (Xv _ _ _)).trans t2;clear h2 t2))
  go_ret;exact ⟨rfl,_,H2.out,T2.out⟩
end Go.Proofs.YtmmpoppgabadmaaGreat
