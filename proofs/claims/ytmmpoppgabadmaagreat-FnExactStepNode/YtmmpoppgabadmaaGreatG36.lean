import Derived.Test.YtmmpoppgabadmaaGreatG35
import Derived.Test.YtmmpoppgabadmaaGreatG06
set_option linter.unusedVariables false
set_option linter.unusedSimpArgs false
set_option maxRecDepth 100000
set_option maxHeartbeats 16000000
namespace Go.Proofs.YtmmpoppgabadmaaGreat
open Go.RowKit
theorem Z0.hasntC {w:World}{B b:Nat}{r:Rn}{x:CV}(h:Z0 w B b r x){q:Nat}{C:Array Value}{t:TypeId}{s:Nat×Nat}(hq:w.heap[q]? = some (.cells C t s))(h1:t≠80)(h2:t≠124)(h3:t≠118)(h4:t≠43):¬ x.has b q:=by
 obtain ⟨ge,gc,hg⟩:=h.gm.obj;obtain ⟨pe,pc,hp⟩:=h.pm.obj;rintro (rfl | rfl | rfl | ⟨y,e⟩ | e | e)
 ·exact h1 (Yn hq h.blk)
 ·exact hmap hq hg
 ·exact hmap hq hp
 ·exact h2 (Yn hq (h.pf y _ e).1)
 ·obtain ⟨cur,s,e2⟩:=Jm h.log e
  exact h3 (Yn hq e2)
 ·obtain ⟨cur,s,e2⟩:=Z1p h.out e
  exact h4 (Yn hq e2)
theorem Z6.tch {α:Type}{cs:α->List Value}{m:Nat}{T:TypeId}{w w':World}{B B' b:Nat}{r:Rn}{x x':CV}{v:Value}{l:List α}(ho:Z6 cs m T w B' v l)(h:Z0 w B b r x)(ht:Tch b w x w' x')(h1:T≠80)(h2:T≠124)(h3:T≠118)(h4:T≠43):Z6 cs m T w' B' v l:=
 ho.block fun k e=>by
  obtain ⟨cur,s,hk⟩:=Z1p ho e;exact ht.block k (ho.lts k e).2 (h.hasntC hk h1 h2 h3 h4)
theorem kI_full (id sz:Int)(h:1<=id)(h2:id<=sz):kI id (sz.toNat-1)=sz.toNat:=by
 unfold kI;rw [if_neg (by omega)];omega
theorem in_at {w:World}{B:Nat}{a:Option Addr}{n c:Nat}{l:List Int}(h:Z6 inC 1 3 w B (.slice a n c) l)(hl:l.length<=1000000)(i:Nat)(hi:i<l.length):∃ g off,a=some ⟨g,off,none⟩/\w.cell? ⟨g,off+i,none⟩=some (.int .i64 l[i]):=by
 obtain ⟨-,a',c',e,hc⟩:=ix_sl (Z6.sl Z1d h (by unfold maxLen;omega));simp only [Value.slice.injEq] at e;obtain ⟨rfl,-,rfl⟩:=e;obtain ⟨b,off,rfl,hj⟩:=hc i hi;exact ⟨b,off,rfl,hj i hi⟩
theorem Z4n (b:Nat)(r:Rn)(x:CV)(w:World)(B:Nat)(h:Z0 w B b r x)(hro:r.n.ro=3)(hLd:LdB r.n r.n.sz.toNat)(hll:r.n.log.length<=4096)(hl:x.L.length<=900) :
  Calls Tryz.prog 137 #[.pointer (some ⟨b,0,none⟩)] w fun e w'=>e=.returned (.tuple #[])/\∃ x',Z0 w' B b r.sendAll x'/\Tch b w x w' x':=by
 have HO:=Z2t b r x w B h;have i0:=h.ci.id0;have i1:=h.ci.id1;have z0:=h.ci.sz0;have z1:=h.ci.sz1;obtain ⟨N,hN⟩:∃ N:Nat,r.n.sz=(N:Int):=⟨r.n.sz.toNat,by omega⟩;have hN2:r.n.sz.toNat=N:=by omega
 have hfull:=Z1e r.n.id r.n.sz i0 i1;have hkf:=kI_full r.n.id r.n.sz i0 i1;have hkl:=fun i=>kI_lt r.n.id r.n.sz i i0 i1
 have HAll:Hid (r.sendAll=r.sendK N):=by unfold Hid Rn.sendAll;rw [hN2]
 rw [hN2] at HO hfull hLd hkf hkl;have HG:Hid (∀ i (hi:i<(oth r.n.id N).length),(oth r.n.id N)[i]=(kI r.n.id i:Int)+1):=Z1x r.n.id i0 N;have HF:Hid (∀ i,Rn.sendK (kI r.n.id (i+1)) r=(Rn.sendK (kI r.n.id i) r).sendE (kI r.n.id i)):=oth_fold r.n.id (fun k=>Rn.sendK k r) (fun k a=>a.sendE k) (fun k=>rfl);have HZ:Hid (Rn.sendK (kI r.n.id 0) r=r):=oth_zero r.n.id i0 (fun k=>Rn.sendK k r) (fun k a=>a.sendE k) (fun k=>rfl);have HSn:Hid (∀ k,∃ s,(Rn.sendK k r).n={ r.n with st:=s }/\s.length=r.n.st.length):=sendK_n r;have HLd:Hid (LdB r.n N):=hLd;have HKl:Hid (∀ i,i<N-1->(kI r.n.id i:Int)+1<=r.n.sz/\(kI r.n.id i:Int)+1≠r.n.id):=hkl;have HKf:Hid (kI r.n.id (N-1)=N):=hkf;have HFl:Hid ((oth r.n.id N).length=N-1):=hfull;have HOt:Hid _:=HO;have HR:Hid _:=h;have HN:Hid (r.n.sz=(N:Int)):=hN;have hn3:3<=N:=by omega
 have hn7:N<=7:=by omega
 clear HO hLd hkl hkf hfull h hN hN2 i0 i1 z0 z1;rw [HAll.out];go_enter Tryz.func137,Tryz.ntmps137
 go_wp2_with (first
  |(go_at_call 81;refine Calls.mono HOt.out ?_;rintro e w1 ⟨oa,oc,rfl,ho1,hb1⟩;have HO1:Hid (Z6 inC 1 3 w1 w.heap.size (.slice oa (N-1) oc) (oth r.n.id N)):=ho1;have HB1:Hid _:=hb1;clear ho1 hb1))
 go_loopw [3,7] (fun sj iv wr=>∃(i:Nat) (xi:CV),i<=N-1/\iv=.int .i64 (i:Int)/\xi.L.length<=x.L.length+i/\Z0 wr B b (r.sendK (kI r.n.id i)) xi/\Tch b w x wr xi/\Z6 inC 1 3 wr w.heap.size (.slice oa (N-1) oc) (oth r.n.id N)) (fun _ iv _=>N-(RowKit.intOf iv).toNat)
 case atStart=>exact ⟨0,x,by omega,rfl,by omega,by rw [HZ.out];exact HR.out.below HB1.out,Tch.below0 _ _ HB1.out,HO1.out⟩
 case round=>
  obtain ⟨i,xi,hi,rfl,hxl,hC,hT,hO⟩:=hrel;have HC:Hid _:=hC;have HT:Hid _:=hT;have HO:Hid (Z6 inC 1 3 wr w.heap.size (.slice oa (N-1) oc) (oth r.n.id N)):=hO;clear hC hT hO;by_cases hlt:i<N-1
  ·obtain ⟨g,off,rfl,hc⟩:=in_at HO.out (by rw [HFl.out];omega) i (by rw [HFl.out];omega)
   rw [HG.out] at hc;obtain ⟨hk1,hk2⟩:=HKl.out i hlt;obtain ⟨s,hs1,hs2⟩:=HSn.out (kI r.n.id i);have hP:=HLd.out.nx (kI r.n.id i) (by rw [HLd.out.nxl];have:=HN.out;omega) hk2;obtain ⟨P,hP1,hP2⟩:=hP
   have HS:=Jn b (r.sendK (kI r.n.id i)) xi ((kI r.n.id i:Int)+1) P wr B HC.out (by rw [hs1];exact hro) (by omega) (by rw [hs1];exact hk1) (by rw [hs1];exact hk2) (by
    rw [hs1];show r.n.nx.getD ((kI r.n.id i:Int)+1-1).toNat 0=_;rw [show ((kI r.n.id i:Int)+1-1).toNat=kI r.n.id i by omega,List.getD_eq_getElem?_getD,List.getElem?_eq_getElem (by rw [HLd.out.nxl];have:=HN.out;omega),hP2];rfl) (by rw [hs1];exact hP1) (by rw [hs1];exact hll) (by omega)
   rw [show ((kI r.n.id i:Int)+1-1).toNat=kI r.n.id i by omega,<-HF.out i] at HS;have HSe:Hid (Calls Tryz.prog 157 #[.pointer (some ⟨b,0,none⟩),.int .i64 ((kI r.n.id i:Int)+1)] wr fun e w'=>e=.returned (.tuple #[])/\∃ v m',Z0 w' B b (r.sendK (kI r.n.id (i+1))) (xi.sent v m')/\Tch b wr xi w' (xi.sent v m')):=HS;have h1d:decide ((i:Int)<((N-1:Nat):Int))=true:=decide_eq_true (by omega);have h1:(i:Int)<((N-1:Nat):Int):=by omega
   clear HS hs1 hs2 hP2 hP1;generalize (kI r.n.id i:Int)+1=y at *
   go_wp2_with (first
    |(go_at_call 157;refine Calls.mono HSe.out ?_;rintro e w2 ⟨rfl,v2,m2,h2,t2⟩;have H2:Hid _:=h2;have HO2:Hid (Z6 inC 1 3 w2 w.heap.size (.slice (some ⟨g,off,none⟩) (N-1) oc) (oth r.n.id N)):=HO.out.tch HC.out t2 (by decide) (by decide) (by decide) (by decide);have T2:Hid _:=HT.out.trans t2;clear h2 t2))
   go_roundw
   case rel=>exact ⟨i+1,xi.sent v2 m2,by omega,by go_num,by show (xi.L ++ [m2]).length<=_;rw [List.length_append,List.length_singleton];omega,H2.out,T2.out,HO2.out⟩
   case measure=>simp [RowKit.intOf];omega
  ·obtain rfl:i=N-1:=by omega
   have h1d:decide (((N-1:Nat):Int)<((N-1:Nat):Int))=false:=decide_eq_false (by omega);have HC2:Hid (Z0 wr B b (r.sendK N) xi):=by have h9:=HC.out;rw [HKf.out] at h9;exact h9
   go_wp2
   (try simp only [Exit.inBlock,Exit.then])
   exact bodyPost_end (results_none rfl _ _ _) rfl ⟨rfl,_,HC2.out,HT.out⟩
end Go.Proofs.YtmmpoppgabadmaaGreat
namespace Go.Proofs.YtmmpoppgabadmaaGreat
open Go.RowKit Go.Maps
theorem allK_nC (m:Mg)(r:Rn):∀ k,(Rn.allK m k r).n=r.n
 | 0=>rfl
 | k+1=>by
  rw [Rn.allK];split
  ·exact allK_nC m r k
  ·exact allK_nC m r k
theorem Z0.gm_len {w:World}{B b:Nat}{r:Rn}{x:CV}(h:Z0 w B b r x):r.n.gr.length<1000000:=by
 have h9:=h.ci.gr2;have h8:=h.ci.gr1
 have h7:∀(l:List Int) (lo:Int),l.Pairwise (· < ·)->(∀ y∈l,lo<y/\y<=7)->lo<=7->(l.length:Int)<=7-lo:=by
  intro l
  induction l with
  | nil=>intro lo _ _ h;simp;omega
  | cons a l ih=>
   intro lo hp hy hlo;have ha:=hy a (by simp);have:=ih a (List.Pairwise.of_cons hp) (fun y hy'=>⟨List.rel_of_pairwise_cons hp hy',(hy y (by simp [hy'])).2⟩) ha.2;rw [List.length_cons]
   push_cast
   omega
 have:=h7 r.n.gr 0 h8 (fun y hy=>by have:=h9 y hy;have:=h.ci.sz1;omega) (by omega);omega
theorem Z5e (b:Nat)(r:Rn)(x:CV)(ro kd tm:Int)(w:World)(B:Nat)(h:Z0 w B b r x)(hro:r.n.ro≠3)(hro':ro≠3)(hll:r.n.log.length<=4096)(hl:x.L.length<=900) :
  Calls Tryz.prog 158 #[.pointer (some ⟨b,0,none⟩),.int .i64 ro,.int .i64 kd,.int .i64 tm] w fun e w'=>e=.returned (.tuple #[])/\∃ x',Z0 w' B b (Rn.allK ⟨kd,0,0,tm,r.n.log.length,Zs r.n.log,0,0,0,[]⟩ r.n.sz.toNat { r with n:={ r.n with ro:=ro,gr:=[r.n.id] } }) x'/\Tch b w x w' x':=by
 have i0:=h.ci.id0;have i1:=h.ci.id1;have z0:=h.ci.sz0;have z1:=h.ci.sz1;obtain ⟨N,hN⟩:∃ N:Nat,r.n.sz=(N:Int):=⟨r.n.sz.toNat,by omega⟩;have hN2:r.n.sz.toNat=N:=by omega
 have hfull:=Z1e r.n.id r.n.sz i0 i1;have hkf:=kI_full r.n.id r.n.sz i0 i1;have hkl:=fun i=>kI_lt r.n.id r.n.sz i i0 i1
 rw [hN2] at hfull hkf hkl ⊢;have HG:Hid (∀ i (hi:i<(oth r.n.id N).length),(oth r.n.id N)[i]=(kI r.n.id i:Int)+1):=Z1x r.n.id i0 N;have HKf:Hid (kI r.n.id (N-1)=N):=hkf;have HFl:Hid ((oth r.n.id N).length=N-1):=hfull;have c6:w.cell? ⟨b,6,none⟩=some (.int .i64 r.n.ro):=h.blk.cell 6;have f6:w.frozen? ⟨b,6,none⟩=false:=h.blk.free 6;have HC1:Hid (Z0 (w.setCell ⟨b,6,none⟩ (.int .i64 ro)) B b { r with n:={ r.n with ro:=ro } } x):=h.set 6 _ rfl rfl rfl rfl rfl rfl rfl rfl rfl rfl ⟨fun e=>absurd e hro',fun e=>absurd e hro⟩;have HT1:Hid (Tch b w x (w.setCell ⟨b,6,none⟩ (.int .i64 ro)) x):=Tch.set _ _ _ _ _;have HF:Hid (∀ i,Rn.allK ⟨kd,0,0,tm,r.n.log.length,Zs r.n.log,0,0,0,[]⟩ (kI r.n.id (i+1)) { r with n:={ r.n with ro:=ro,gr:=[r.n.id] } }=(Rn.allK ⟨kd,0,0,tm,r.n.log.length,Zs r.n.log,0,0,0,[]⟩ (kI r.n.id i) { r with n:={ r.n with ro:=ro,gr:=[r.n.id] } }).send { (⟨kd,0,0,tm,r.n.log.length,Zs r.n.log,0,0,0,[]⟩:Mg) with td:=(kI r.n.id i:Int)+1 }):=oth_fold r.n.id (fun k=>Rn.allK ⟨kd,0,0,tm,r.n.log.length,Zs r.n.log,0,0,0,[]⟩ k { r with n:={ r.n with ro:=ro,gr:=[r.n.id] } }) (fun k a=>a.send { (⟨kd,0,0,tm,r.n.log.length,Zs r.n.log,0,0,0,[]⟩:Mg) with td:=(k:Int)+1 }) (fun k=>rfl);have HZ:Hid (Rn.allK ⟨kd,0,0,tm,r.n.log.length,Zs r.n.log,0,0,0,[]⟩ (kI r.n.id 0) { r with n:={ r.n with ro:=ro,gr:=[r.n.id] } }={ r with n:={ r.n with ro:=ro,gr:=[r.n.id] } }):=oth_zero r.n.id i0 (fun k=>Rn.allK ⟨kd,0,0,tm,r.n.log.length,Zs r.n.log,0,0,0,[]⟩ k { r with n:={ r.n with ro:=ro,gr:=[r.n.id] } }) (fun k a=>a.send { (⟨kd,0,0,tm,r.n.log.length,Zs r.n.log,0,0,0,[]⟩:Mg) with td:=(k:Int)+1 }) (fun k=>rfl);have HAn:Hid (∀ k,(Rn.allK ⟨kd,0,0,tm,r.n.log.length,Zs r.n.log,0,0,0,[]⟩ k { r with n:={ r.n with ro:=ro,gr:=[r.n.id] } }).n={ r.n with ro:=ro,gr:=[r.n.id] }):=fun k=>allK_nC _ _ k
 obtain ⟨R1,hR1⟩:∃ R1:Rn,R1={ r with n:={ r.n with ro:=ro,gr:=[r.n.id] } }:=⟨_,rfl⟩;obtain ⟨MM,hMM⟩:∃ MM:Mg,MM=⟨kd,0,0,tm,r.n.log.length,Zs r.n.log,0,0,0,[]⟩:=⟨_,rfl⟩;rw [<-hR1,<-hMM] at HF HZ HAn ⊢;have HR1:Hid _:=hR1;have HMM:Hid _:=hMM;have HI:Hid (1<=r.n.id/\r.n.id<=r.n.sz):=⟨i0,i1⟩;have hn3:3<=N:=by omega
 have hn7:N<=7:=by omega
 have hw3:=wf3 (x:=r.n.id) (by omega) (by omega);have HN:Hid (r.n.sz=(N:Int)):=hN;clear h hR1 hMM hfull hkf hkl hN hN2 i0 i1 z0 z1 hro hro';go_enter Tryz.func158,Tryz.ntmps158
 go_upto_region 1 with fail
 generalize w.setCell ⟨b,6,none⟩ (.int .i64 ro)=w1 at *;have d18:w1.cell? ⟨b,18,none⟩=some (.map (some x.gm)):=HC1.out.blk.cell 18;clear c6 f6
 go_upto_region 2 with (refine Z3r _ _ rfl ?_;refine Z2j _ rfl _ 77 rfl 121 Tryz.underlying77 x.gm rfl HC1.out.gm ?_;intro w2 hg2 hgr2 hs2;have HC2:Hid (Z0 w2 B b { r with n:={ r.n with ro:=ro,gr:=[] } } x):=HC1.out.gmAt (gr':=[]) (by have e9:grF []=fun _=>(none:Option Unit):=rfl;rw [e9];exact hg2) (fun k hk hl=>hgr2.block k hl (fun e=>hk (by injection e with e))) .nil (fun y hy=>by cases hy);have HT2:Hid (Tch b w x w2 x):=HT1.out.trans (Tch.of x hgr2 (.inr (.inl rfl)));clear hg2 hgr2 hs2)
 have q18:∀ u:BW w2,u.w.cell? ⟨b,18,none⟩=some (.map (some x.gm)):=fun u=>(HC2.out.below u.h).blk.cell 18
 have q0:∀ u:BW w2,u.w.cell? ⟨b,0,none⟩=some (.int .i64 r.n.id):=fun u=>(HC2.out.below u.h).blk.cell 0
 have NE2:Nonempty (BW w2):=⟨⟨w2,Below.refl _ _⟩⟩;clear d18;go_frame
 go_cut [] (fun W=>Z0 W B b R1 x/\Tch b w x W x)
 case first=>
  refine Zn (C:=fun w'=>∃ u:BW w2,w'=u.w) _ (by kernel_rfl) rfl (by kernel_rfl) ⟨⟨_,(Below.refl _ _).drew⟩,rfl⟩ ?_;simp only [List.dropLast_cons_cons,List.dropLast_singleton]
  repeat (first | go_big_quiet_step ((fail)))
  refine wpQuiet_nil ?_;intro w3 hww3;have hb_w3:Below w2.heap.size w2 w3:=(by obtain ⟨u,rfl⟩:=hww3;exact u.h);clear hww3;refine wp_imput (γ:=Unit) (vl:=unV) (f:=grF []) w3 (.tmp 22) (.tmp 27) (.tmp 28) 77 rfl 121 Tryz.underlying77 x.gm rfl (HC2.out.below hb_w3).gm [] .nil (Z1f _) (by simp) r.n.id hw3 () rfl rfl ?_;intro w4 hi4 hg4
  have HC4:Hid (Z0 w4 B b R1 x):=by
   have h9:=(HC2.out.below hb_w3).gmAt (w':=w4) (gr':=[r.n.id]) (by
    have e9:grF [r.n.id]=fun d=>if d=r.n.id then some () else grF [] d:=by
     funext d
     unfold grF;by_cases hd:d=r.n.id <;> simp [hd]
    rw [e9];exact hi4) (fun k hk hl=>hg4.block k hl (fun e=>hk (by injection e with e))) (List.pairwise_singleton _ _) (fun y hy=>by rw [List.mem_singleton] at hy;rw [hy];exact HI.out)
   unfold Hid;rw [HR1.out];exact h9
  have HT4:Hid (Tch b w x w4 x):=(HT2.out.tail hb_w3).trans (Tch.of x hg4 (.inr (.inl rfl)));clear hi4 hg4
  go_wp2_with fail
  go_meet;exact ⟨HC4.out,HT4.out⟩
 case rest=>
  obtain ⟨hC,hT⟩:=hcut;obtain ⟨w5,hw5⟩:∃ z,z=wc:=⟨_,rfl⟩;rw [<-hw5] at hC hT;subst hw5;have HC5:Hid _:=hC;have HT5:Hid _:=hT
  have HOt:Hid (Calls Tryz.prog 81 #[.pointer (some ⟨b,0,none⟩)] w5 fun e w'=>∃ a c,e=.returned (.slice a (N-1) c)/\Z6 inC 1 3 w' w5.heap.size (.slice a (N-1) c) (oth r.n.id N)/\Below w5.heap.size w5 w'):=by
   have h9:=Z2t b R1 x w5 B hC;have e1:R1.n.sz.toNat=N:=by rw [HR1.out];show r.n.sz.toNat=N;have:=HN.out;omega
   have e2:R1.n.id=r.n.id:=by rw [HR1.out]
   rw [e1,e2] at h9;exact h9
  clear hC hT q18 q0 NE2
  go_wp2_with (first
   |(go_at_call 81;refine Calls.mono HOt.out ?_;rintro e w6 ⟨oa,oc,rfl,ho1,hb1⟩;have HO1:Hid (Z6 inC 1 3 w6 w5.heap.size (.slice oa (N-1) oc) (oth r.n.id N)):=ho1;have HB1:Hid _:=hb1;clear ho1 hb1))
  go_loopw [9,32] (fun sj iv wr=>∃(i:Nat) (xi:CV),i<=N-1/\iv=.int .i64 (i:Int)/\xi.L.length<=x.L.length+i/\Z0 wr B b (Rn.allK MM (kI r.n.id i) R1) xi/\Tch b w x wr xi/\Z6 inC 1 3 wr w5.heap.size (.slice oa (N-1) oc) (oth r.n.id N)) (fun _ iv _=>N-(RowKit.intOf iv).toNat)
  case atStart=>exact ⟨0,x,by omega,rfl,by omega,by rw [HZ.out];exact HC5.out.below HB1.out,HT5.out.tail HB1.out,HO1.out⟩
  case round=>
   obtain ⟨i,xi,hi,rfl,hxl,hC,hT,hO⟩:=hrel;obtain ⟨wq,hwq⟩:∃ z,z=wr:=⟨_,rfl⟩;rw [<-hwq] at hC hT hO;subst hwq;have HC:Hid _:=hC;have HT:Hid _:=hT;have HO:Hid (Z6 inC 1 3 wq w5.heap.size (.slice oa (N-1) oc) (oth r.n.id N)):=hO;have HLg:Hid ((Rn.allK MM (kI r.n.id i) R1).n.log=r.n.log):=by unfold Hid;rw [HAn.out]
   have hlg:=HLg.out;clear hT hO;by_cases hlt:i<N-1
   ·obtain ⟨g,off,rfl,hc⟩:=in_at HO.out (by rw [HFl.out];omega) i (by rw [HFl.out];omega)
    rw [HG.out] at hc;have h1d:decide ((i:Int)<((N-1:Nat):Int))=true:=decide_eq_true (by omega);have h1:(i:Int)<((N-1:Nat):Int):=by omega
    obtain ⟨la,lc,hvl⟩:=hC.log.shape;rw [hlg] at hvl;have q12:∀ u:BW wq,u.w.cell? ⟨b,12,none⟩=some (.slice la r.n.log.length lc):=fun u=>by rw [<-hvl];exact (hC.below u.h).blk.cell 12
    have HLt:Hid (∀ z,Below wq.heap.size wq z->Calls Tryz.prog 180 #[.slice la r.n.log.length lc] z fun e w'=>e=.returned (.int .i64 (Zs r.n.log))/\w'=z):=fun z hz=>Z0i _ _ _ (by rw [<-hvl];have h9:=(HC.out.below hz).es (by rw [HLg.out];exact hll);rw [HLg.out] at h9;exact h9)
    have NEq:Nonempty (BW wq):=⟨⟨wq,Below.refl _ _⟩⟩
    have HSe:Hid (∀ z,Below wq.heap.size wq z->Calls Tryz.prog 165 #[.pointer (some ⟨b,0,none⟩),.int .i64 ((kI r.n.id i:Int)+1),.agg #[.int .i64 kd,.int .i64 0,.int .i64 0,.int .i64 tm,.int .i64 (r.n.log.length:Int),.int .i64 (Zs r.n.log),.int .i64 0,.int .i64 0,.int .i64 0,.slice none 0 0]] z fun e w'=>e=.returned (.tuple #[])/\∃ v m',Z0 w' B b (Rn.allK MM (kI r.n.id (i+1)) R1) (xi.sent v m')/\Tch b z xi w' (xi.sent v m')):=fun z hz=>by
     have h9:=Z1g b (Rn.allK MM (kI r.n.id i) R1) xi ⟨kd,0,0,tm,r.n.log.length,Zs r.n.log,0,0,0,[]⟩ ((kI r.n.id i:Int)+1) none 0 z B (HC.out.below hz) (Zd.nil _ _) (fun k e=>by cases e) (by omega);rw [HF.out i,HMM.out];rw [HMM.out] at h9;exact h9
    clear hC hvl hlg;generalize (kI r.n.id i:Int)+1=y at *;generalize Zs r.n.log=LT at *;generalize r.n.log.length=LN at *
    go_upto_region 6 with fail
    clear hc;refine Zn (C:=fun w'=>∃ u:BW wq,w'=u.w) _ (by kernel_rfl) rfl (by kernel_rfl) ⟨⟨_,(Below.refl _ _).drew⟩,rfl⟩ ?_;simp only [List.dropLast_cons_cons,List.dropLast_singleton]
    repeat (first | go_big_quiet_step ((go_at_call 180;refine Calls.mono (HLt.out _ (BW.h _)) ?_;rintro e w9 ⟨rfl,hw9⟩;have hw9b:=hw9.symm;subst hw9b;exact ⟨rfl,⟨_,rfl⟩⟩)))
    refine wpQuiet_nil ?_;intro w7 hww7;have hb_w7:Below wq.heap.size wq w7:=(by obtain ⟨u,rfl⟩:=hww7;exact u.h);clear hww7;refine Ya (N:=165) rfl (fun _ _=>by go_simp) #[.pointer (some ⟨b,0,none⟩),.int .i64 y,.agg #[.int .i64 kd,.int .i64 0,.int .i64 0,.int .i64 tm,.int .i64 (LN:Int),.int .i64 LT,.int .i64 0,.int .i64 0,.int .i64 0,.slice none 0 0]] (by simp only [List.map_toArray,List.map_cons,List.map_nil];rfl) ?_;refine Calls.mono (HSe.out w7 hb_w7) ?_;rintro e w8 ⟨rfl,v8,m8,h8,t8⟩;refine ⟨_,rfl,?_⟩;have H8:Hid _:=h8;have HO8:Hid (Z6 inC 1 3 w8 w5.heap.size (.slice (some ⟨g,off,none⟩) (N-1) oc) (oth r.n.id N)):=(HO.out.below hb_w7).tch (HC.out.below hb_w7) t8 (by decide) (by decide) (by decide) (by decide);have T8:Hid _:=(HT.out.tail hb_w7).trans t8;clear h8 t8
    go_wp2_with fail
    go_roundw
    case rel=>exact ⟨i+1,xi.sent v8 m8,by omega,by go_num,by show (xi.L ++ [m8]).length<=_;rw [List.length_append,List.length_singleton];omega,H8.out,T8.out,HO8.out⟩
    case measure=>simp [RowKit.intOf];omega
   ·obtain rfl:i=N-1:=by omega
    have h1d:decide (((N-1:Nat):Int)<((N-1:Nat):Int))=false:=decide_eq_false (by omega);have HC2:Hid (Z0 wq B b (Rn.allK MM N R1) xi):=by have h9:=HC.out;rw [HKf.out] at h9;exact h9
    clear hC hlg;go_wp2
    (try simp only [Exit.inBlock,Exit.then])
    exact bodyPost_end (results_none rfl _ _ _) rfl ⟨rfl,_,HC2.out,HT.out⟩
end Go.Proofs.YtmmpoppgabadmaaGreat
namespace Go.Proofs.YtmmpoppgabadmaaGreat
open Go.RowKit Go.Maps
def Rn.stand (r:Rn):Rn:=Rn.allK ⟨3,0,0,r.n.tm+1,r.n.log.length,Zs r.n.log,0,0,0,[]⟩ r.n.sz.toNat (Rn.timer { r with n:={ r.n with tm:=r.n.tm+1,vo:=r.n.id,ro:=2,gr:=[r.n.id] } })
theorem stand_any (b:Nat)(r:Rn)(x:CV)(w:World)(B:Nat)(h:Z0 w B b r x)(hro:r.n.ro≠3)(ht0:0<=r.n.tm)(ht1:r.n.tm<=1073741824)(hd : -(2^63)<=r.draw)(hD:r.draw<2^63)(hn0:0<=r.n.nw)(hn1:r.n.nw<=1099511627776)(hll:r.n.log.length<=4096)(hl:x.L.length<=900) :
  Calls Tryz.prog 169 #[.pointer (some ⟨b,0,none⟩)] w fun e w'=>e=.returned (.tuple #[])/\∃ x',Z0 w' B b r.stand x'/\Tch b w x w' x':=by
 have c4:w.cell? ⟨b,4,none⟩=some (.int .i64 r.n.tm):=h.blk.cell 4;have f4:w.frozen? ⟨b,4,none⟩=false:=h.blk.free 4;have c5:w.cell? ⟨b,5,none⟩=some (.int .i64 r.n.vo):=h.blk.cell 5;have f5:w.frozen? ⟨b,5,none⟩=false:=h.blk.free 5;have c0:w.cell? ⟨b,0,none⟩=some (.int .i64 r.n.id):=h.blk.cell 0;have hwr:IntKind.i64.wrap (r.n.tm+1)=r.n.tm+1:=by rw [IntKind.wrap_i64];omega
 obtain ⟨R1,hR1⟩:∃ R1:Rn,R1={ r with n:={ r.n with tm:=r.n.tm+1,vo:=r.n.id } }:=⟨_,rfl⟩
 have HC1:Hid (Z0 ((w.setCell ⟨b,4,none⟩ (.int .i64 (r.n.tm+1))).setCell ⟨b,5,none⟩ (.int .i64 r.n.id)) B b R1 x):=by
  unfold Hid;rw [hR1];exact (h.set (r':={ r with n:={ r.n with tm:=r.n.tm+1 } }) 4 _ rfl rfl rfl rfl rfl rfl rfl rfl rfl rfl Iff.rfl).set 5 _ rfl rfl rfl rfl rfl rfl rfl rfl rfl rfl Iff.rfl
 have HT1:Hid (Tch b w x ((w.setCell ⟨b,4,none⟩ (.int .i64 (r.n.tm+1))).setCell ⟨b,5,none⟩ (.int .i64 r.n.id)) x):=(Tch.set b w x 4 _).trans (Tch.set b _ x 5 _);have HTm:Hid (∀ z,Z0 z B b R1 x->Calls Tryz.prog 156 #[.pointer (some ⟨b,0,none⟩)] z fun e w'=>e=.returned (.tuple #[])/\Z0 w' B b R1.timer x/\Tch b z x w' x):=fun z hz=>Jg b R1 x z B hz (by rw [hR1];exact hd) (by rw [hR1];exact hD) (by rw [hR1];exact hn0) (by rw [hR1];exact hn1)
 have HAk:Hid (∀ z,Z0 z B b R1.timer x->Calls Tryz.prog 158 #[.pointer (some ⟨b,0,none⟩),.int .i64 2,.int .i64 3,.int .i64 (r.n.tm+1)] z fun e w'=>e=.returned (.tuple #[])/\∃ x',Z0 w' B b r.stand x'/\Tch b z x w' x'):=fun z hz=>by
  have h9:=Z5e b R1.timer x 2 3 (r.n.tm+1) z B hz (by rw [hR1];exact hro) (by decide) (by rw [hR1];exact hll) hl;rw [hR1] at h9;exact h9
 have HE:Hid (∀ z,Z0 z B b R1.timer x->z.cell? ⟨b,4,none⟩=some (.int .i64 (r.n.tm+1))):=fun z hz=>by have h9:=hz.blk.cell 4;rw [hR1] at h9;exact h9
 clear h hR1;generalize r.stand=RS at *;go_enter Tryz.func169,Tryz.ntmps169
 go_wp2_with (first
  |(go_at_call 156;refine Calls.mono (HTm.out _ HC1.out) ?_;rintro e w1 ⟨rfl,h1,t1⟩;have H1:Hid _:=h1;have T1:Hid (Tch b w x w1 x):=HT1.out.trans t1;have e4:=HE.out w1 h1;clear h1 t1)
  |(go_at_call 158;refine Calls.mono (HAk.out _ H1.out) ?_;rintro e w2 ⟨rfl,x2,h2,t2⟩;have H2:Hid _:=h2;have T2:Hid (Tch b w x w2 x2):=T1.out.trans t2;clear h2 t2))
 (try simp only [Exit.inBlock,Exit.then])
 exact bodyPost_end (results_none rfl _ _ _) rfl ⟨rfl,_,H2.out,T2.out⟩
def Rn.askFirst (r:Rn):Rn:=
 if r.n.tm=1073741824 then r.lone.timer
 else Rn.allK ⟨1,0,0,r.n.tm+1,r.n.log.length,Zs r.n.log,0,0,0,[]⟩ r.n.sz.toNat { r.lone.timer with n:={ r.lone.timer.n with ro:=1,gr:=[r.n.id] } }
theorem askFirst_any (b:Nat)(r:Rn)(x:CV)(w:World)(B:Nat)(h:Z0 w B b r x)(ht0:0<=r.n.tm)(ht1:r.n.tm<=1073741824)(hd : -(2^63)<=r.draw)(hD:r.draw<2^63)(hn0:0<=r.n.nw)(hn1:r.n.nw<=1099511627776)(hll:r.n.log.length<=4096)(hl:x.L.length<=900) :
  Calls Tryz.prog 128 #[.pointer (some ⟨b,0,none⟩)] w fun e w'=>e=.returned (.tuple #[])/\∃ x',Z0 w' B b r.askFirst x'/\Tch b w x w' x':=by
 have hwr:IntKind.i64.wrap (r.n.tm+1)=r.n.tm+1:=by rw [IntKind.wrap_i64];omega
 have HFo:Hid (Calls Tryz.prog 155 #[.pointer (some ⟨b,0,none⟩),.int .i64 0] w fun e w'=>e=.returned (.tuple #[])/\Z0 w' B b r.lone x.lone/\Tch b w x w' x.lone):=Z0v b r x 0 w B h;have HTm:Hid (∀ z,Z0 z B b r.lone x.lone->Calls Tryz.prog 156 #[.pointer (some ⟨b,0,none⟩)] z fun e w'=>e=.returned (.tuple #[])/\Z0 w' B b r.lone.timer x.lone/\Tch b z x.lone w' x.lone):=fun z hz=>Jg b r.lone x.lone z B hz hd hD hn0 hn1
 have HE:Hid (∀ z,Z0 z B b r.lone.timer x.lone->z.cell? ⟨b,4,none⟩=some (.int .i64 r.n.tm)):=fun z hz=>hz.blk.cell 4
 by_cases ht:r.n.tm=1073741824
 ·have HQ:Hid (r.askFirst=r.lone.timer):=by unfold Hid Rn.askFirst;rw [if_pos ht]
  have htd:decide (r.n.tm<1073741824)=false:=decide_eq_false (by omega);have htn:¬ r.n.tm<1073741824:=by omega
  rw [HQ.out];clear h HQ ht;generalize r.lone.timer=RT at *;go_enter Tryz.func128,Tryz.ntmps128
  go_wp2_with (first
   |(go_at_call 155;refine Calls.mono HFo.out ?_;rintro e w1 ⟨rfl,h1,t1⟩;have H1:Hid _:=h1;have T1:Hid _:=t1;clear h1 t1)
   |(go_at_call 156;refine Calls.mono (HTm.out _ H1.out) ?_;rintro e w2 ⟨rfl,h2,t2⟩;have H2:Hid _:=h2;have T2:Hid (Tch b w x w2 x.lone):=T1.out.trans t2;have e4:=HE.out w2 h2;clear h2 t2))
  (try simp only [Exit.inBlock,Exit.then])
  exact bodyPost_end (results_none rfl _ _ _) rfl ⟨rfl,_,H2.out,T2.out⟩
 ·have HQ:Hid (r.askFirst=Rn.allK ⟨1,0,0,r.n.tm+1,r.n.log.length,Zs r.n.log,0,0,0,[]⟩ r.n.sz.toNat { r.lone.timer with n:={ r.lone.timer.n with ro:=1,gr:=[r.n.id] } }):=by unfold Hid Rn.askFirst;rw [if_neg ht]
  have HAk:Hid (∀ z,Z0 z B b r.lone.timer x.lone->Calls Tryz.prog 158 #[.pointer (some ⟨b,0,none⟩),.int .i64 1,.int .i64 1,.int .i64 (r.n.tm+1)] z fun e w'=>e=.returned (.tuple #[])/\∃ x',Z0 w' B b r.askFirst x'/\Tch b z x.lone w' x'):=fun z hz=>by
   rw [HQ.out];exact Z5e b r.lone.timer x.lone 1 1 (r.n.tm+1) z B hz (show (0:Int)≠3 by decide) (by decide) hll hl
  have htd:decide (r.n.tm<1073741824)=true:=decide_eq_true (by omega);have htn:r.n.tm<1073741824:=by omega
  clear h HQ ht;generalize r.askFirst=RF at *;generalize r.lone.timer=RT at *;go_enter Tryz.func128,Tryz.ntmps128
  go_wp2_with (first
   |(go_at_call 155;refine Calls.mono HFo.out ?_;rintro e w1 ⟨rfl,h1,t1⟩;have H1:Hid _:=h1;have T1:Hid _:=t1;clear h1 t1)
   |(go_at_call 156;refine Calls.mono (HTm.out _ H1.out) ?_;rintro e w2 ⟨rfl,h2,t2⟩;have H2:Hid _:=h2;have T2:Hid (Tch b w x w2 x.lone):=T1.out.trans t2;have e4:=HE.out w2 h2;clear h2 t2)
   |(go_at_call 158;refine Calls.mono (HAk.out _ H2.out) ?_;rintro e w3 ⟨rfl,x3,h3,t3⟩;have H3:Hid _:=h3;have T3:Hid (Tch b w x w3 x3):=T2.out.trans t3;clear h3 t3))
  (try simp only [Exit.inBlock,Exit.then])
  exact bodyPost_end (results_none rfl _ _ _) rfl ⟨rfl,_,H3.out,T3.out⟩
end Go.Proofs.YtmmpoppgabadmaaGreat
