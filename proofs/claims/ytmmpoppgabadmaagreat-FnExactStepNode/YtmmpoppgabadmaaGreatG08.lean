import Derived.Test.YtmmpoppgabadmaaGreatG06
import Derived.Deep.DeepCutAuto
set_option linter.unusedVariables false
set_option linter.unusedSimpArgs false
set_option maxRecDepth 100000
set_option maxHeartbeats 16000000
namespace Go.Proofs.YtmmpoppgabadmaaGreat
open Go.RowKit
theorem l4propose_any (b:Nat)(r:Rn)(x:RV)(cl sq op:Int)(k v o:ByteArray)(w:World)(B:Nat)(h:Z4 w B b r x)(hb:NdB r.n)(hL:x.L = [])(hd:r.n.ro=3->LdB r.n r.n.sz.toNat)(hk:k.size<=maxLen)(hv:v.size<=maxLen)(ho:o.size<=maxLen) :
  Calls Tryz.prog 78 #[.pointer (some ⟨b,0,none⟩),.agg #[.int .i64 cl,.int .i64 sq,.int .i64 op,.string k,.string v,.string o]] w fun e w'=>∃ x',e=.returned (.tuple #[])/\Z4 w' B b (r.propose (decide (Jk cl sq op k.size v.size o.size≠0∨op=0)) cl sq op k v o) x'/\Below B w w':=by
 have HR:Hid (∀ z,Below w.heap.size w z->Z4 z B b r x):=fun z hz=>h.below hz
 have hBw:B<=w.heap.size:=Nat.le_trans h.lo (Nat.le_of_lt h.lt);have hbl:=h.lt;obtain ⟨la,lc,hvl⟩:=h.log.shape;have HVl:Hid (x.vl=.slice la r.n.log.length lc):=hvl;have HCf:Hid (∀ z,Calls Tryz.prog 125 #[.agg #[.int .i64 cl,.int .i64 sq,.int .i64 op,.string k,.string v,.string o]] z fun e w'=>e=.returned (.int .i64 (Jk cl sq op k.size v.size o.size))/\Below z.heap.size z w'):=fun z=>Jb cl sq op k v o hk hv ho z
 have HQ:Hid (r.propose (decide (Jk cl sq op k.size v.size o.size≠0∨op=0)) cl sq op k v o=if decide (Jk cl sq op k.size v.size o.size≠0∨op=0)=true then { r with code:=6 } else if r.n.ro≠3 then { r with code:=4 } else if 4096<=r.n.log.length then { r with code:=5 } else Rn.sendAll { r with n:={ r.n with log:=r.n.log ++ [⟨r.n.tm,cl,sq,op,k,v,o⟩] } }):=rfl;generalize r.propose (decide (Jk cl sq op k.size v.size o.size≠0∨op=0)) cl sq op k v o=RP at *;generalize Jk cl sq op k.size v.size o.size=F at *;have HB1:Hid (Below w.heap.size w (w.alloc (.cells #[.int .i64 cl,.int .i64 sq,.int .i64 op,.string k,.string v,.string o] 44))):=(Below.refl _ _).alloc (Nat.le_refl _) _;have BM1:Hid (Blk (w.alloc (.cells #[.int .i64 cl,.int .i64 sq,.int .i64 op,.string k,.string v,.string o] 44)) w.heap.size #[.int .i64 cl,.int .i64 sq,.int .i64 op,.string k,.string v,.string o] 44):=Blk.new _ _ _;have hz1:w.heap.size<(w.alloc (.cells #[.int .i64 cl,.int .i64 sq,.int .i64 op,.string k,.string v,.string o] 44)).heap.size:=by simp
 have HC:Hid (∀ z,Below w.heap.size w z->z.cell? ⟨b,6,none⟩=some (.int .i64 r.n.ro)/\z.cell? ⟨b,12,none⟩=some (.slice la r.n.log.length lc)/\z.cell? ⟨b,4,none⟩=some (.int .i64 r.n.tm)/\z.cell? ⟨b,19,none⟩=some (.int .i64 r.code)/\z.frozen? ⟨b,19,none⟩=false):=fun z hz=>⟨(h.below hz).blk.cell 6,by rw [<-hvl];exact (h.below hz).blk.cell 12,(h.below hz).blk.cell 4,(h.below hz).blk.cell 19,(h.below hz).blk.free 19⟩
 have HSt:Hid (∀ z,Below w.heap.size w z->∀ c:Int,Z4 (z.setCell ⟨b,19,none⟩ (.int .i64 c)) B b { r with code:=c } x/\Below B w (z.setCell ⟨b,19,none⟩ (.int .i64 c))):=fun z hz c=>⟨(h.below hz).set 19 _ rfl rfl rfl rfl rfl rfl rfl rfl,(hz.mono hBw).trans ((h.below hz).setB 19 _)⟩
 have HFt:Hid (Ent.fits ⟨r.n.tm,cl,sq,op,k,v,o⟩):=⟨hk,hv,ho⟩;have HLg:Hid (r.n.log.length<=4096):=hb.ln;have hln:=hb.ln;clear h hvl hk hv ho;have hop:¬(F≠0∨op=0)->F=0/\op≠0:=fun hn=>⟨Classical.byContradiction fun h=>hn (.inl h),fun h=>hn (.inr h)⟩
 go_enter Tryz.func78,Tryz.ntmps78
 go_upto_region 1 with fail
 generalize w.alloc (.cells #[.int .i64 cl,.int .i64 sq,.int .i64 op,.string k,.string v,.string o] 44)=w1 at *;have m0:w1.cell? ⟨w.heap.size,0,none⟩=some (.int .i64 cl):=BM1.out.cell 0;have m1:w1.cell? ⟨w.heap.size,1,none⟩=some (.int .i64 sq):=BM1.out.cell 1;have m2:w1.cell? ⟨w.heap.size,2,none⟩=some (.int .i64 op):=BM1.out.cell 2;have m3:w1.cell? ⟨w.heap.size,3,none⟩=some (.string k):=BM1.out.cell 3;have m4:w1.cell? ⟨w.heap.size,4,none⟩=some (.string v):=BM1.out.cell 4;have m5:w1.cell? ⟨w.heap.size,5,none⟩=some (.string o):=BM1.out.cell 5;by_cases hbad:F≠0∨op=0
 ·have HQ2:Hid (RP={ r with code:=6 }):=HQ.out.trans (if_pos (decide_eq_true hbad))
  by_cases hF:F=0
  ·subst hF
   have hop0:op=0:=hbad.elim (fun h=>absurd rfl h) id;subst hop0;clear hbad hop
   go_wp2_with (first
    |(go_at_call 125;refine (HCf.out _).mono ?_;rintro e w3 ⟨rfl,hb3⟩;have HB3:Hid (Below w.heap.size w w3):=HB1.out.trans (hb3.mono (by omega));obtain ⟨k6,k12,k4,k19,f19⟩:=HC.out w3 HB3.out;have BM3:Hid (Blk w3 w.heap.size _ 44):=BM1.out.below hb3 hz1;have n2:w3.cell? ⟨w.heap.size,2,none⟩=some (.int .i64 0):=BM3.out.cell 2;clear hb3))
   (try simp only [Exit.inBlock,Exit.then])
   exact bodyPost_ret (results_none rfl _ _ _) rfl ⟨x,rfl,by rw [HQ2.out];exact (HSt.out _ HB3.out 6).1,(HSt.out _ HB3.out 6).2⟩
  ·have hFb:(F != 0)=true:=by simpa using hF
   clear hbad hop hF
   go_wp2_with (first
    |(go_at_call 125;refine (HCf.out _).mono ?_;rintro e w3 ⟨rfl,hb3⟩;have HB3:Hid (Below w.heap.size w w3):=HB1.out.trans (hb3.mono (by omega));obtain ⟨k6,k12,k4,k19,f19⟩:=HC.out w3 HB3.out;have BM3:Hid (Blk w3 w.heap.size _ 44):=BM1.out.below hb3 hz1;have n2:w3.cell? ⟨w.heap.size,2,none⟩=some (.int .i64 op):=BM3.out.cell 2;clear hb3))
   (try simp only [Exit.inBlock,Exit.then])
   exact bodyPost_ret (results_none rfl _ _ _) rfl ⟨x,rfl,by rw [HQ2.out];exact (HSt.out _ HB3.out 6).1,(HSt.out _ HB3.out 6).2⟩
 obtain ⟨hF0,hop0⟩:=hop hbad;subst hF0;have hopb:(op == 0)=false:=by simpa using hop0
 have HQ3:Hid (RP=if r.n.ro≠3 then { r with code:=4 } else if 4096<=r.n.log.length then { r with code:=5 } else Rn.sendAll { r with n:={ r.n with log:=r.n.log ++ [⟨r.n.tm,cl,sq,op,k,v,o⟩] } }):=HQ.out.trans (if_neg (by simpa using hop0));clear hbad hop HQ hop0;by_cases hro:r.n.ro=3
 case neg=>
  have hrb:(r.n.ro != 3)=true:=by simpa using hro
  have HQ4:Hid (RP={ r with code:=4 }):=HQ3.out.trans (if_pos hro);clear hro HQ3
  go_wp2_with (first
   |(go_at_call 125;refine (HCf.out _).mono ?_;rintro e w3 ⟨rfl,hb3⟩;have HB3:Hid (Below w.heap.size w w3):=HB1.out.trans (hb3.mono (by omega));obtain ⟨k6,k12,k4,k19,f19⟩:=HC.out w3 HB3.out;have BM3:Hid (Blk w3 w.heap.size _ 44):=BM1.out.below hb3 hz1;have n2:w3.cell? ⟨w.heap.size,2,none⟩=some (.int .i64 op):=BM3.out.cell 2;clear hb3))
  (try simp only [Exit.inBlock,Exit.then])
  exact bodyPost_ret (results_none rfl _ _ _) rfl ⟨x,rfl,by rw [HQ4.out];exact (HSt.out _ HB3.out 4).1,(HSt.out _ HB3.out 4).2⟩
 have hrb:(r.n.ro != 3)=false:=by simpa using hro
 have HQ4:Hid (RP=if 4096<=r.n.log.length then { r with code:=5 } else Rn.sendAll { r with n:={ r.n with log:=r.n.log ++ [⟨r.n.tm,cl,sq,op,k,v,o⟩] } }):=HQ3.out.trans (if_neg (fun h=>h hro));have HD:Hid (LdB r.n r.n.sz.toNat):=hd hro;clear HQ3 hd hro;by_cases hfull:4096<=r.n.log.length
 ·have hfi:(4096:Int)<=(r.n.log.length:Int):=by omega
  have HQ5:Hid (RP={ r with code:=5 }):=HQ4.out.trans (if_pos hfull);clear hfull HQ4
  go_wp2_with (first
   |(go_at_call 125;refine (HCf.out _).mono ?_;rintro e w3 ⟨rfl,hb3⟩;have HB3:Hid (Below w.heap.size w w3):=HB1.out.trans (hb3.mono (by omega));obtain ⟨k6,k12,k4,k19,f19⟩:=HC.out w3 HB3.out;have BM3:Hid (Blk w3 w.heap.size _ 44):=BM1.out.below hb3 hz1;have n2:w3.cell? ⟨w.heap.size,2,none⟩=some (.int .i64 op):=BM3.out.cell 2;clear hb3))
  (try simp only [Exit.inBlock,Exit.then])
  exact bodyPost_ret (results_none rfl _ _ _) rfl ⟨x,rfl,by rw [HQ5.out];exact (HSt.out _ HB3.out 5).1,(HSt.out _ HB3.out 5).2⟩
 have hfi:¬(4096:Int)<=(r.n.log.length:Int):=by omega
 have HQ5:Hid (RP=Rn.sendAll { r with n:={ r.n with log:=r.n.log ++ [⟨r.n.tm,cl,sq,op,k,v,o⟩] } }):=HQ4.out.trans (if_neg hfull)
 have HSa:Hid (∀ z xx,xx.L = []->Z4 z B b { r with n:={ r.n with log:=r.n.log ++ [⟨r.n.tm,cl,sq,op,k,v,o⟩] } } xx->Calls Tryz.prog 126 #[.pointer (some ⟨b,0,none⟩)] z fun e w'=>∃ x',e=.returned (.tuple #[])/\Z4 w' B b (Rn.sendAll { r with n:={ r.n with log:=r.n.log ++ [⟨r.n.tm,cl,sq,op,k,v,o⟩] } }) x'/\Below B z w'/\x'.L.length<=xx.L.length+7):=fun z xx hxx hz=>Z2r b _ xx z B hz
  ⟨hb.nw0,hb.nw1,hb.hd0,hb.hd1,hb.sz0,hb.sz1,hb.id0,hb.id1,by show (r.n.log ++ [_]).length<=4096;rw [List.length_append];simp;omega⟩ (by rw [hxx];simp)
  ⟨HD.out.nxl,HD.out.stl,fun J hJ hne=>by obtain ⟨P,hP,e⟩:=HD.out.nx J hJ hne;exact ⟨P,Nat.le_trans hP (by show _<=(r.n.log ++ [_]).length;rw [List.length_append];omega),e⟩⟩
 clear HQ4 hfull HD hb;have hl9:r.n.log.length<=4096:=HLg.out
 go_upto_region 7 with (first
  |(go_at_call 125;refine (HCf.out _).mono ?_;rintro e w3 ⟨rfl,hb3⟩;have HB3:Hid (Below w.heap.size w w3):=HB1.out.trans (hb3.mono (by omega));obtain ⟨k6,k12,k4,k19,f19⟩:=HC.out w3 HB3.out;have BM3:Hid (Blk w3 w.heap.size _ 44):=BM1.out.below hb3 hz1;have n2:w3.cell? ⟨w.heap.size,2,none⟩=some (.int .i64 op):=BM3.out.cell 2;clear hb3))
 have q:True:=trivial;have t0:w3.cell? ⟨w.heap.size,0,none⟩=some (.int .i64 cl):=BM3.out.cell 0;have t1:w3.cell? ⟨w.heap.size,1,none⟩=some (.int .i64 sq):=BM3.out.cell 1;have t2:w3.cell? ⟨w.heap.size,2,none⟩=some (.int .i64 op):=BM3.out.cell 2;have t3:w3.cell? ⟨w.heap.size,3,none⟩=some (.string k):=BM3.out.cell 3;have t4:w3.cell? ⟨w.heap.size,4,none⟩=some (.string v):=BM3.out.cell 4;have t5:w3.cell? ⟨w.heap.size,5,none⟩=some (.string o):=BM3.out.cell 5;have HO3:Hid (Zd w3 B (.slice la r.n.log.length lc) r.n.log):=by unfold Hid;rw [<-HVl.out];exact (HR.out w3 HB3.out).log
 have BR3:Hid (Blk w3 b (rnC r x) 112):=(HR.out w3 HB3.out).blk;have hz3:w.heap.size<w3.heap.size:=BM3.out.lt;have pa:∀(o:Obj) (j:Nat),(w3.alloc o).cell? ⟨b,j,none⟩=w3.cell? ⟨b,j,none⟩:=fun o j=>World.cell?_alloc_lt _ _ _ (by show b<w3.heap.size;omega)
 have pa':∀(o:Obj) (j:Nat),(w3.drew.alloc o).cell? ⟨b,j,none⟩=w3.cell? ⟨b,j,none⟩:=fun o j=>World.cell?_alloc_lt _ _ _ (by show b<w3.heap.size;omega)
 have hne1:¬ w3.heap.size=b:=by omega
 have hne2:¬ b=w3.heap.size:=by omega
 have HNO:Hid ((Value.slice la r.n.log.length lc).ownBlock≠some b):=fun e=>Yp HO3.out BR3.out (by decide) _ e rfl
 have HFin:Hid (∀ w5 v5,Zd w5 B v5 (r.n.log ++ [⟨r.n.tm,cl,sq,op,k,v,o⟩])->∀ w4,Below w3.heap.size w3 w4->Jy w4 (.slice la r.n.log.length lc) w5 v5->Z4 (w5.setCell ⟨b,12,none⟩ v5) B b { r with n:={ r.n with log:=r.n.log ++ [⟨r.n.tm,cl,sq,op,k,v,o⟩] } } { x with vl:=v5 }/\Below B w (w5.setCell ⟨b,12,none⟩ v5)):=fun w5 v5 ho w4 h4 hg=>by
  rw [<-HVl.out] at hg;have h9:=(HR.out w3 HB3.out).logAt hL h4 ho hg;exact ⟨h9.1,(HB3.out.mono hBw).trans h9.2⟩
 have HOf:Hid (∀ e∈r.n.log,e.fits):=HO3.out.1;clear HCf HC HSt
 go_cut [52] (fun _ wx=>∃ v5,Z4 wx B b { r with n:={ r.n with log:=r.n.log ++ [⟨r.n.tm,cl,sq,op,k,v,o⟩] } } { x with vl:=v5 }/\Below B w wx)
 case first=>
  go_region_law
   (refine J3 entLaw rfl (.tmp 39) (.tmp 47) rfl ⟨r.n.tm,cl,sq,op,k,v,o⟩ (Z6.below (Z6.below HO3.out.g ((Below.refl _ _).drew)) ((Below.refl _ _).alloc (Nat.le_refl _) _)) rfl w3.heap.size 1 (J2 w3.drew (Ent.cells ⟨r.n.tm,cl,sq,op,k,v,o⟩) 118) rfl (by omega) (by simp;omega) ?_;intro v5 w5 ho5 hg5;have HO5:Hid (Zd w5 B v5 (r.n.log ++ [⟨r.n.tm,cl,sq,op,k,v,o⟩])):=(Z6.e ho5 (by intro y hy;rcases List.mem_append.1 hy with hy | hy;exact HOf.out y hy;rw [List.mem_singleton] at hy;subst hy;exact HFt.out));obtain ⟨a5,c5,e5'⟩:=ho5.shape;rw [List.length_append,List.length_singleton] at e5';have HG5:Hid (Jy _ (.slice la r.n.log.length lc) w5 v5):=hg5;have BR5:Hid (Blk w5 b (rnC r x) 112):=(BR3.out.drew.alloc _).keep (hg5.g.block b (by simp;omega) (fun e=>HNO.out e.symm));obtain ⟨vq,p12⟩:∃ vq,w5.cell? ⟨b,12,none⟩=some vq:=⟨_,BR5.out.cell 12⟩;have pf:=BR5.out.free;subst e5';clear ho5 hg5)
  all_goals go_wp2_with fail
  all_goals go_meet
  all_goals exact ⟨_,HFin.out _ _ HO5.out _ ((Below.refl _ _).drew.alloc (Nat.le_refl _) _) HG5.out⟩
 case rest=>
  obtain ⟨v5,hR5,hB5⟩:=hcut;have HS5:Hid _:=HSa.out wc { x with vl:=v5 } hL hR5;have HB5:Hid _:=hB5;clear hR5 hB5
  go_wp2_with (first
   |(go_at_call 126;refine Calls.mono HS5.out ?_;rintro e w9 ⟨x9,rfl,hR9,hb9,-⟩;have HR9:Hid _:=hR9;have HB9:Hid (Below B w w9):=HB5.out.trans hb9;clear hR9 hb9))
  (try simp only [Exit.inBlock,Exit.then])
  exact bodyPost_end (results_none rfl _ _ _) rfl ⟨x9,rfl,by rw [HQ5.out];exact HR9.out,HB9.out⟩
end Go.Proofs.YtmmpoppgabadmaaGreat
