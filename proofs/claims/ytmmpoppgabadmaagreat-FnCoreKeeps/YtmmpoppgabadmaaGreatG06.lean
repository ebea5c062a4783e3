import Derived.Test.YtmmpoppgabadmaaGreatG05
import Derived.Deep.DeepCutAuto
set_option linter.unusedVariables false
set_option linter.unusedSimpArgs false
set_option maxRecDepth 100000
set_option maxHeartbeats 16000000
open Go renaming results_none → Au,bodyPost_ret → A8
open Go.Exit renaming inBlock → Av
open _root_.List renaming length_append → Bc
namespace Go.Proofs.YtmmpoppgabadmaaGreat
open Go.RowKit
theorem l4propose_any (b:Nat)(r:Rn)(x:RV)(cl sq op:Int)(k v o:ByteArray)(w:World)(B:Nat)(h:Ze w B b r x)(hb:NdB r.n)(hL:x.L = [])(hd:r.n.ro=3->LdB r.n r.n.sz.toNat)(hk:k.size<=maxLen)(hv:v.size<=maxLen)(ho:o.size<=maxLen) :
  Calls Tryz.prog 78 #[.pointer (some ⟨b,0,none⟩),.agg (cqN cl sq op k v o)] w λe w'=>∃ x',e=.returned (.tuple #[])/\Ze w' B b (r.propose (decide (Z13 cl sq op k.size v.size o.size≠0∨op=0)) cl sq op k v o) x'/\Below B w w':=by
 have HR:Hid (∀ z,Below w.heap.size w z->Ze z B b r x):=λz hz=>h.below hz
 have aq:=Nat.le_trans h.lo (Nat.le_of_lt h.lt);have bq:=h.lt;obtain ⟨la,lc,aj⟩:=h.log.shape;have aw:=Z0 aj;have aa:=Z0 λz=>Z0f cl sq op k v o hk hv ho z
 have HQ:Hid (r.propose (decide (Z13 cl sq op k.size v.size o.size≠0∨op=0)) cl sq op k v o=if decide (Z13 cl sq op k.size v.size o.size≠0∨op=0)=true then { r with code:=6 } else if r.n.ro≠3 then { r with code:=4 } else if 4096<=r.n.log.length then { r with code:=5 } else Rn.sendAll { r with n:={ r.n with log:=r.n.log ++ [⟨r.n.tm,cl,sq,op,k,v,o⟩] } }):=rfl;generalize r.propose (decide (Z13 cl sq op k.size v.size o.size≠0∨op=0)) cl sq op k v o=RP at *;generalize Z13 cl sq op k.size v.size o.size=F at *;have ac:Hid (Below w.heap.size w (w.alloc (.cells (cqN cl sq op k v o) 44))):=baq;have l:Hid (Blk (w.alloc (.cells (cqN cl sq op k v o) 44)) w.heap.size (cqN cl sq op k v o) 44):=Blk.new _ _ _;have ad:w.heap.size<(w.alloc (.cells (cqN cl sq op k v o) 44)).heap.size:=by simp
 have HC:Hid (∀ z,Below w.heap.size w z->z.cell? ⟨b,6,none⟩=some (.int .i64 r.n.ro)/\z.cell? ⟨b,12,none⟩=some (.slice la r.n.log.length lc)/\z.cell? ⟨b,4,none⟩=some (.int .i64 r.n.tm)/\z.cell? ⟨b,19,none⟩=some (.int .i64 r.code)/\z.frozen? ⟨b,19,none⟩=false):=λz hz=>⟨(h.below hz).blk.cell 6,aj▸(h.below hz).blk.cell 12,(h.below hz).blk.cell 4,(h.below hz).blk.cell 19,(h.below hz).blk.free 19⟩
 have s:Hid (∀ z,Below w.heap.size w z->∀ c:Int,Ze (z.setCell ⟨b,19,none⟩ (.int .i64 c)) B b { r with code:=c } x/\Below B w (z.setCell ⟨b,19,none⟩ (.int .i64 c))):=λz hz c=>⟨(h.below hz).set 19 _,(hz.mono aq).trans ((h.below hz).setB 19 _)⟩
 have bb:Hid (Ent.fits ⟨r.n.tm,cl,sq,op,k,v,o⟩):=⟨hk,hv,ho⟩;have ba:=Z0 hb.ln;have bo:=hb.ln;clear h aj hk hv ho;have af:¬(F≠0∨op=0)->F=0/\op≠0:=λhn=>⟨Classical.byContradiction λh=>hn (.inl h),λh=>hn (.inr h)⟩
 go_enter Tryz.func78,Tryz.ntmps78
 go_upto_region 1 with fail
 generalize w.alloc (.cells (cqN cl sq op k v o) 44)=w1 at *;have m0:=l.out.cell 0;have m1:=l.out.cell 1;have m2:=l.out.cell 2;have m3:=l.out.cell 3;have m4:=l.out.cell 4;have m5:=l.out.cell 5;by_cases m:F≠0∨op=0
 ·have a0:=Z0 (HQ.trans (if_pos (decide_eq_true m)))
  by_cases hF:F=0
  ·subst hF
   have t:=m.elim (λh=>absurd rfl h) id;subst t;clear m af
   go_wp2_with (first
    |(go_at_call 125;refine (aa _).mono ?_;rintro e i ⟨rfl,d⟩;have a:=Z0 (ac.trans (d.mono (by omega)));obtain ⟨k6,ah,k4,ai,ag⟩:=HC.out i a;have f:=Z0 (l.out.below d ad);have n2:=f.out.cell 2;clear d))
   (try simp only [Av,Exit.then])
   exact A8 (Au rfl _ _ _) rfl ⟨x,rfl,a0.out▸(s _ a 6).1,(s _ a 6).2⟩
  ·have bn:(F != 0)=true:=by simpa using hF
   clear m af hF
   go_wp2_with (first
    |(go_at_call 125;refine (aa _).mono ?_;rintro e i ⟨rfl,d⟩;have a:=Z0 (ac.trans (d.mono (by omega)));obtain ⟨k6,ah,k4,ai,ag⟩:=HC.out i a;have f:=Z0 (l.out.below d ad);have n2:=f.out.cell 2;clear d))
   (try simp only [Av,Exit.then])
   exact A8 (Au rfl _ _ _) rfl ⟨x,rfl,a0.out▸(s _ a 6).1,(s _ a 6).2⟩
 obtain ⟨a8,t⟩:=af m;subst a8;have bi:(op == 0)=false:=by simpa using t
 have ae:=Z0 (HQ.trans (if_neg (by simpa using t)));clear m af HQ t;by_cases u:r.n.ro=3
 case neg=>
  have a4:(r.n.ro != 3)=true:=by simpa using u
  have ab:=Z0 (ae.trans (if_pos u));clear u ae
  go_wp2_with (first
   |(go_at_call 125;refine (aa _).mono ?_;rintro e i ⟨rfl,d⟩;have a:=Z0 (ac.trans (d.mono (by omega)));obtain ⟨k6,ah,k4,ai,ag⟩:=HC.out i a;have f:=Z0 (l.out.below d ad);have n2:=f.out.cell 2;clear d))
  (try simp only [Av,Exit.then])
  exact A8 (Au rfl _ _ _) rfl ⟨x,rfl,ab.out▸(s _ a 4).1,(s _ a 4).2⟩
 have a4:(r.n.ro != 3)=false:=by simpa using u
 have ab:=Z0 (ae.trans (if_neg (λh=>h u)));have HD:=Z0 (hd u);clear ae hd u;by_cases p:4096<=r.n.log.length
 ·have a6:(4096:Int)<=(r.n.log.length:Int):=by omega
  have ak:=Z0 (ab.trans (if_pos p));clear p ab
  go_wp2_with (first
   |(go_at_call 125;refine (aa _).mono ?_;rintro e i ⟨rfl,d⟩;have a:=Z0 (ac.trans (d.mono (by omega)));obtain ⟨k6,ah,k4,ai,ag⟩:=HC.out i a;have f:=Z0 (l.out.below d ad);have n2:=f.out.cell 2;clear d))
  (try simp only [Av,Exit.then])
  exact A8 (Au rfl _ _ _) rfl ⟨x,rfl,ak.out▸(s _ a 5).1,(s _ a 5).2⟩
 have a6:¬(4096:Int)<=(r.n.log.length:Int):=by omega
 have ak:=Z0 (ab.trans (if_neg p))
 have bd:Hid (∀ z xx,xx.L = []->Ze z B b { r with n:={ r.n with log:=r.n.log ++ [⟨r.n.tm,cl,sq,op,k,v,o⟩] } } xx->Calls Tryz.prog 126 #[.pointer (some ⟨b,0,none⟩)] z λe w'=>∃ x',e=.returned (.tuple #[])/\Ze w' B b (Rn.sendAll { r with n:={ r.n with log:=r.n.log ++ [⟨r.n.tm,cl,sq,op,k,v,o⟩] } }) x'/\Below B z w'/\x'.L.length<=xx.L.length+7):=λz xx hxx hz=>Z4s b _ xx z B hz
  ⟨hb.nw0,hb.nw1,hb.hd0,hb.hd1,hb.sz0,hb.sz1,hb.id0,hb.id1,by show (r.n.log ++ [_]).length<=4096;rw [Bc];simp;omega⟩ (by rw [hxx];simp)
  ⟨HD.nxl,HD.stl,λJ hJ hne=>by obtain ⟨P,hP,e⟩:=HD.nx J hJ hne;exact ⟨P,Nat.le_trans hP (by show _<=(r.n.log ++ [_]).length;rw [Bc];omega),e⟩⟩
 clear ab p HD hb
 go_upto_region 7 with (first
  |(go_at_call 125;refine (aa _).mono ?_;rintro e i ⟨rfl,d⟩;have a:=Z0 (ac.trans (d.mono (by omega)));obtain ⟨k6,ah,k4,ai,ag⟩:=HC.out i a;have f:=Z0 (l.out.below d ad);have n2:=f.out.cell 2;clear d))
 have t0:=f.out.cell 0;have t1:=f.out.cell 1;have t3:=f.out.cell 3;have t4:=f.out.cell 4;have t5:=f.out.cell 5;have am:Hid (Zh i B (.slice la r.n.log.length lc) r.n.log):=aw.out▸(HR i a).log
 have a1:=Z0 ((HR i a).blk);have bu:=f.out.lt;have pa:∀(o:Obj) (j:Nat),(i.alloc o).cell? ⟨b,j,none⟩=i.cell? ⟨b,j,none⟩:=λo j=>World.cell?_alloc_lt _ _ _ (by show b<i.heap.size;omega)
 have a3:=Z0 λe=>Y5 am a1.out (by decide) _ e rfl
 have ao:Hid (∀ w5 v5,Zh w5 B v5 (r.n.log ++ [⟨r.n.tm,cl,sq,op,k,v,o⟩])->∀ w4,Below i.heap.size i w4->Ye w4 (.slice la r.n.log.length lc) w5 v5->Ze (w5.setCell ⟨b,12,none⟩ v5) B b { r with n:={ r.n with log:=r.n.log ++ [⟨r.n.tm,cl,sq,op,k,v,o⟩] } } { x with vl:=v5 }/\Below B w (w5.setCell ⟨b,12,none⟩ v5)):=λw5 v5 ho w4 h4 hg=>by
  rw [<-aw.out] at hg;have h9:=(HR i a).logAt hL h4 ho hg;exact ⟨h9.1,(a.mono aq).trans h9.2⟩
 have a2:=Z0 am.1;clear aa HC s
 go_cut [52] (λ_ wx=>∃ v5,Ze wx B b { r with n:={ r.n with log:=r.n.log ++ [⟨r.n.tm,cl,sq,op,k,v,o⟩] } } { x with vl:=v5 }/\Below B w wx)
 case first=>
  go_region_law
   (refine Z00 entLaw rfl _ _ rfl ⟨r.n.tm,cl,sq,op,k,v,o⟩ (Zc.below (Zc.below am.g ((Below.refl _ _).drew)) baq) rfl _ 1 (Z04 _ _ _) rfl (by omega) (by simp;omega) ?_;intro v5 w5 an al;have a9:=Z0 ((Zc.e an (by intro y hy;rcases List.mem_append.1 hy with hy | hy;exact a2 y hy;rw [List.mem_singleton] at hy;subst hy;exact bb)));obtain ⟨a5,c5,au⟩:=an.shape;rw [Bc,List.length_singleton] at au;have bh:Hid (Ye _ (.slice la r.n.log.length lc) w5 v5):=al;have ar:=Z0 ((a1.out.drew.alloc _).keep (al.g.block b (by simp;omega) (λe=>a3 e.symm)));obtain ⟨vq,bp⟩:∃ vq,w5.cell? ⟨b,12,none⟩=some vq:=⟨_,ar.out.cell 12⟩;have pf:=ar.out.free;subst au;clear an al)
  all_goals go_wp2_with fail
  all_goals go_meet
  all_goals exact ⟨_,ao.out _ _ a9 _ ((Below.refl _ _).drew.alloc (Nat.le_refl _) _) bh⟩
 case rest=>
  obtain ⟨v5,az,ax⟩:=hcut;have be:Hid _:=bd.out wc { x with vl:=v5 } hL az;have bg:=Z0 ax;clear az ax
  go_wp2_with (first
   |(go_at_call 126;refine Calls.mono be ?_;rintro e w9 ⟨x9,rfl,ay,av,-⟩;have bc:Hid _:=ay;have a7:=Z0 (bg.trans av);clear ay av))
  (try simp only [Av,Exit.then])
  exact bodyPost_end (Au rfl _ _ _) rfl ⟨x9,rfl,ak.out▸bc,a7.out⟩
end Go.Proofs.YtmmpoppgabadmaaGreat
