import Derived.Test.YtmmpoppgabadmaaGreatG50
import Derived.Test.YtmmpoppgabadmaaGreatG51
import Derived.BigQuiet
set_option linter.unusedVariables false
set_option linter.unusedSimpArgs false
set_option maxRecDepth 100000
set_option maxHeartbeats 16000000
namespace Go.Proofs.YtmmpoppgabadmaaGreat
open Go.RowKit
theorem sizeSaB:(Tryz.prog.info? 39).map (·.size)=some 21:=by kernel_rfl
theorem Blk.ty {w:World}{b:Nat}{C D:Array Value}{t s:TypeId}(h:Blk w b C t)(h2:Blk w b D s):t=s:=by
 have h1:w.heap[b]? = some (.cells C t (0,0)):=h;have h9:w.heap[b]? = some (.cells D s (0,0)):=h2;rw [h9] at h1;injection h1 with h1;injection h1 with _ h1;exact h1.symm
structure BtO (w0 w:World) (bn:Nat) (SV:Value) (n:Nd) (x:RV):Prop where
 nd:NdS w w0.heap.size bn n x
 lo:w0.heap.size<=bn
 sent:Zg inC 1 3 w w0.heap.size SV n.st
 ap:∀ v∈[x.vg,x.vn,x.vm,x.vs,x.vt],Ya SV v
 bel:Below w0.heap.size w0 w
structure BtH (w0 w:World) (bn bg:Nat) (SV:Value) (n:Nd) (x:RV) (R:Rn) (X:RV):Prop where
 o:BtO w0 w bn SV n x
 gb:Blk w bg (saC R X) 39
 blo:w0.heap.size<=bg
 ans:Jr w w0.heap.size R X
 ap:∀ v∈[X.vg,X.vn,X.vm,X.vs,X.vt],Ya SV v
structure BtI (w0 w:World) (bn bg:Nat) (SV:Value) (S:List Int) (R:Rn) (X:RV):Prop where
 nd:NdS w w0.heap.size bn R.n X
 lo:w0.heap.size<=bn
 gb:Blk w bg (saC R X) 39
 out:Zg omC 10 43 w w0.heap.size X.vo X.L
 outC:X.L.map (·.m)=R.out
 sent:Zg inC 1 3 w w0.heap.size SV S
 ap:∀ v∈[X.vg,X.vn,X.vm,X.vs,X.vt],Ya SV v
 bel:Below w0.heap.size w0 w
section
variable {w0 w w':World} {bn bg:Nat} {SV:Value} {S:List Int} {n:Nd} {x X:RV} {R:Rn}
theorem BtO.below (h:BtO w0 w bn SV n x)(hb:Below w.heap.size w w'):BtO w0 w' bn SV n x:=⟨h.nd.below hb,h.lo,h.sent.below hb,h.ap,h.bel.trans (hb.mono h.bel.size)⟩
theorem BtI.below (h:BtI w0 w bn bg SV S R X)(hb:Below w.heap.size w w'):BtI w0 w' bn bg SV S R X:=⟨h.nd.below hb,h.lo,h.gb.below hb h.gb.lt,h.out.below hb,h.outC,h.sent.below hb,h.ap,h.bel.trans (hb.mono h.bel.size)⟩
theorem BtI.drewN (h:BtI w0 w bn bg SV S R X)(q:Nat):BtI w0 (w.drewN q) bn bg SV S R X:=h.below ⟨rfl,rfl,rfl,Nat.le_refl _,fun _ _=>rfl⟩
theorem BtO.step {wa:World}(h:BtO w0 w bn SV n x)(ha:Jr wa w.heap.size R X)(hb:Below w.heap.size w wa):BtH w0 (wa.alloc (.cells (saC R X) 39)) bn wa.heap.size SV n x R X:=by
 have hal:Below wa.heap.size wa (wa.alloc (.cells (saC R X) 39)):=(Below.refl _ _).alloc (Nat.le_refl _) _;refine ⟨(h.below hb).below hal,Blk.new _ _ _,?_,?_,?_⟩
 ·have:=h.bel.size;have:=hb.size;omega
 ·refine Jr.le (Jr.mk ?_ ?_ ?_ ?_ ?_ ?_ ?_ ha.outC ?_ ha.ap) h.bel.size
  ·exact ha.log.below hal
  ·exact ha.gr.below hal
  ·exact ha.nx.below hal
  ·exact ha.mt.below hal
  ·exact ha.se.below hal
  ·exact ha.st.below hal
  ·exact ha.out.below hal
  ·exact fun p hp=>(ha.ents p hp).below hal
 ·intro v hv k e1 e2
  have h1:=(h.sent.lts k e1).2
  have h2:w.heap.size<=k:=by
   simp only [List.mem_cons,List.not_mem_nil,or_false] at hv;rcases hv with rfl | rfl | rfl | rfl | rfl
   ·exact (ha.gr.lts k e2).1
   ·exact (ha.nx.lts k e2).1
   ·exact (ha.mt.lts k e2).1
   ·exact (ha.se.lts k e2).1
   ·exact (ha.st.lts k e2).1
  omega
theorem BtH.take (h:BtH w0 w bn bg SV n x R X):BtI w0 (w.setRow bn (ndC R.n X)) bn bg SV n.st R X:=by
 have hset:∀ q,q≠bn->(w.setRow bn (ndC R.n X)).heap[q]? = w.heap[q]?:=fun q hq=>setRow_other _ _ _ _ hq
 have hB:=h.o.nd.blk
 have hne:bg≠bn:=fun e=>by
  have h1:=h.gb;rw [e] at h1;exact absurd (h1.ty hB) (by decide)
 refine ⟨NdS.row hB rfl h.ans.ndo,h.o.lo,h.gb.keep (hset bg hne),h.ans.out.block fun q e=>hset q (Zu h.ans.out hB (by decide) q e),h.ans.outC,h.o.sent.block fun q e=>hset q (Zu h.o.sent hB (by decide) q e),h.ap,X4 h.o.bel h.o.lo _⟩
theorem BtI.sentT {sb sc:Nat}{N:Nat}(h:BtI w0 w bn bg (.slice (some ⟨sb,0,none⟩) N sc) S R X)(j:Nat)(hj:j<S.length)(y:Int):BtI w0 (w.setCell ⟨sb,j,none⟩ (.int .i64 y)) bn bg (.slice (some ⟨sb,0,none⟩) N sc) (S.set j y) R X:=by
 have hset:∀ q,q≠sb->(w.setCell ⟨sb,j,none⟩ (.int .i64 y)).heap[q]? = w.heap[q]?:=fun q hq=>Below.heap_setCell _ _ _ _ hq
 have hn:sb≠bn:=Zu h.sent h.nd.blk (by decide) sb rfl;have hg:sb≠bg:=Zu h.sent h.gb (by decide) sb rfl;have hmv:∀ {v:Value} {l:List Int},v∈[X.vg,X.vn,X.vm,X.vs,X.vt]->Zg inC 1 3 w w0.heap.size v l->Zg inC 1 3 (w.setCell ⟨sb,j,none⟩ (.int .i64 y)) w0.heap.size v l:=fun hv ho=>ho.block fun q e=>hset q fun e'=>h.ap _ hv q (by rw [e'];rfl) e
 refine ⟨⟨h.nd.blk.keep (hset bn hn.symm),⟨h.nd.own.log.block fun q e=>hset q fun e'=>?_,hmv (by simp) h.nd.own.gr,hmv (by simp) h.nd.own.nx,hmv (by simp) h.nd.own.mt,hmv (by simp) h.nd.own.se,hmv (by simp) h.nd.own.st,h.nd.own.ap⟩⟩,h.lo,h.gb.keep (hset bg hg.symm),h.out.block fun q e=>hset q fun e'=>?_,h.outC,Z0p h.sent j hj y,h.ap,h.bel.setCell (p:=⟨sb,j,none⟩) (h.sent.lts sb rfl).1 _⟩
 ·exact J3 h.nd.own.log.g h.sent (by decide) q e (by rw [e'];rfl)
 ·exact J3 h.out h.sent (by decide) q e (by rw [e'];rfl)
theorem BtI.again (h:BtI w0 w bn bg SV R.n.st R X):BtO w0 w bn SV R.n X:=⟨h.nd,h.lo,h.sent,h.ap,h.bel⟩
end
theorem bt17 {w0:World}{bn bg j:Nat}{SV e5 e8:Value}{S:List Int}{R:Rn}{X:RV}(hj:(j:Int)+1<=R.n.sz){Q:Exit->Act->World->Prop}{K:Act->World->Prop}{a:Act}{w:World}(hF:SzD a 121)(h3:a.eval (.tmp 3)=.pointer (some ⟨bn,0,none⟩))(h4:a.eval (.tmp 4)=SV)(h5:a.eval (.tmp 5)=e5)(h7:a.eval (.tmp 7)=.pointer (some ⟨bg,0,none⟩))(h8:a.eval (.tmp 8)=e8)(h9:a.eval (.tmp 9)=.int .i64 ((j:Int)+1))(hS:BtI w0 w bn bg SV S R X)(hP:∀ a' w',SzD a' 121->a'.eval (.tmp 3)=.pointer (some ⟨bn,0,none⟩)->a'.eval (.tmp 4)=SV->a'.eval (.tmp 5)=e5->a'.eval (.tmp 7)=.pointer (some ⟨bg,0,none⟩)->a'.eval (.tmp 8)=e8->a'.eval (.tmp 9)=.int .i64 ((j:Int)+1)->BtI w0 w' bn bg SV S R X->K a' w'):(Z2 0 (Zy (Zf (Z1 1 (Z2 6 (Zf (Z2 1 (Zy (Zf (Z1 1 (Z2 4 (Z9 Tryz.f5)))))))))))).wp Tryz.prog (Exit.then K Q) a w:=by
 obtain ⟨t,rfl⟩:=hF.opened;clear hF;rw [show lst t 0 121 = [t 0,t 1,t 2,t 3,t 4,t 5,t 6,t 7,t 8,t 9,t 10,t 11,t 12,t 13,t 14,t 15,t 16,t 17,t 18,t 19,t 20,t 21,t 22,t 23,t 24,t 25,t 26,t 27,t 28,t 29,t 30,t 31,t 32,t 33,t 34,t 35,t 36,t 37,t 38,t 39,t 40,t 41,t 42,t 43,t 44,t 45,t 46,t 47,t 48,t 49,t 50,t 51,t 52,t 53,t 54,t 55,t 56,t 57,t 58,t 59,t 60,t 61,t 62,t 63,t 64,t 65,t 66,t 67,t 68,t 69,t 70,t 71,t 72,t 73,t 74,t 75,t 76,t 77,t 78,t 79,t 80,t 81,t 82,t 83,t 84,t 85,t 86,t 87,t 88,t 89,t 90,t 91,t 92,t 93,t 94,t 95,t 96,t 97,t 98,t 99,t 100,t 101,t 102,t 103,t 104,t 105,t 106,t 107,t 108,t 109,t 110,t 111,t 112,t 113,t 114,t 115,t 116,t 117,t 118,t 119,t 120] from rfl]
 try dsimp only
 rw [show t 3=.pointer (some ⟨bn,0,none⟩) from h3];rw [show t 4=SV from h4];rw [show t 5=e5 from h5];rw [show t 7=.pointer (some ⟨bg,0,none⟩) from h7];rw [show t 8=e8 from h8];rw [show t 9=.int .i64 ((j:Int)+1) from h9];clear h3 h4 h5 h7 h8 h9;have c1:w.cell? ⟨bn,1,none⟩=some (.int .i64 R.n.sz):=hS.nd.blk.cell 1;have HS:Hid (BtI w0 w bn bg SV S R X):=hS;clear hS
 conv=>arg 2;whnf
 go_wp2_with fail
 exact hP _ _ ⟨rfl,rfl⟩ rfl rfl rfl rfl rfl rfl HS.out
theorem bt17x {T:Exit->Act->World->Prop}{K:Act->World->Prop}{a:Act}{w:World}{w0:World}{bn bg j:Nat}{SV e5 e8:Value}{S:List Int}{R:Rn}{X:RV}(hj:R.n.sz<(j:Int)+1)(hF:SzD a 121)(h3:a.eval (.tmp 3)=.pointer (some ⟨bn,0,none⟩))(h4:a.eval (.tmp 4)=SV)(h5:a.eval (.tmp 5)=e5)(h7:a.eval (.tmp 7)=.pointer (some ⟨bg,0,none⟩))(h8:a.eval (.tmp 8)=e8)(h9:a.eval (.tmp 9)=.int .i64 ((j:Int)+1))(hS:BtI w0 w bn bg SV S R X)(hP:∀ a',SzD a' 121->a'.eval (.tmp 3)=.pointer (some ⟨bn,0,none⟩)->a'.eval (.tmp 4)=SV->a'.eval (.tmp 5)=e5->a'.eval (.tmp 7)=.pointer (some ⟨bg,0,none⟩)->a'.eval (.tmp 8)=e8->T (.exit 2) a' w):(Zy (Zf (Z1 1 (Z2 6 (Zf (Z2 1 (Zy (Zf (Z1 1 (Z2 4 (Z9 Tryz.f5))))))))))).wp Tryz.prog (Exit.then K T) a w:=by
 obtain ⟨t,rfl⟩:=hF.opened;clear hF;rw [show lst t 0 121 = [t 0,t 1,t 2,t 3,t 4,t 5,t 6,t 7,t 8,t 9,t 10,t 11,t 12,t 13,t 14,t 15,t 16,t 17,t 18,t 19,t 20,t 21,t 22,t 23,t 24,t 25,t 26,t 27,t 28,t 29,t 30,t 31,t 32,t 33,t 34,t 35,t 36,t 37,t 38,t 39,t 40,t 41,t 42,t 43,t 44,t 45,t 46,t 47,t 48,t 49,t 50,t 51,t 52,t 53,t 54,t 55,t 56,t 57,t 58,t 59,t 60,t 61,t 62,t 63,t 64,t 65,t 66,t 67,t 68,t 69,t 70,t 71,t 72,t 73,t 74,t 75,t 76,t 77,t 78,t 79,t 80,t 81,t 82,t 83,t 84,t 85,t 86,t 87,t 88,t 89,t 90,t 91,t 92,t 93,t 94,t 95,t 96,t 97,t 98,t 99,t 100,t 101,t 102,t 103,t 104,t 105,t 106,t 107,t 108,t 109,t 110,t 111,t 112,t 113,t 114,t 115,t 116,t 117,t 118,t 119,t 120] from rfl]
 try dsimp only
 rw [show t 3=.pointer (some ⟨bn,0,none⟩) from h3];rw [show t 4=SV from h4];rw [show t 5=e5 from h5];rw [show t 7=.pointer (some ⟨bg,0,none⟩) from h7];rw [show t 8=e8 from h8];rw [show t 9=.int .i64 ((j:Int)+1) from h9];clear h3 h4 h5 h7 h8 h9;have c1:w.cell? ⟨bn,1,none⟩=some (.int .i64 R.n.sz):=hS.nd.blk.cell 1;have HP:Hid (∀ a',SzD a' 121->a'.eval (.tmp 3)=.pointer (some ⟨bn,0,none⟩)->a'.eval (.tmp 4)=SV->a'.eval (.tmp 5)=e5->a'.eval (.tmp 7)=.pointer (some ⟨bg,0,none⟩)->a'.eval (.tmp 8)=e8->T (.exit 2) a' w):=hP;clear hP hS
 conv=>arg 2;whnf
 go_wp2_with fail
 exact HP.out _ ⟨rfl,rfl⟩ rfl rfl rfl rfl rfl
theorem bt19 {w0:World}{bn bg j:Nat}{SV e5 e8:Value}{S:List Int}{R:Rn}{X:RV}(hjS:j<S.length)(hjj:j<=100)(hnw:0<=R.n.nw/\R.n.nw<=1099511627776)(hsj:0<=S.getD j 0/\S.getD j 0<=1099511627776){Q:Exit->Act->World->Prop}{K:Act->World->Prop}{a:Act}{w:World}(hF:SzD a 121)(h3:a.eval (.tmp 3)=.pointer (some ⟨bn,0,none⟩))(h4:a.eval (.tmp 4)=SV)(h5:a.eval (.tmp 5)=e5)(h7:a.eval (.tmp 7)=.pointer (some ⟨bg,0,none⟩))(h8:a.eval (.tmp 8)=e8)(h9:a.eval (.tmp 9)=.int .i64 ((j:Int)+1))(hS:BtI w0 w bn bg SV S R X)(hP:∀ a' w',SzD a' 121->a'.eval (.tmp 3)=.pointer (some ⟨bn,0,none⟩)->a'.eval (.tmp 4)=SV->a'.eval (.tmp 5)=e5->a'.eval (.tmp 7)=.pointer (some ⟨bg,0,none⟩)->a'.eval (.tmp 8)=e8->a'.eval (.tmp 9)=.int .i64 ((j:Int)+1)->a'.eval (.tmp 83)=.bool (decide (¬((j:Int)+1≠R.n.id/\R.n.bt<=R.n.nw-S.getD j 0)))->BtI w0 w' bn bg SV S R X->K a' w'):(Z2 0 (Z2 0 (Zf (Z2 1 (Zy (Zf (Z1 1 (Z2 6 (Zf (Z2 1 (Zy (Zf (Z1 1 (Z2 4 (Z9 Tryz.f5))))))))))))))).wp Tryz.prog (Exit.then K Q) a w:=by
 obtain ⟨t,rfl⟩:=hF.opened;clear hF;rw [show lst t 0 121 = [t 0,t 1,t 2,t 3,t 4,t 5,t 6,t 7,t 8,t 9,t 10,t 11,t 12,t 13,t 14,t 15,t 16,t 17,t 18,t 19,t 20,t 21,t 22,t 23,t 24,t 25,t 26,t 27,t 28,t 29,t 30,t 31,t 32,t 33,t 34,t 35,t 36,t 37,t 38,t 39,t 40,t 41,t 42,t 43,t 44,t 45,t 46,t 47,t 48,t 49,t 50,t 51,t 52,t 53,t 54,t 55,t 56,t 57,t 58,t 59,t 60,t 61,t 62,t 63,t 64,t 65,t 66,t 67,t 68,t 69,t 70,t 71,t 72,t 73,t 74,t 75,t 76,t 77,t 78,t 79,t 80,t 81,t 82,t 83,t 84,t 85,t 86,t 87,t 88,t 89,t 90,t 91,t 92,t 93,t 94,t 95,t 96,t 97,t 98,t 99,t 100,t 101,t 102,t 103,t 104,t 105,t 106,t 107,t 108,t 109,t 110,t 111,t 112,t 113,t 114,t 115,t 116,t 117,t 118,t 119,t 120] from rfl]
 try dsimp only
 rw [show t 3=.pointer (some ⟨bn,0,none⟩) from h3];rw [show t 4=SV from h4];rw [show t 5=e5 from h5];rw [show t 7=.pointer (some ⟨bg,0,none⟩) from h7];rw [show t 8=e8 from h8];rw [show t 9=.int .i64 ((j:Int)+1) from h9];clear h3 h4 h5 h7 h8 h9;obtain ⟨sb,sc,hsv,_,cs,_⟩:=int_row hS.sent j hjS;have hgd:S.getD j 0=S[j]:=by rw [List.getD_eq_getElem?_getD,List.getElem?_eq_getElem hjS];rfl
 rw [hgd] at hP hsj;obtain ⟨sj,hsje⟩:∃ q,q=S[j]:=⟨_,rfl⟩;rw [<-hsje] at hP hsj cs;have HS:Hid (BtI w0 w bn bg SV S R X):=hS;have c0:w.cell? ⟨bn,0,none⟩=some (.int .i64 R.n.id):=hS.nd.blk.cell 0;have c3:w.cell? ⟨bn,3,none⟩=some (.int .i64 R.n.bt):=hS.nd.blk.cell 3;have c9:w.cell? ⟨bn,9,none⟩=some (.int .i64 R.n.nw):=hS.nd.blk.cell 9;obtain ⟨N,hN⟩:∃ N,N=S.length:=⟨_,rfl⟩;rw [<-hN] at hsv hjS;clear hN hsje hgd hS;have HV:Hid (SV=.slice (some ⟨sb,0,none⟩) N sc):=hsv;rw [hsv];clear hsv;have hid0:=HS.out;obtain ⟨id,hid⟩:∃ q,q=R.n.id:=⟨_,rfl⟩;obtain ⟨bt,hbt⟩:∃ q,q=R.n.bt:=⟨_,rfl⟩;obtain ⟨nw,hnw'⟩:∃ q,q=R.n.nw:=⟨_,rfl⟩;rw [<-hid] at c0 hP;rw [<-hbt] at c3 hP;rw [<-hnw'] at c9 hP hnw;clear hid hbt hnw' hid0;have hsi:(j:Int)<(N:Int):=by omega
 have hwk:IntKind.i64.wrap ((j:Int)+1-1)=(j:Int):=by rw [IntKind.wrap_i64];omega
 have hws:IntKind.i64.wrap (nw-sj)=nw-sj:=by rw [IntKind.wrap_i64];omega
 conv=>arg 2;whnf
 by_cases g1:(j:Int)+1=id
 ·have g1b:(((j:Int)+1) == id)=true:=by simpa using g1
  have G1:Hid ((j:Int)+1=id):=g1;clear g1
  try dsimp only
  go_quiet (fail)
  exact hP _ _ ⟨rfl,rfl⟩ rfl (by rw [HV.out];rfl) rfl rfl rfl rfl (by have g1:=G1.out;simp [Act.eval,g1]) (HS.out.drewN _)
 ·have g1b:(((j:Int)+1) == id)=false:=by simpa using g1
  have G1:Hid (¬(j:Int)+1=id):=g1;clear g1;by_cases g2:nw-sj<bt
  ·have g3:¬ bt<=nw-sj:=by omega
   try dsimp only
   go_quiet (fail)
   exact hP _ _ ⟨rfl,rfl⟩ rfl (by rw [HV.out];rfl) rfl rfl rfl rfl (by have g1:=G1.out;simp [Act.eval,g1,g3]) (HS.out.drewN _)
  ·have g3:bt<=nw-sj:=by omega
   try dsimp only
   go_quiet (fail)
   exact hP _ _ ⟨rfl,rfl⟩ rfl (by rw [HV.out];rfl) rfl rfl rfl rfl (by have g1:=G1.out;simp [Act.eval,g1,g3]) (HS.out.drewN _)
theorem BtI.msgAt {w0 w:World}{bn bg q:Nat}{SV:Value}{S:List Int}{R:Rn}{X:RV}(hS:BtI w0 w bn bg SV S R X){m:Mg}(hm:R.out[q]? = some m):∃ ob oc,X.vo=.slice (some ⟨ob,0,none⟩) X.L.length oc/\q<X.L.length/\X.L.length=R.out.length/\w.cell? ⟨ob,q*10,none⟩=some (.int .i64 m.ki)/\w.cell? ⟨ob,q*10+2,none⟩=some (.int .i64 m.td):=by
 have hlen:X.L.length=R.out.length:=by have:=congrArg List.length hS.outC;simpa using this
 have hq:q<X.L.length:=by rw [hlen];exact (List.getElem?_eq_some_iff.1 hm).1
 obtain ⟨ob,oc,hv⟩:=hS.out.shape' (by omega);have ho:=hS.out;rw [hv] at ho
 have hmm:(X.L[q]).m=m:=by
  have h9:=hm;rw [<-hS.outC,List.getElem?_map,List.getElem?_eq_getElem hq] at h9;injection h9
 have hc:∀ t,t<10->w.cell? ⟨ob,q*10+t,none⟩=(omC X.L[q])[t]?:=fun t ht=>by
  have hle:=row_le (m:=10) hq (Nat.le_refl _);rw [World.ownsRow.cellAt ho (q*10+t) (by omega),gC_get omLaw.len X.L q hq t ht]
 refine ⟨ob,oc,hv,hq,hlen,?_,?_⟩
 ·have h9:=hc 0 (by omega)
  rw [Nat.add_zero] at h9;rw [h9,<-hmm];rfl
 ·rw [hc 2 (by omega),<-hmm]
  rfl
theorem bt20 {w0:World}{bn bg j:Nat}{SV e5:Value}{S:List Int}{R:Rn}{X:RV}{q:Nat}(hq1:q<=1000){m:Mg}(hm:R.out[q]? = some m)(hk5:m.ki=5)(htd:m.td=(j:Int)+1){Q:Exit->Act->World->Prop}{K:Act->World->Prop}{a:Act}{w:World}(hF:SzD a 121)(h3:a.eval (.tmp 3)=.pointer (some ⟨bn,0,none⟩))(h4:a.eval (.tmp 4)=SV)(h5:a.eval (.tmp 5)=e5)(h7:a.eval (.tmp 7)=.pointer (some ⟨bg,0,none⟩))(h8:a.eval (.tmp 8)=.int .i64 (q:Nat))(h9:a.eval (.tmp 9)=.int .i64 ((j:Int)+1))(hS:BtI w0 w bn bg SV S R X)(hP:∀ a' w',SzD a' 121->a'.eval (.tmp 3)=.pointer (some ⟨bn,0,none⟩)->a'.eval (.tmp 4)=SV->a'.eval (.tmp 5)=e5->a'.eval (.tmp 7)=.pointer (some ⟨bg,0,none⟩)->a'.eval (.tmp 8)=.int .i64 (q:Nat)->a'.eval (.tmp 9)=.int .i64 ((j:Int)+1)->a'.eval (.tmp 107)=.bool false->BtI w0 w' bn bg SV S R X->K a' w'):(Z2 0 (Z2 1 (Zf (Z2 1 (Zy (Zf (Z1 1 (Z2 6 (Zf (Z2 1 (Zy (Zf (Z1 1 (Z2 4 (Z9 Tryz.f5))))))))))))))).wp Tryz.prog (Exit.then K Q) a w:=by
 obtain ⟨t,rfl⟩:=hF.opened;clear hF;rw [show lst t 0 121 = [t 0,t 1,t 2,t 3,t 4,t 5,t 6,t 7,t 8,t 9,t 10,t 11,t 12,t 13,t 14,t 15,t 16,t 17,t 18,t 19,t 20,t 21,t 22,t 23,t 24,t 25,t 26,t 27,t 28,t 29,t 30,t 31,t 32,t 33,t 34,t 35,t 36,t 37,t 38,t 39,t 40,t 41,t 42,t 43,t 44,t 45,t 46,t 47,t 48,t 49,t 50,t 51,t 52,t 53,t 54,t 55,t 56,t 57,t 58,t 59,t 60,t 61,t 62,t 63,t 64,t 65,t 66,t 67,t 68,t 69,t 70,t 71,t 72,t 73,t 74,t 75,t 76,t 77,t 78,t 79,t 80,t 81,t 82,t 83,t 84,t 85,t 86,t 87,t 88,t 89,t 90,t 91,t 92,t 93,t 94,t 95,t 96,t 97,t 98,t 99,t 100,t 101,t 102,t 103,t 104,t 105,t 106,t 107,t 108,t 109,t 110,t 111,t 112,t 113,t 114,t 115,t 116,t 117,t 118,t 119,t 120] from rfl]
 try dsimp only
 rw [show t 3=.pointer (some ⟨bn,0,none⟩) from h3];rw [show t 4=SV from h4];rw [show t 5=e5 from h5];rw [show t 7=.pointer (some ⟨bg,0,none⟩) from h7];rw [show t 8=.int .i64 (q:Nat) from h8];rw [show t 9=.int .i64 ((j:Int)+1) from h9];clear h3 h4 h5 h7 h8 h9;obtain ⟨ob,oc,hv,hq,hln,e0,e2⟩:=hS.msgAt hm;have c20:w.cell? ⟨bg,20,none⟩=some (.slice (some ⟨ob,0,none⟩) X.L.length oc):=by rw [<-hv];exact hS.gb.cell 20
 rw [hk5] at e0;rw [htd] at e2;have HS:Hid (BtI w0 w bn bg SV S R X):=hS;obtain ⟨N,hN⟩:∃ N,N=X.L.length:=⟨_,rfl⟩;rw [<-hN] at c20 hq;have hqi:(q:Int)<(N:Int):=by omega
 have hqw:IntKind.i64.wrap (q:Int)=(q:Int):=by rw [IntKind.wrap_i64];omega
 clear hS hv hm hln hN hk5 htd
 conv=>arg 2;whnf
 go_wp2_with fail
 exact hP _ _ ⟨rfl,rfl⟩ rfl rfl rfl rfl rfl rfl (by simp [Act.eval] <;> omega) HS.out
theorem bt22 {w0:World}{bn bg j:Nat}{SV e5:Value}{S:List Int}{R:Rn}{X:RV}{q:Nat}(hq1:q<=1000){Q:Exit->Act->World->Prop}{K:Act->World->Prop}{a:Act}{w:World}(hF:SzD a 121)(h3:a.eval (.tmp 3)=.pointer (some ⟨bn,0,none⟩))(h4:a.eval (.tmp 4)=SV)(h5:a.eval (.tmp 5)=e5)(h7:a.eval (.tmp 7)=.pointer (some ⟨bg,0,none⟩))(h8:a.eval (.tmp 8)=.int .i64 (q:Nat))(h9:a.eval (.tmp 9)=.int .i64 ((j:Int)+1))(hS:BtI w0 w bn bg SV S R X)(hP:∀ a' w',SzD a' 121->a'.eval (.tmp 3)=.pointer (some ⟨bn,0,none⟩)->a'.eval (.tmp 4)=SV->a'.eval (.tmp 5)=e5->a'.eval (.tmp 7)=.pointer (some ⟨bg,0,none⟩)->a'.eval (.tmp 8)=.int .i64 ((q:Int)+1)->a'.eval (.tmp 9)=.int .i64 ((j:Int)+1)->BtI w0 w' bn bg SV S R X->K a' w'):(Z2 2 (Zf (Z2 1 (Zy (Zf (Z1 1 (Z2 6 (Zf (Z2 1 (Zy (Zf (Z1 1 (Z2 4 (Z9 Tryz.f5)))))))))))))).wp Tryz.prog (Exit.then K Q) a w:=by
 obtain ⟨t,rfl⟩:=hF.opened;clear hF;rw [show lst t 0 121 = [t 0,t 1,t 2,t 3,t 4,t 5,t 6,t 7,t 8,t 9,t 10,t 11,t 12,t 13,t 14,t 15,t 16,t 17,t 18,t 19,t 20,t 21,t 22,t 23,t 24,t 25,t 26,t 27,t 28,t 29,t 30,t 31,t 32,t 33,t 34,t 35,t 36,t 37,t 38,t 39,t 40,t 41,t 42,t 43,t 44,t 45,t 46,t 47,t 48,t 49,t 50,t 51,t 52,t 53,t 54,t 55,t 56,t 57,t 58,t 59,t 60,t 61,t 62,t 63,t 64,t 65,t 66,t 67,t 68,t 69,t 70,t 71,t 72,t 73,t 74,t 75,t 76,t 77,t 78,t 79,t 80,t 81,t 82,t 83,t 84,t 85,t 86,t 87,t 88,t 89,t 90,t 91,t 92,t 93,t 94,t 95,t 96,t 97,t 98,t 99,t 100,t 101,t 102,t 103,t 104,t 105,t 106,t 107,t 108,t 109,t 110,t 111,t 112,t 113,t 114,t 115,t 116,t 117,t 118,t 119,t 120] from rfl]
 try dsimp only
 rw [show t 3=.pointer (some ⟨bn,0,none⟩) from h3];rw [show t 4=SV from h4];rw [show t 5=e5 from h5];rw [show t 7=.pointer (some ⟨bg,0,none⟩) from h7];rw [show t 8=.int .i64 (q:Nat) from h8];rw [show t 9=.int .i64 ((j:Int)+1) from h9];clear h3 h4 h5 h7 h8 h9;have HS:Hid (BtI w0 w bn bg SV S R X):=hS;clear hS
 conv=>arg 2;whnf
 go_wp2_with fail
 exact hP _ _ ⟨rfl,rfl⟩ rfl rfl rfl rfl rfl rfl HS.out
theorem bt23 {w0:World}{bn bg j:Nat}{SV e5 e8:Value}{S:List Int}{R:Rn}{X:RV}(hjS:j<S.length)(hjj:j<=100){Q:Exit->Act->World->Prop}{K:Act->World->Prop}{a:Act}{w:World}(hF:SzD a 121)(h3:a.eval (.tmp 3)=.pointer (some ⟨bn,0,none⟩))(h4:a.eval (.tmp 4)=SV)(h5:a.eval (.tmp 5)=e5)(h7:a.eval (.tmp 7)=.pointer (some ⟨bg,0,none⟩))(h8:a.eval (.tmp 8)=e8)(h9:a.eval (.tmp 9)=.int .i64 ((j:Int)+1))(hS:BtI w0 w bn bg SV S R X)(hP:∀ a' w',SzD a' 121->a'.eval (.tmp 3)=.pointer (some ⟨bn,0,none⟩)->a'.eval (.tmp 4)=SV->a'.eval (.tmp 5)=e5->a'.eval (.tmp 7)=.pointer (some ⟨bg,0,none⟩)->a'.eval (.tmp 8)=e8->a'.eval (.tmp 9)=.int .i64 ((j:Int)+1)->BtI w0 w' bn bg SV (S.set j R.n.nw) R X->K a' w'):(Z1 3 (Zf (Z2 1 (Zy (Zf (Z1 1 (Z2 6 (Zf (Z2 1 (Zy (Zf (Z1 1 (Z2 4 (Z9 Tryz.f5)))))))))))))).wp Tryz.prog (Exit.then K Q) a w:=by
 obtain ⟨t,rfl⟩:=hF.opened;clear hF;rw [show lst t 0 121 = [t 0,t 1,t 2,t 3,t 4,t 5,t 6,t 7,t 8,t 9,t 10,t 11,t 12,t 13,t 14,t 15,t 16,t 17,t 18,t 19,t 20,t 21,t 22,t 23,t 24,t 25,t 26,t 27,t 28,t 29,t 30,t 31,t 32,t 33,t 34,t 35,t 36,t 37,t 38,t 39,t 40,t 41,t 42,t 43,t 44,t 45,t 46,t 47,t 48,t 49,t 50,t 51,t 52,t 53,t 54,t 55,t 56,t 57,t 58,t 59,t 60,t 61,t 62,t 63,t 64,t 65,t 66,t 67,t 68,t 69,t 70,t 71,t 72,t 73,t 74,t 75,t 76,t 77,t 78,t 79,t 80,t 81,t 82,t 83,t 84,t 85,t 86,t 87,t 88,t 89,t 90,t 91,t 92,t 93,t 94,t 95,t 96,t 97,t 98,t 99,t 100,t 101,t 102,t 103,t 104,t 105,t 106,t 107,t 108,t 109,t 110,t 111,t 112,t 113,t 114,t 115,t 116,t 117,t 118,t 119,t 120] from rfl]
 try dsimp only
 rw [show t 3=.pointer (some ⟨bn,0,none⟩) from h3];rw [show t 4=SV from h4];rw [show t 5=e5 from h5];rw [show t 7=.pointer (some ⟨bg,0,none⟩) from h7];rw [show t 8=e8 from h8];rw [show t 9=.int .i64 ((j:Int)+1) from h9];clear h3 h4 h5 h7 h8 h9;obtain ⟨sb,sc,hsv,_,cs,fs⟩:=int_row hS.sent j hjS;have c9:w.cell? ⟨bn,9,none⟩=some (.int .i64 R.n.nw):=hS.nd.blk.cell 9;subst hsv;have HN:Hid (BtI w0 (w.setCell ⟨sb,j,none⟩ (.int .i64 R.n.nw)) bn bg (.slice (some ⟨sb,0,none⟩) S.length sc) (S.set j R.n.nw) R X):=hS.sentT j hjS R.n.nw;obtain ⟨sj,hsje⟩:∃ q,q=S[j]:=⟨_,rfl⟩;rw [<-hsje] at cs;obtain ⟨nw,hnw⟩:∃ q,q=R.n.nw:=⟨_,rfl⟩;rw [<-hnw] at c9 HN hP;obtain ⟨N,hN⟩:∃ N,N=S.length:=⟨_,rfl⟩;rw [<-hN] at HN hP ⊢;have hsi:(j:Int)<(N:Int):=by omega
 have hwk:IntKind.i64.wrap ((j:Int)+1-1)=(j:Int):=by rw [IntKind.wrap_i64];omega
 have hwj:IntKind.i64.wrap (j:Int)=(j:Int):=by rw [IntKind.wrap_i64];omega
 clear hS hsje hnw hN hjS
 conv=>arg 2;whnf
 go_wp2_with fail
 exact hP _ _ ⟨rfl,rfl⟩ rfl rfl rfl rfl rfl rfl HN.out
theorem bt18 {w0:World}{bn bg j:Nat}{SV e5 e8:Value}{S:List Int}{R:Rn}{X:RV}(hjj:j<=100){Q:Exit->Act->World->Prop}{K:Act->World->Prop}{a:Act}{w:World}(hF:SzD a 121)(h3:a.eval (.tmp 3)=.pointer (some ⟨bn,0,none⟩))(h4:a.eval (.tmp 4)=SV)(h5:a.eval (.tmp 5)=e5)(h7:a.eval (.tmp 7)=.pointer (some ⟨bg,0,none⟩))(h8:a.eval (.tmp 8)=e8)(h9:a.eval (.tmp 9)=.int .i64 ((j:Int)+1))(hS:BtI w0 w bn bg SV S R X)(hP:∀ a' w',SzD a' 121->a'.eval (.tmp 3)=.pointer (some ⟨bn,0,none⟩)->a'.eval (.tmp 4)=SV->a'.eval (.tmp 5)=e5->a'.eval (.tmp 7)=.pointer (some ⟨bg,0,none⟩)->a'.eval (.tmp 8)=e8->a'.eval (.tmp 9)=.int .i64 ((j:Int)+1+1)->BtI w0 w' bn bg SV S R X->K a' w'):(Z1 2 (Zy (Zf (Z1 1 (Z2 6 (Zf (Z2 1 (Zy (Zf (Z1 1 (Z2 4 (Z9 Tryz.f5)))))))))))).wp Tryz.prog (Exit.then K Q) a w:=by
 obtain ⟨t,rfl⟩:=hF.opened;clear hF;rw [show lst t 0 121 = [t 0,t 1,t 2,t 3,t 4,t 5,t 6,t 7,t 8,t 9,t 10,t 11,t 12,t 13,t 14,t 15,t 16,t 17,t 18,t 19,t 20,t 21,t 22,t 23,t 24,t 25,t 26,t 27,t 28,t 29,t 30,t 31,t 32,t 33,t 34,t 35,t 36,t 37,t 38,t 39,t 40,t 41,t 42,t 43,t 44,t 45,t 46,t 47,t 48,t 49,t 50,t 51,t 52,t 53,t 54,t 55,t 56,t 57,t 58,t 59,t 60,t 61,t 62,t 63,t 64,t 65,t 66,t 67,t 68,t 69,t 70,t 71,t 72,t 73,t 74,t 75,t 76,t 77,t 78,t 79,t 80,t 81,t 82,t 83,t 84,t 85,t 86,t 87,t 88,t 89,t 90,t 91,t 92,t 93,t 94,t 95,t 96,t 97,t 98,t 99,t 100,t 101,t 102,t 103,t 104,t 105,t 106,t 107,t 108,t 109,t 110,t 111,t 112,t 113,t 114,t 115,t 116,t 117,t 118,t 119,t 120] from rfl]
 try dsimp only
 rw [show t 3=.pointer (some ⟨bn,0,none⟩) from h3];rw [show t 4=SV from h4];rw [show t 5=e5 from h5];rw [show t 7=.pointer (some ⟨bg,0,none⟩) from h7];rw [show t 8=e8 from h8];rw [show t 9=.int .i64 ((j:Int)+1) from h9];clear h3 h4 h5 h7 h8 h9;have HS:Hid (BtI w0 w bn bg SV S R X):=hS;clear hS
 conv=>arg 2;whnf
 go_wp2_with fail
 exact hP _ _ ⟨rfl,rfl⟩ rfl rfl rfl rfl rfl rfl HS.out
theorem btRound {w0:World}{bn bg N:Nat}{SV e5:Value}{m:Nd}{R:Rn}{X:RV}{j:Nat}{Q:Exit->Act->World->Prop}{K:Act->World->Prop}{a:Act}{w:World}(hN:R.n.sz=(N:Int))(hN7:N<=7)(hsl:m.st.length=N)(eid:R.n.id=m.id)(ebt:R.n.bt=m.bt)(enw:R.n.nw=m.nw)(eout:R.out=Xp m N)(hnw:0<=m.nw/\m.nw<=1099511627776)(hst:∀ j,0<=m.st.getD j 0/\m.st.getD j 0<=1099511627776)(hj:j<N)(hF:SzD a 121)(h3:a.eval (.tmp 3)=.pointer (some ⟨bn,0,none⟩))(h4:a.eval (.tmp 4)=SV)(h5:a.eval (.tmp 5)=e5)(h7:a.eval (.tmp 7)=.pointer (some ⟨bg,0,none⟩))(h8:a.eval (.tmp 8)=.int .i64 ((Xp m j).length:Nat))(h9:a.eval (.tmp 9)=.int .i64 ((j:Int)+1))(hS:BtI w0 w bn bg SV (Je m j) R X)(hP:∀ a' w',SzD a' 121->a'.eval (.tmp 3)=.pointer (some ⟨bn,0,none⟩)->a'.eval (.tmp 4)=SV->a'.eval (.tmp 5)=e5->a'.eval (.tmp 7)=.pointer (some ⟨bg,0,none⟩)->a'.eval (.tmp 8)=.int .i64 ((Xp m (j+1)).length:Nat)->a'.eval (.tmp 9)=.int .i64 ((j:Int)+1+1)->BtI w0 w' bn bg SV (Je m (j+1)) R X->K a' w'):(Zy (Zf (Z1 1 (Z2 6 (Zf (Z2 1 (Zy (Zf (Z1 1 (Z2 4 (Z9 Tryz.f5))))))))))).wp Tryz.prog (Exit.then K Q) a w:=by
 have hjl:j<(Je m j).length:=by rw [Z0z];omega
 have hgd:(Je m j).getD j 0=m.st.getD j 0:=by rw [Z1r,if_neg (by omega)]
 have hol:=btOut_len m j;rw [show Zy (Zf (Z1 1 (Z2 6 (Zf (Z2 1 (Zy (Zf (Z1 1 (Z2 4 (Z9 Tryz.f5))))))))))=.seq (Z2 0 (Zy (Zf (Z1 1 (Z2 6 (Zf (Z2 1 (Zy (Zf (Z1 1 (Z2 4 (Z9 Tryz.f5)))))))))))) (.seq (.block 3 (Zf (Z2 1 (Zy (Zf (Z1 1 (Z2 6 (Zf (Z2 1 (Zy (Zf (Z1 1 (Z2 4 (Z9 Tryz.f5)))))))))))))) (Z1 2 (Zy (Zf (Z1 1 (Z2 6 (Zf (Z2 1 (Zy (Zf (Z1 1 (Z2 4 (Z9 Tryz.f5))))))))))))) from rfl];refine wp_seq_k ?_;intro K1 hK1;refine bt17 (j:=j) (by omega) hF h3 h4 h5 h7 h8 h9 hS fun a1 w1 f1 g3 g4 g5 g7 g8 g9 s1=>hK1 _ _ ?_
 refine wp_seq_k ?_;intro K2 hK2;refine wp_block ?_;rw [show Zf (Z2 1 (Zy (Zf (Z1 1 (Z2 6 (Zf (Z2 1 (Zy (Zf (Z1 1 (Z2 4 (Z9 Tryz.f5))))))))))))=.seq (.seq (Z2 0 (Z2 0 (Zf (Z2 1 (Zy (Zf (Z1 1 (Z2 6 (Zf (Z2 1 (Zy (Zf (Z1 1 (Z2 4 (Z9 Tryz.f5))))))))))))))) (.cond (.tmp 83) (.exit 3) .skip)) (.seq (.seq (Z2 0 (Z2 1 (Zf (Z2 1 (Zy (Zf (Z1 1 (Z2 6 (Zf (Z2 1 (Zy (Zf (Z1 1 (Z2 4 (Z9 Tryz.f5))))))))))))))) (.cond (.tmp 107) (Zo (Z1 1 (Z2 1 (Zf (Z2 1 (Zy (Zf (Z1 1 (Z2 6 (Zf (Z2 1 (Zy (Zf (Z1 1 (Z2 4 (Z9 Tryz.f5)))))))))))))))) .skip)) (.seq (Z2 2 (Zf (Z2 1 (Zy (Zf (Z1 1 (Z2 6 (Zf (Z2 1 (Zy (Zf (Z1 1 (Z2 4 (Z9 Tryz.f5)))))))))))))) (Z1 3 (Zf (Z2 1 (Zy (Zf (Z1 1 (Z2 6 (Zf (Z2 1 (Zy (Zf (Z1 1 (Z2 4 (Z9 Tryz.f5)))))))))))))))) from rfl];refine wp_seq_k ?_;intro K3 hK3;refine wp_seq_k ?_;intro K4 hK4;refine bt19 (j:=j) hjl (by omega) (by rw [enw];exact hnw) (by rw [hgd];exact hst j) f1 g3 g4 g5 g7 g8 g9 s1 fun a2 w2 f2 i3 i4 i5 i7 i8 i9 i83 s2=>hK4 _ _ ?_
 refine wp_cond i83 ?_;rw [hgd,eid,ebt,enw];by_cases hd:dueB m j=true
 ·have hd':(j:Int)+1≠m.id/\m.bt<=m.nw-m.st.getD j 0:=by unfold dueB at hd;simpa using hd
  rw [if_neg (by simp only [decide_eq_true_eq,Classical.not_not];exact hd')];refine wp_skip (hK3 _ _ ?_);refine wp_seq_k ?_;intro K5 hK5;refine wp_seq_k ?_;intro K6 hK6;have hm:=btOut_at m j hd N hj;rw [<-eout] at hm;refine bt20 (j:=j) (q:=(Xp m j).length) (by omega) hm rfl rfl f2 i3 i4 i5 i7 i8 i9 s2 fun a3 w3 f3 j3 j4 j5 j7 j8 j9 j107 s3=>hK6 _ _ ?_
  refine wp_cond j107 ?_;refine wp_skip (hK5 _ _ ?_);refine wp_seq_k ?_;intro K7 hK7;refine bt22 (j:=j) (q:=(Xp m j).length) (by omega) f3 j3 j4 j5 j7 j8 j9 s3 fun a4 w4 f4 k3 k4 k5 k7 k8 k9 s4=>hK7 _ _ ?_
  have hn8:(Xp m (j+1)).length=(Xp m j).length+1:=by rw [Xp,if_pos hd];simp
  have hns:Je m (j+1)=(Je m j).set j m.nw:=by rw [Je,if_pos hd]
  refine wp_mono (Q:=Exit.then K2 (fun _ _ _=>False)) ?_ ?_
  ·refine bt23 (j:=j) hjl (by omega) f4 k3 k4 k5 k7 k8 k9 s4 fun a5 w5 f5 l3 l4 l5 l7 l8 l9 s5=>hK2 _ _ ?_
   refine bt18 (j:=j) (by omega) f5 l3 l4 l5 l7 l8 l9 s5 fun a6 w6 f6 m3 m4 m5 m7 m8 m9 s6=>?_
   exact hP a6 w6 f6 m3 m4 m5 m7 (by rw [m8,hn8];rfl) m9 (by rw [hns,<-enw];exact s6)
  ·intro e a' w' h
   cases e with
   | normal=>exact h
   | exit id=>exact h.elim
   | goto l=>exact h.elim
   | ret=>exact h.elim
   | panic ch=>exact h.elim
   | outgrown=>exact h.elim
 ·have hd':¬((j:Int)+1≠m.id/\m.bt<=m.nw-m.st.getD j 0):=by unfold dueB at hd;simpa using hd
  rw [if_pos (by simp only [decide_eq_true_eq];exact hd')];have hn8:Xp m (j+1)=Xp m j:=by rw [Xp,if_neg hd]
  have hns:Je m (j+1)=Je m j:=by rw [Je,if_neg hd]
  refine wp_exit ?_;refine hK2 _ _ ?_;refine bt18 (j:=j) (by omega) f2 i3 i4 i5 i7 i8 i9 s2 fun a6 w6 f6 m3 m4 m5 m7 m8 m9 s6=>?_
  exact hP a6 w6 f6 m3 m4 m5 m7 (by rw [hn8];exact m8) m9 (by rw [hns];exact s6)
theorem btLoop {w0:World}{bn bg N:Nat}{SV e5:Value}{m:Nd}{R:Rn}{X:RV}{Q:Exit->Act->World->Prop}{K:Act->World->Prop}{a:Act}{w:World}(hN:R.n.sz=(N:Int))(hN7:N<=7)(hsl:m.st.length=N)(eid:R.n.id=m.id)(ebt:R.n.bt=m.bt)(enw:R.n.nw=m.nw)(eout:R.out=Xp m N)(hnw:0<=m.nw/\m.nw<=1099511627776)(hst:∀ j,0<=m.st.getD j 0/\m.st.getD j 0<=1099511627776)(hF:SzD a 121)(h3:a.eval (.tmp 3)=.pointer (some ⟨bn,0,none⟩))(h4:a.eval (.tmp 4)=SV)(h5:a.eval (.tmp 5)=e5)(h7:a.eval (.tmp 7)=.pointer (some ⟨bg,0,none⟩))(h8:a.eval (.tmp 8)=.int .i64 0)(h9:a.eval (.tmp 9)=.int .i64 1)(hS:BtI w0 w bn bg SV m.st R X)(hP:∀ a' w',SzD a' 121->a'.eval (.tmp 3)=.pointer (some ⟨bn,0,none⟩)->a'.eval (.tmp 4)=SV->a'.eval (.tmp 5)=e5->a'.eval (.tmp 7)=.pointer (some ⟨bg,0,none⟩)->a'.eval (.tmp 8)=.int .i64 ((Xp m N).length:Nat)->BtI w0 w' bn bg SV (Je m N) R X->K a' w'):(Z1 1 (Z2 6 (Zf (Z2 1 (Zy (Zf (Z1 1 (Z2 4 (Z9 Tryz.f5))))))))).wp Tryz.prog (Exit.then K Q) a w:=by
 rw [show Z1 1 (Z2 6 (Zf (Z2 1 (Zy (Zf (Z1 1 (Z2 4 (Z9 Tryz.f5))))))))=.block 2 (.loop (Zy (Zf (Z1 1 (Z2 6 (Zf (Z2 1 (Zy (Zf (Z1 1 (Z2 4 (Z9 Tryz.f5)))))))))))) from rfl];refine wp_block ?_;refine wp_loop (fun a w=>∃ j:Nat,j<=N/\SzD a 121/\a.eval (.tmp 3)=.pointer (some ⟨bn,0,none⟩)/\a.eval (.tmp 4)=SV/\a.eval (.tmp 5)=e5/\a.eval (.tmp 7)=.pointer (some ⟨bg,0,none⟩)/\a.eval (.tmp 8)=.int .i64 ((Xp m j).length:Nat)/\a.eval (.tmp 9)=.int .i64 ((j:Int)+1)/\BtI w0 w bn bg SV (Je m j) R X) (fun a _=>N+1-(RowKit.intOf (a.eval (.tmp 9))).toNat) ⟨0,Nat.zero_le _,hF,h3,h4,h5,h7,h8,h9,hS⟩ ?_;rintro a1 w1 ⟨j,hj,f1,g3,g4,g5,g7,g8,g9,s1⟩;rcases Nat.lt_or_ge j N with hlt | hge
 ·refine btRound (j:=j) hN hN7 hsl eid ebt enw eout hnw hst hlt f1 g3 g4 g5 g7 g8 g9 s1 ?_
  intro a' w' f2 e3 e4 e5' e7 e8 e9 s2;refine ⟨⟨j+1,by omega,f2,e3,e4,e5',e7,e8,by rw [e9];rfl,s2⟩,?_⟩;rw [e9,g9];simp only [RowKit.intOf];omega
 ·have he:j=N:=by omega
  subst he;refine bt17x (j:=j) (by omega) f1 g3 g4 g5 g7 g8 g9 s1 ?_;intro a' f2 e3 e4 e5' e7 e8;exact hP a' w1 f2 e3 e4 e5' e7 e8 s1
theorem field_sa (R:Rn)(X:RV)(w:World):(Instr.field 39 (.agg (saC R X)) 2).run Tryz.prog w=.ok (.agg (ndC R.n X)) w:=by
 simp [saC,ndC,Instr.field,part,Tryz.underlying39,go_sem,asAgg]
theorem field_nd (n:Nd)(x:RV)(w:World):(Instr.field 36 (.agg (ndC n x)) 6).run Tryz.prog w=.ok (.int .i64 n.ro) w:=by
 simp [ndC,Instr.field,part,Tryz.underlying36,go_sem,asAgg]
theorem bo6 {w0:World}{bn:Nat}{SV:Value}{n:Nd}{x:RV}{i:Nat}(hi:(i:Int)<2*n.bt)(hi2:i<200)(hbt:1<=n.bt/\n.bt<=1000){Q:Exit->Act->World->Prop}{K:Act->World->Prop}{a:Act}{w:World}(hF:SzD a 121)(h3:a.eval (.tmp 3)=.pointer (some ⟨bn,0,none⟩))(h4:a.eval (.tmp 4)=SV)(h5:a.eval (.tmp 5)=.int .i64 (i:Nat))(hS:BtO w0 w bn SV n x)(hP:∀ a' w',SzD a' 121->a'.eval (.tmp 3)=.pointer (some ⟨bn,0,none⟩)->a'.eval (.tmp 4)=SV->a'.eval (.tmp 5)=.int .i64 (i:Nat)->BtO w0 w' bn SV n x->K a' w'):(Z2 0 (Zy (Zf (Z1 1 (Z2 4 (Z9 Tryz.f5)))))).wp Tryz.prog (Exit.then K Q) a w:=by
 obtain ⟨t,rfl⟩:=hF.opened;clear hF;rw [show lst t 0 121 = [t 0,t 1,t 2,t 3,t 4,t 5,t 6,t 7,t 8,t 9,t 10,t 11,t 12,t 13,t 14,t 15,t 16,t 17,t 18,t 19,t 20,t 21,t 22,t 23,t 24,t 25,t 26,t 27,t 28,t 29,t 30,t 31,t 32,t 33,t 34,t 35,t 36,t 37,t 38,t 39,t 40,t 41,t 42,t 43,t 44,t 45,t 46,t 47,t 48,t 49,t 50,t 51,t 52,t 53,t 54,t 55,t 56,t 57,t 58,t 59,t 60,t 61,t 62,t 63,t 64,t 65,t 66,t 67,t 68,t 69,t 70,t 71,t 72,t 73,t 74,t 75,t 76,t 77,t 78,t 79,t 80,t 81,t 82,t 83,t 84,t 85,t 86,t 87,t 88,t 89,t 90,t 91,t 92,t 93,t 94,t 95,t 96,t 97,t 98,t 99,t 100,t 101,t 102,t 103,t 104,t 105,t 106,t 107,t 108,t 109,t 110,t 111,t 112,t 113,t 114,t 115,t 116,t 117,t 118,t 119,t 120] from rfl]
 try dsimp only
 rw [show t 3=.pointer (some ⟨bn,0,none⟩) from h3];rw [show t 4=SV from h4];rw [show t 5=.int .i64 (i:Nat) from h5];clear h3 h4 h5;have c3:w.cell? ⟨bn,3,none⟩=some (.int .i64 n.bt):=hS.nd.blk.cell 3;have HS:Hid (BtO w0 w bn SV n x):=hS;clear hS
 conv=>arg 2;whnf
 go_wp2_with fail
 exact hP _ _ ⟨rfl,rfl⟩ rfl rfl rfl HS.out
theorem bo6x {T:Exit->Act->World->Prop}{K:Act->World->Prop}{a:Act}{w:World}{w0:World}{bn:Nat}{SV:Value}{n:Nd}{x:RV}{i:Nat}(hi:¬((i:Int)<2*n.bt/\i<200))(hi2:i<=200)(hbt:1<=n.bt/\n.bt<=1000)(hF:SzD a 121)(h3:a.eval (.tmp 3)=.pointer (some ⟨bn,0,none⟩))(h4:a.eval (.tmp 4)=SV)(h5:a.eval (.tmp 5)=.int .i64 (i:Nat))(hS:BtO w0 w bn SV n x)(hP:∀ a',SzD a' 121->T (.exit 0) a' w):(Zy (Zf (Z1 1 (Z2 4 (Z9 Tryz.f5))))).wp Tryz.prog (Exit.then K T) a w:=by
 obtain ⟨t,rfl⟩:=hF.opened;clear hF;rw [show lst t 0 121 = [t 0,t 1,t 2,t 3,t 4,t 5,t 6,t 7,t 8,t 9,t 10,t 11,t 12,t 13,t 14,t 15,t 16,t 17,t 18,t 19,t 20,t 21,t 22,t 23,t 24,t 25,t 26,t 27,t 28,t 29,t 30,t 31,t 32,t 33,t 34,t 35,t 36,t 37,t 38,t 39,t 40,t 41,t 42,t 43,t 44,t 45,t 46,t 47,t 48,t 49,t 50,t 51,t 52,t 53,t 54,t 55,t 56,t 57,t 58,t 59,t 60,t 61,t 62,t 63,t 64,t 65,t 66,t 67,t 68,t 69,t 70,t 71,t 72,t 73,t 74,t 75,t 76,t 77,t 78,t 79,t 80,t 81,t 82,t 83,t 84,t 85,t 86,t 87,t 88,t 89,t 90,t 91,t 92,t 93,t 94,t 95,t 96,t 97,t 98,t 99,t 100,t 101,t 102,t 103,t 104,t 105,t 106,t 107,t 108,t 109,t 110,t 111,t 112,t 113,t 114,t 115,t 116,t 117,t 118,t 119,t 120] from rfl]
 try dsimp only
 rw [show t 3=.pointer (some ⟨bn,0,none⟩) from h3];rw [show t 4=SV from h4];rw [show t 5=.int .i64 (i:Nat) from h5];clear h3 h4 h5;have c3:w.cell? ⟨bn,3,none⟩=some (.int .i64 n.bt):=hS.nd.blk.cell 3;have HP:Hid (∀ a',SzD a' 121->T (.exit 0) a' w):=hP;clear hP hS
 conv=>arg 2;whnf
 by_cases g1:(i:Int)<2*n.bt
 ·have g2:¬(i:Int)<200:=by omega
  go_wp2_with fail
  exact HP.out _ ⟨rfl,rfl⟩
 ·go_wp2_with fail
  exact HP.out _ ⟨rfl,rfl⟩
theorem bo8 {w0:World}{bn:Nat}{SV:Value}{n:Nd}{x:RV}{e5:Value}{R:Rn}(hR:R=tk n 0)(h0:Yo n=0){Q:Exit->Act->World->Prop}{K:Act->World->Prop}{a:Act}{w:World}(hF:SzD a 121)(h3:a.eval (.tmp 3)=.pointer (some ⟨bn,0,none⟩))(h4:a.eval (.tmp 4)=SV)(h5:a.eval (.tmp 5)=e5)(hS:BtO w0 w bn SV n x)(hP:∀ a' w',SzD a' 121->a'.eval (.tmp 3)=.pointer (some ⟨bn,0,none⟩)->a'.eval (.tmp 4)=SV->a'.eval (.tmp 5)=e5->a'.eval (.tmp 6)=.int .i64 R.n.ro->BtO w0 w' bn SV n x->K a' w'):(Z2 0 (Zf (Z2 1 (Zy (Zf (Z1 1 (Z2 4 (Z9 Tryz.f5)))))))).wp Tryz.prog (Exit.then K Q) a w:=by
 obtain ⟨t,rfl⟩:=hF.opened;clear hF;rw [show lst t 0 121 = [t 0,t 1,t 2,t 3,t 4,t 5,t 6,t 7,t 8,t 9,t 10,t 11,t 12,t 13,t 14,t 15,t 16,t 17,t 18,t 19,t 20,t 21,t 22,t 23,t 24,t 25,t 26,t 27,t 28,t 29,t 30,t 31,t 32,t 33,t 34,t 35,t 36,t 37,t 38,t 39,t 40,t 41,t 42,t 43,t 44,t 45,t 46,t 47,t 48,t 49,t 50,t 51,t 52,t 53,t 54,t 55,t 56,t 57,t 58,t 59,t 60,t 61,t 62,t 63,t 64,t 65,t 66,t 67,t 68,t 69,t 70,t 71,t 72,t 73,t 74,t 75,t 76,t 77,t 78,t 79,t 80,t 81,t 82,t 83,t 84,t 85,t 86,t 87,t 88,t 89,t 90,t 91,t 92,t 93,t 94,t 95,t 96,t 97,t 98,t 99,t 100,t 101,t 102,t 103,t 104,t 105,t 106,t 107,t 108,t 109,t 110,t 111,t 112,t 113,t 114,t 115,t 116,t 117,t 118,t 119,t 120] from rfl]
 try dsimp only
 rw [show t 3=.pointer (some ⟨bn,0,none⟩) from h3];rw [show t 4=SV from h4];rw [show t 5=e5 from h5];clear h3 h4 h5;have HT:Hid (Calls Tryz.prog 9 #[.agg (ndC n x),.agg #[.int .i64 1,.int .i64 0,.int .i64 0,.int .i64 0,.int .i64 0,.int .i64 0,.int .i64 0,.int .i64 0,.int .i64 0,.int .i64 0,.int .i64 0,.slice none 0 0,.int .i64 0,.int .i64 0,.int .i64 0,.string ⟨#[]⟩,.string ⟨#[]⟩,.string ⟨#[]⟩]] w fun e w'=>∃ X,e=.returned (.agg (saC R X))/\Jr w' w.heap.size R X/\Below w.heap.size w w'):=by rw [hR];exact specTick_o 0 h0 hS.nd.own (by omega) (by omega)
 have HS:Hid (BtO w0 w bn SV n x):=hS;have HB:Hid (Blk w bn (ndC n x) 36):=hS.nd.blk;have hBA:True:=trivial;clear hS hR h0
 conv=>arg 2;whnf
 go_wp2_with (first
  |(refine Zx 36 (.tmp 3) rfl ?_;clear hBA;refine Zk rfl 36 (.tmp 3) rfl bn rfl HB.out Tryz.underlying36 rfl Z3k rfl ?_)
  |(go_at_call 9;go_loud (refine HT.out.mono ?_;rintro r w2 ⟨X2,rfl,_,hb2⟩;have HS2:Hid (BtO w0 w2 bn SV n x):=HS.out.below hb2;clear hb2;have hfd:=field_sa R X2;have hfn:=field_nd R.n X2)))
 exact hP _ _ ⟨rfl,rfl⟩ rfl rfl rfl rfl HS2.out
theorem bo9 {w0:World}{bn:Nat}{SV:Value}{n:Nd}{x:RV}{e5 e6:Value}{R:Rn}(hR:R=tk n 0)(h0:Yo n=0){Q:Exit->Act->World->Prop}{K:Act->World->Prop}{a:Act}{w:World}(hF:SzD a 121)(h3:a.eval (.tmp 3)=.pointer (some ⟨bn,0,none⟩))(h4:a.eval (.tmp 4)=SV)(h5:a.eval (.tmp 5)=e5)(h6:a.eval (.tmp 6)=e6)(hS:BtO w0 w bn SV n x)(hP:∀ a' w' bg X,SzD a' 121->a'.eval (.tmp 3)=.pointer (some ⟨bn,0,none⟩)->a'.eval (.tmp 4)=SV->a'.eval (.tmp 5)=e5->a'.eval (.tmp 6)=e6->a'.eval (.tmp 7)=.pointer (some ⟨bg,0,none⟩)->BtH w0 w' bn bg SV n x R X->K a' w'):(Z2 1 (Zf (Z2 1 (Zy (Zf (Z1 1 (Z2 4 (Z9 Tryz.f5)))))))).wp Tryz.prog (Exit.then K Q) a w:=by
 obtain ⟨t,rfl⟩:=hF.opened;clear hF;rw [show lst t 0 121 = [t 0,t 1,t 2,t 3,t 4,t 5,t 6,t 7,t 8,t 9,t 10,t 11,t 12,t 13,t 14,t 15,t 16,t 17,t 18,t 19,t 20,t 21,t 22,t 23,t 24,t 25,t 26,t 27,t 28,t 29,t 30,t 31,t 32,t 33,t 34,t 35,t 36,t 37,t 38,t 39,t 40,t 41,t 42,t 43,t 44,t 45,t 46,t 47,t 48,t 49,t 50,t 51,t 52,t 53,t 54,t 55,t 56,t 57,t 58,t 59,t 60,t 61,t 62,t 63,t 64,t 65,t 66,t 67,t 68,t 69,t 70,t 71,t 72,t 73,t 74,t 75,t 76,t 77,t 78,t 79,t 80,t 81,t 82,t 83,t 84,t 85,t 86,t 87,t 88,t 89,t 90,t 91,t 92,t 93,t 94,t 95,t 96,t 97,t 98,t 99,t 100,t 101,t 102,t 103,t 104,t 105,t 106,t 107,t 108,t 109,t 110,t 111,t 112,t 113,t 114,t 115,t 116,t 117,t 118,t 119,t 120] from rfl]
 try dsimp only
 rw [show t 3=.pointer (some ⟨bn,0,none⟩) from h3];rw [show t 4=SV from h4];rw [show t 5=e5 from h5];rw [show t 6=e6 from h6];clear h3 h4 h5 h6;have HT:Hid (Calls Tryz.prog 12 #[.agg (ndC n x),.agg #[.int .i64 1,.int .i64 0,.int .i64 0,.int .i64 0,.int .i64 0,.int .i64 0,.int .i64 0,.int .i64 0,.int .i64 0,.int .i64 0,.int .i64 0,.slice none 0 0,.int .i64 0,.int .i64 0,.int .i64 0,.string ⟨#[]⟩,.string ⟨#[]⟩,.string ⟨#[]⟩]] w fun e w'=>∃ X,e=.returned (.agg (saC R X))/\Jr w' w.heap.size R X/\Below w.heap.size w w'):=by rw [hR];exact implTick_o 0 h0 hS.nd.own (by omega) (by omega)
 have HS:Hid (BtO w0 w bn SV n x):=hS;have HB:Hid (Blk w bn (ndC n x) 36):=hS.nd.blk;have hBA:True:=trivial;clear hS hR h0
 conv=>arg 2;whnf
 go_wp2_with (first
  |(refine Zx 36 (.tmp 3) rfl ?_;clear hBA;refine Zk rfl 36 (.tmp 3) rfl bn rfl HB.out Tryz.underlying36 rfl Z3k rfl ?_)
  |(go_at_call 12;go_loud (refine HT.out.mono ?_;rintro r w2 ⟨X2,rfl,ha2,hb2⟩;have HH:Hid (BtH w0 (w2.alloc (.cells (saC R X2) 39)) bn w2.heap.size SV n x R X2):=HS.out.step ha2 hb2;have HC1:Hid ((saC R X2).all (·.oneCell')=true):=ha2.one;clear ha2 hb2))
  |(refine Y6 39 (.tmp 7) _ rfl ?_;go_loud (refine Y1 rfl 39 (.tmp 7) _ rfl (w2.heap.size) rfl rfl rfl sizeSaB rfl rfl HC1.out ?_)))
 exact hP _ _ w2.heap.size X2 ⟨rfl,rfl⟩ rfl rfl rfl rfl rfl HH.out
theorem bo10 {w0:World}{bn bg:Nat}{SV e5:Value}{n:Nd}{x X:RV}{R:Rn}(hnw:R.n.nw=n.nw+1)(hb:0<=n.nw/\n.nw<=1099511627776){Q:Exit->Act->World->Prop}{K:Act->World->Prop}{a:Act}{w:World}(hF:SzD a 121)(h3:a.eval (.tmp 3)=.pointer (some ⟨bn,0,none⟩))(h4:a.eval (.tmp 4)=SV)(h5:a.eval (.tmp 5)=e5)(h6:a.eval (.tmp 6)=.int .i64 R.n.ro)(h7:a.eval (.tmp 7)=.pointer (some ⟨bg,0,none⟩))(hS:BtH w0 w bn bg SV n x R X)(hP:∀ a' w',SzD a' 121->a'.eval (.tmp 3)=.pointer (some ⟨bn,0,none⟩)->a'.eval (.tmp 4)=SV->a'.eval (.tmp 5)=e5->a'.eval (.tmp 7)=.pointer (some ⟨bg,0,none⟩)->a'.eval (.tmp 51)=.bool false->BtH w0 w' bn bg SV n x R X->K a' w'):(Z2 0 (Z2 2 (Zf (Z2 1 (Zy (Zf (Z1 1 (Z2 4 (Z9 Tryz.f5))))))))).wp Tryz.prog (Exit.then K Q) a w:=by
 obtain ⟨t,rfl⟩:=hF.opened;clear hF;rw [show lst t 0 121 = [t 0,t 1,t 2,t 3,t 4,t 5,t 6,t 7,t 8,t 9,t 10,t 11,t 12,t 13,t 14,t 15,t 16,t 17,t 18,t 19,t 20,t 21,t 22,t 23,t 24,t 25,t 26,t 27,t 28,t 29,t 30,t 31,t 32,t 33,t 34,t 35,t 36,t 37,t 38,t 39,t 40,t 41,t 42,t 43,t 44,t 45,t 46,t 47,t 48,t 49,t 50,t 51,t 52,t 53,t 54,t 55,t 56,t 57,t 58,t 59,t 60,t 61,t 62,t 63,t 64,t 65,t 66,t 67,t 68,t 69,t 70,t 71,t 72,t 73,t 74,t 75,t 76,t 77,t 78,t 79,t 80,t 81,t 82,t 83,t 84,t 85,t 86,t 87,t 88,t 89,t 90,t 91,t 92,t 93,t 94,t 95,t 96,t 97,t 98,t 99,t 100,t 101,t 102,t 103,t 104,t 105,t 106,t 107,t 108,t 109,t 110,t 111,t 112,t 113,t 114,t 115,t 116,t 117,t 118,t 119,t 120] from rfl]
 try dsimp only
 rw [show t 3=.pointer (some ⟨bn,0,none⟩) from h3];rw [show t 4=SV from h4];rw [show t 5=e5 from h5];rw [show t 6=.int .i64 R.n.ro from h6];rw [show t 7=.pointer (some ⟨bg,0,none⟩) from h7];clear h3 h4 h5 h6 h7;have c8:w.cell? ⟨bg,8,none⟩=some (.int .i64 R.n.ro):=hS.gb.cell 8;have c11:w.cell? ⟨bg,11,none⟩=some (.int .i64 (n.nw+1)):=by rw [<-hnw];exact hS.gb.cell 11
 have c9:w.cell? ⟨bn,9,none⟩=some (.int .i64 n.nw):=hS.o.nd.blk.cell 9;have HS:Hid (BtH w0 w bn bg SV n x R X):=hS;clear hS hnw;obtain ⟨nw,hn⟩:∃ q,q=n.nw:=⟨_,rfl⟩;rw [<-hn] at c11 c9 hb;clear hn
 conv=>arg 2;whnf
 go_wp2_with fail
 exact hP _ _ ⟨rfl,rfl⟩ rfl rfl rfl rfl (by simp [Act.eval]) HS.out
theorem bo12 {w0:World}{bn bg:Nat}{SV e5:Value}{n:Nd}{x X:RV}{R:Rn}{Q:Exit->Act->World->Prop}{K:Act->World->Prop}{a:Act}{w:World}(hF:SzD a 121)(h3:a.eval (.tmp 3)=.pointer (some ⟨bn,0,none⟩))(h4:a.eval (.tmp 4)=SV)(h5:a.eval (.tmp 5)=e5)(h7:a.eval (.tmp 7)=.pointer (some ⟨bg,0,none⟩))(hS:BtH w0 w bn bg SV n x R X)(hP:∀ a' w',SzD a' 121->a'.eval (.tmp 3)=.pointer (some ⟨bn,0,none⟩)->a'.eval (.tmp 4)=SV->a'.eval (.tmp 5)=e5->a'.eval (.tmp 7)=.pointer (some ⟨bg,0,none⟩)->BtI w0 w' bn bg SV n.st R X->K a' w'):(Z2 3 (Zf (Z2 1 (Zy (Zf (Z1 1 (Z2 4 (Z9 Tryz.f5)))))))).wp Tryz.prog (Exit.then K Q) a w:=by
 obtain ⟨t,rfl⟩:=hF.opened;clear hF;rw [show lst t 0 121 = [t 0,t 1,t 2,t 3,t 4,t 5,t 6,t 7,t 8,t 9,t 10,t 11,t 12,t 13,t 14,t 15,t 16,t 17,t 18,t 19,t 20,t 21,t 22,t 23,t 24,t 25,t 26,t 27,t 28,t 29,t 30,t 31,t 32,t 33,t 34,t 35,t 36,t 37,t 38,t 39,t 40,t 41,t 42,t 43,t 44,t 45,t 46,t 47,t 48,t 49,t 50,t 51,t 52,t 53,t 54,t 55,t 56,t 57,t 58,t 59,t 60,t 61,t 62,t 63,t 64,t 65,t 66,t 67,t 68,t 69,t 70,t 71,t 72,t 73,t 74,t 75,t 76,t 77,t 78,t 79,t 80,t 81,t 82,t 83,t 84,t 85,t 86,t 87,t 88,t 89,t 90,t 91,t 92,t 93,t 94,t 95,t 96,t 97,t 98,t 99,t 100,t 101,t 102,t 103,t 104,t 105,t 106,t 107,t 108,t 109,t 110,t 111,t 112,t 113,t 114,t 115,t 116,t 117,t 118,t 119,t 120] from rfl]
 try dsimp only
 rw [show t 3=.pointer (some ⟨bn,0,none⟩) from h3];rw [show t 4=SV from h4];rw [show t 5=e5 from h5];rw [show t 7=.pointer (some ⟨bg,0,none⟩) from h7];clear h3 h4 h5 h7;have HT:Hid (BtI w0 (w.setRow bn (ndC R.n X)) bn bg SV n.st R X):=hS.take;have HB:Hid (Blk w bn (ndC n x) 36):=hS.o.nd.blk;have HRg:Hid (w.rangeAt bg 2 (ndC R.n X).toList):=part_range hS.gb 2 (ndC R.n X).toList rfl;have HC1:Hid ((ndC R.n X).all (·.oneCell')=true):=hS.ans.ndo.one.1;have hBA:True:=trivial;clear hS
 conv=>arg 2;whnf
 go_wp2_with (first
  |(refine Zx 36 (.tmp 52) rfl ?_;clear hBA;go_loud (refine wpList_load_mid rfl 36 (.tmp 52) rfl bg 2 rfl (ndC R.n X).toList _ HRg.out Tryz.underlying36 rfl (by rw [Z3k];rfl) ?_))
  |(refine Y6 36 (.tmp 3) _ rfl ?_;go_loud (refine Zz rfl 36 (.tmp 3) _ rfl bn rfl rfl HB.out Z3k rfl rfl HC1.out ?_)))
 exact hP _ _ ⟨rfl,rfl⟩ rfl rfl rfl rfl HT.out
theorem bo13 {w0:World}{bn bg:Nat}{SV e5:Value}{S:List Int}{X:RV}{R:Rn}{Q:Exit->Act->World->Prop}{K:Act->World->Prop}{a:Act}{w:World}(hF:SzD a 121)(h3:a.eval (.tmp 3)=.pointer (some ⟨bn,0,none⟩))(h4:a.eval (.tmp 4)=SV)(h5:a.eval (.tmp 5)=e5)(h7:a.eval (.tmp 7)=.pointer (some ⟨bg,0,none⟩))(hS:BtI w0 w bn bg SV S R X)(hP:∀ a' w',SzD a' 121->a'.eval (.tmp 3)=.pointer (some ⟨bn,0,none⟩)->a'.eval (.tmp 4)=SV->a'.eval (.tmp 5)=e5->a'.eval (.tmp 7)=.pointer (some ⟨bg,0,none⟩)->a'.eval (.tmp 56)=.bool (R.n.ro != 3)->BtI w0 w' bn bg SV S R X->K a' w'):(Z2 0 (Z2 4 (Zf (Z2 1 (Zy (Zf (Z1 1 (Z2 4 (Z9 Tryz.f5))))))))).wp Tryz.prog (Exit.then K Q) a w:=by
 obtain ⟨t,rfl⟩:=hF.opened;clear hF;rw [show lst t 0 121 = [t 0,t 1,t 2,t 3,t 4,t 5,t 6,t 7,t 8,t 9,t 10,t 11,t 12,t 13,t 14,t 15,t 16,t 17,t 18,t 19,t 20,t 21,t 22,t 23,t 24,t 25,t 26,t 27,t 28,t 29,t 30,t 31,t 32,t 33,t 34,t 35,t 36,t 37,t 38,t 39,t 40,t 41,t 42,t 43,t 44,t 45,t 46,t 47,t 48,t 49,t 50,t 51,t 52,t 53,t 54,t 55,t 56,t 57,t 58,t 59,t 60,t 61,t 62,t 63,t 64,t 65,t 66,t 67,t 68,t 69,t 70,t 71,t 72,t 73,t 74,t 75,t 76,t 77,t 78,t 79,t 80,t 81,t 82,t 83,t 84,t 85,t 86,t 87,t 88,t 89,t 90,t 91,t 92,t 93,t 94,t 95,t 96,t 97,t 98,t 99,t 100,t 101,t 102,t 103,t 104,t 105,t 106,t 107,t 108,t 109,t 110,t 111,t 112,t 113,t 114,t 115,t 116,t 117,t 118,t 119,t 120] from rfl]
 try dsimp only
 rw [show t 3=.pointer (some ⟨bn,0,none⟩) from h3];rw [show t 4=SV from h4];rw [show t 5=e5 from h5];rw [show t 7=.pointer (some ⟨bg,0,none⟩) from h7];clear h3 h4 h5 h7;have c6:w.cell? ⟨bn,6,none⟩=some (.int .i64 R.n.ro):=hS.nd.blk.cell 6;have HS:Hid (BtI w0 w bn bg SV S R X):=hS;clear hS
 conv=>arg 2;whnf
 go_wp2_with fail
 exact hP _ _ ⟨rfl,rfl⟩ rfl rfl rfl rfl rfl HS.out
theorem bo14 {w0:World}{bn bg:Nat}{SV e5:Value}{S:List Int}{X:RV}{R:Rn}(hout:R.out = []){Q:Exit->Act->World->Prop}{K:Act->World->Prop}{a:Act}{w:World}(hF:SzD a 121)(h7:a.eval (.tmp 7)=.pointer (some ⟨bg,0,none⟩))(hS:BtI w0 w bn bg SV S R X)(hP:∀ a' w',SzD a' 121->a'.eval (.tmp 2)=.bool true->w'=w->K a' w'):(Z2 0 (Zo (Z1 1 (Z2 4 (Zf (Z2 1 (Zy (Zf (Z1 1 (Z2 4 (Z9 Tryz.f5))))))))))).wp Tryz.prog (Exit.then K Q) a w:=by
 obtain ⟨t,rfl⟩:=hF.opened;clear hF;rw [show lst t 0 121 = [t 0,t 1,t 2,t 3,t 4,t 5,t 6,t 7,t 8,t 9,t 10,t 11,t 12,t 13,t 14,t 15,t 16,t 17,t 18,t 19,t 20,t 21,t 22,t 23,t 24,t 25,t 26,t 27,t 28,t 29,t 30,t 31,t 32,t 33,t 34,t 35,t 36,t 37,t 38,t 39,t 40,t 41,t 42,t 43,t 44,t 45,t 46,t 47,t 48,t 49,t 50,t 51,t 52,t 53,t 54,t 55,t 56,t 57,t 58,t 59,t 60,t 61,t 62,t 63,t 64,t 65,t 66,t 67,t 68,t 69,t 70,t 71,t 72,t 73,t 74,t 75,t 76,t 77,t 78,t 79,t 80,t 81,t 82,t 83,t 84,t 85,t 86,t 87,t 88,t 89,t 90,t 91,t 92,t 93,t 94,t 95,t 96,t 97,t 98,t 99,t 100,t 101,t 102,t 103,t 104,t 105,t 106,t 107,t 108,t 109,t 110,t 111,t 112,t 113,t 114,t 115,t 116,t 117,t 118,t 119,t 120] from rfl]
 try dsimp only
 rw [show t 7=.pointer (some ⟨bg,0,none⟩) from h7];clear h7;have hlen:X.L.length=0:=by have h9:=congrArg List.length hS.outC;rw [hout] at h9;simpa using h9
 obtain ⟨oa,oc,hv⟩:=hS.out.shape;rw [hlen] at hv;have c20:w.cell? ⟨bg,20,none⟩=some (.slice oa 0 oc):=by rw [<-hv];exact hS.gb.cell 20
 clear hS hlen hv hout
 conv=>arg 2;whnf
 go_wp2_with fail
 exact hP _ _ ⟨rfl,rfl⟩ (by simp [Act.eval]) rfl
theorem bo15 {bn bg:Nat}{SV e5:Value}{Q:Exit->Act->World->Prop}{K:Act->World->Prop}{a:Act}{w:World}(hF:SzD a 121)(h3:a.eval (.tmp 3)=.pointer (some ⟨bn,0,none⟩))(h4:a.eval (.tmp 4)=SV)(h5:a.eval (.tmp 5)=e5)(h7:a.eval (.tmp 7)=.pointer (some ⟨bg,0,none⟩))(hP:∀ a' w',SzD a' 121->a'.eval (.tmp 3)=.pointer (some ⟨bn,0,none⟩)->a'.eval (.tmp 4)=SV->a'.eval (.tmp 5)=e5->a'.eval (.tmp 7)=.pointer (some ⟨bg,0,none⟩)->a'.eval (.tmp 8)=.int .i64 0->w'=w->K a' w'):(Z2 5 (Zf (Z2 1 (Zy (Zf (Z1 1 (Z2 4 (Z9 Tryz.f5)))))))).wp Tryz.prog (Exit.then K Q) a w:=by
 obtain ⟨t,rfl⟩:=hF.opened;clear hF;rw [show lst t 0 121 = [t 0,t 1,t 2,t 3,t 4,t 5,t 6,t 7,t 8,t 9,t 10,t 11,t 12,t 13,t 14,t 15,t 16,t 17,t 18,t 19,t 20,t 21,t 22,t 23,t 24,t 25,t 26,t 27,t 28,t 29,t 30,t 31,t 32,t 33,t 34,t 35,t 36,t 37,t 38,t 39,t 40,t 41,t 42,t 43,t 44,t 45,t 46,t 47,t 48,t 49,t 50,t 51,t 52,t 53,t 54,t 55,t 56,t 57,t 58,t 59,t 60,t 61,t 62,t 63,t 64,t 65,t 66,t 67,t 68,t 69,t 70,t 71,t 72,t 73,t 74,t 75,t 76,t 77,t 78,t 79,t 80,t 81,t 82,t 83,t 84,t 85,t 86,t 87,t 88,t 89,t 90,t 91,t 92,t 93,t 94,t 95,t 96,t 97,t 98,t 99,t 100,t 101,t 102,t 103,t 104,t 105,t 106,t 107,t 108,t 109,t 110,t 111,t 112,t 113,t 114,t 115,t 116,t 117,t 118,t 119,t 120] from rfl]
 try dsimp only
 rw [show t 3=.pointer (some ⟨bn,0,none⟩) from h3];rw [show t 4=SV from h4];rw [show t 5=e5 from h5];rw [show t 7=.pointer (some ⟨bg,0,none⟩) from h7];clear h3 h4 h5 h7
 conv=>arg 2;whnf
 go_wp2_with fail
 exact hP _ _ ⟨rfl,rfl⟩ rfl rfl rfl rfl rfl rfl
theorem bo16 {bn bg:Nat}{SV e5 e8:Value}{Q:Exit->Act->World->Prop}{K:Act->World->Prop}{a:Act}{w:World}(hF:SzD a 121)(h3:a.eval (.tmp 3)=.pointer (some ⟨bn,0,none⟩))(h4:a.eval (.tmp 4)=SV)(h5:a.eval (.tmp 5)=e5)(h7:a.eval (.tmp 7)=.pointer (some ⟨bg,0,none⟩))(h8:a.eval (.tmp 8)=e8)(hP:∀ a' w',SzD a' 121->a'.eval (.tmp 3)=.pointer (some ⟨bn,0,none⟩)->a'.eval (.tmp 4)=SV->a'.eval (.tmp 5)=e5->a'.eval (.tmp 7)=.pointer (some ⟨bg,0,none⟩)->a'.eval (.tmp 8)=e8->a'.eval (.tmp 9)=.int .i64 1->w'=w->K a' w'):(Z2 0 (Z2 6 (Zf (Z2 1 (Zy (Zf (Z1 1 (Z2 4 (Z9 Tryz.f5))))))))).wp Tryz.prog (Exit.then K Q) a w:=by
 obtain ⟨t,rfl⟩:=hF.opened;clear hF;rw [show lst t 0 121 = [t 0,t 1,t 2,t 3,t 4,t 5,t 6,t 7,t 8,t 9,t 10,t 11,t 12,t 13,t 14,t 15,t 16,t 17,t 18,t 19,t 20,t 21,t 22,t 23,t 24,t 25,t 26,t 27,t 28,t 29,t 30,t 31,t 32,t 33,t 34,t 35,t 36,t 37,t 38,t 39,t 40,t 41,t 42,t 43,t 44,t 45,t 46,t 47,t 48,t 49,t 50,t 51,t 52,t 53,t 54,t 55,t 56,t 57,t 58,t 59,t 60,t 61,t 62,t 63,t 64,t 65,t 66,t 67,t 68,t 69,t 70,t 71,t 72,t 73,t 74,t 75,t 76,t 77,t 78,t 79,t 80,t 81,t 82,t 83,t 84,t 85,t 86,t 87,t 88,t 89,t 90,t 91,t 92,t 93,t 94,t 95,t 96,t 97,t 98,t 99,t 100,t 101,t 102,t 103,t 104,t 105,t 106,t 107,t 108,t 109,t 110,t 111,t 112,t 113,t 114,t 115,t 116,t 117,t 118,t 119,t 120] from rfl]
 try dsimp only
 rw [show t 3=.pointer (some ⟨bn,0,none⟩) from h3];rw [show t 4=SV from h4];rw [show t 5=e5 from h5];rw [show t 7=.pointer (some ⟨bg,0,none⟩) from h7];rw [show t 8=e8 from h8];clear h3 h4 h5 h7 h8
 conv=>arg 2;whnf
 go_wp2_with fail
 exact hP _ _ ⟨rfl,rfl⟩ rfl rfl rfl rfl rfl rfl rfl
theorem bo24 {w0:World}{bn bg:Nat}{SV e5:Value}{S:List Int}{X:RV}{R:Rn}{q:Nat}(hout:R.out.length=q){Q:Exit->Act->World->Prop}{K:Act->World->Prop}{a:Act}{w:World}(hF:SzD a 121)(h3:a.eval (.tmp 3)=.pointer (some ⟨bn,0,none⟩))(h4:a.eval (.tmp 4)=SV)(h5:a.eval (.tmp 5)=e5)(h7:a.eval (.tmp 7)=.pointer (some ⟨bg,0,none⟩))(h8:a.eval (.tmp 8)=.int .i64 (q:Nat))(hS:BtI w0 w bn bg SV S R X)(hP:∀ a' w',SzD a' 121->a'.eval (.tmp 3)=.pointer (some ⟨bn,0,none⟩)->a'.eval (.tmp 4)=SV->a'.eval (.tmp 5)=e5->a'.eval (.tmp 120)=.bool false->w'=w->K a' w'):(Z2 0 (Z1 7 (Zf (Z2 1 (Zy (Zf (Z1 1 (Z2 4 (Z9 Tryz.f5))))))))).wp Tryz.prog (Exit.then K Q) a w:=by
 obtain ⟨t,rfl⟩:=hF.opened;clear hF;rw [show lst t 0 121 = [t 0,t 1,t 2,t 3,t 4,t 5,t 6,t 7,t 8,t 9,t 10,t 11,t 12,t 13,t 14,t 15,t 16,t 17,t 18,t 19,t 20,t 21,t 22,t 23,t 24,t 25,t 26,t 27,t 28,t 29,t 30,t 31,t 32,t 33,t 34,t 35,t 36,t 37,t 38,t 39,t 40,t 41,t 42,t 43,t 44,t 45,t 46,t 47,t 48,t 49,t 50,t 51,t 52,t 53,t 54,t 55,t 56,t 57,t 58,t 59,t 60,t 61,t 62,t 63,t 64,t 65,t 66,t 67,t 68,t 69,t 70,t 71,t 72,t 73,t 74,t 75,t 76,t 77,t 78,t 79,t 80,t 81,t 82,t 83,t 84,t 85,t 86,t 87,t 88,t 89,t 90,t 91,t 92,t 93,t 94,t 95,t 96,t 97,t 98,t 99,t 100,t 101,t 102,t 103,t 104,t 105,t 106,t 107,t 108,t 109,t 110,t 111,t 112,t 113,t 114,t 115,t 116,t 117,t 118,t 119,t 120] from rfl]
 try dsimp only
 rw [show t 3=.pointer (some ⟨bn,0,none⟩) from h3];rw [show t 4=SV from h4];rw [show t 5=e5 from h5];rw [show t 7=.pointer (some ⟨bg,0,none⟩) from h7];rw [show t 8=.int .i64 (q:Nat) from h8];clear h3 h4 h5 h7 h8;have hlen:X.L.length=q:=by have h9:=congrArg List.length hS.outC;rw [List.length_map] at h9;omega
 obtain ⟨oa,oc,hv⟩:=hS.out.shape;rw [hlen] at hv;have c20:w.cell? ⟨bg,20,none⟩=some (.slice oa q oc):=by rw [<-hv];exact hS.gb.cell 20
 clear hS hlen hv hout
 conv=>arg 2;whnf
 go_wp2_with fail
 exact hP _ _ ⟨rfl,rfl⟩ rfl rfl rfl (by simp [Act.eval]) rfl
theorem bo7 {bn i:Nat}{SV:Value}(hi2:i<200){Q:Exit->Act->World->Prop}{K:Act->World->Prop}{a:Act}{w:World}(hF:SzD a 121)(h3:a.eval (.tmp 3)=.pointer (some ⟨bn,0,none⟩))(h4:a.eval (.tmp 4)=SV)(h5:a.eval (.tmp 5)=.int .i64 (i:Nat))(hP:∀ a' w',SzD a' 121->a'.eval (.tmp 3)=.pointer (some ⟨bn,0,none⟩)->a'.eval (.tmp 4)=SV->a'.eval (.tmp 5)=.int .i64 ((i:Int)+1)->w'=w->K a' w'):(Z1 2 (Zy (Zf (Z1 1 (Z2 4 (Z9 Tryz.f5)))))).wp Tryz.prog (Exit.then K Q) a w:=by
 obtain ⟨t,rfl⟩:=hF.opened;clear hF;rw [show lst t 0 121 = [t 0,t 1,t 2,t 3,t 4,t 5,t 6,t 7,t 8,t 9,t 10,t 11,t 12,t 13,t 14,t 15,t 16,t 17,t 18,t 19,t 20,t 21,t 22,t 23,t 24,t 25,t 26,t 27,t 28,t 29,t 30,t 31,t 32,t 33,t 34,t 35,t 36,t 37,t 38,t 39,t 40,t 41,t 42,t 43,t 44,t 45,t 46,t 47,t 48,t 49,t 50,t 51,t 52,t 53,t 54,t 55,t 56,t 57,t 58,t 59,t 60,t 61,t 62,t 63,t 64,t 65,t 66,t 67,t 68,t 69,t 70,t 71,t 72,t 73,t 74,t 75,t 76,t 77,t 78,t 79,t 80,t 81,t 82,t 83,t 84,t 85,t 86,t 87,t 88,t 89,t 90,t 91,t 92,t 93,t 94,t 95,t 96,t 97,t 98,t 99,t 100,t 101,t 102,t 103,t 104,t 105,t 106,t 107,t 108,t 109,t 110,t 111,t 112,t 113,t 114,t 115,t 116,t 117,t 118,t 119,t 120] from rfl]
 try dsimp only
 rw [show t 3=.pointer (some ⟨bn,0,none⟩) from h3];rw [show t 4=SV from h4];rw [show t 5=.int .i64 (i:Nat) from h5];clear h3 h4 h5
 conv=>arg 2;whnf
 go_wp2_with fail
 exact hP _ _ ⟨rfl,rfl⟩ rfl rfl rfl rfl
theorem bo26 {Q:Exit->Act->World->Prop}{K:Act->World->Prop}{a:Act}{w:World}(hF:SzD a 121)(hP:∀ a' w',SzD a' 121->a'.eval (.tmp 2)=.bool true->w'=w->K a' w'):(Z2 5 (Z9 Tryz.f5)).wp Tryz.prog (Exit.then K Q) a w:=by
 obtain ⟨t,rfl⟩:=hF.opened;clear hF;rw [show lst t 0 121 = [t 0,t 1,t 2,t 3,t 4,t 5,t 6,t 7,t 8,t 9,t 10,t 11,t 12,t 13,t 14,t 15,t 16,t 17,t 18,t 19,t 20,t 21,t 22,t 23,t 24,t 25,t 26,t 27,t 28,t 29,t 30,t 31,t 32,t 33,t 34,t 35,t 36,t 37,t 38,t 39,t 40,t 41,t 42,t 43,t 44,t 45,t 46,t 47,t 48,t 49,t 50,t 51,t 52,t 53,t 54,t 55,t 56,t 57,t 58,t 59,t 60,t 61,t 62,t 63,t 64,t 65,t 66,t 67,t 68,t 69,t 70,t 71,t 72,t 73,t 74,t 75,t 76,t 77,t 78,t 79,t 80,t 81,t 82,t 83,t 84,t 85,t 86,t 87,t 88,t 89,t 90,t 91,t 92,t 93,t 94,t 95,t 96,t 97,t 98,t 99,t 100,t 101,t 102,t 103,t 104,t 105,t 106,t 107,t 108,t 109,t 110,t 111,t 112,t 113,t 114,t 115,t 116,t 117,t 118,t 119,t 120] from rfl]
 try dsimp only
 conv=>arg 2;whnf
 go_wp2_with fail
 exact hP _ _ ⟨rfl,rfl⟩ rfl rfl
theorem results_tmp {fn:Func}{s:Tmp}{tmps:Array Value}{w:World}{v:Value}(hr:fn.results=#[.tmp s])(ht:tmps.getD s undef=v):(results fn tmps).run Tryz.prog w=.ok v w:=by
 have e:tmps[s]?.getD undef=v:=by rw [<-ht];simp
 simp [results,hr,e]
theorem nodeN_place (n:Nd)(h:Yo n=0):Y0 n.id n.sz n.el n.bt=true:=by
 unfold Yo Ys at h;split at h
 ·simp at h
 rename_i h1;simpa using h1
structure Ldr (n:Nd) (i:Nat):Prop where
 ok:Yo n=0
 ro:n.ro=3
 nw:n.nw<=100000+(i:Int)
theorem Ldr.facts {n:Nd}{i:Nat}(h:Ldr n i):(1<=n.bt/\n.bt<=1000)/\0<=n.nw/\n.sz=(n.sz.toNat:Int)/\n.sz.toNat<=7/\3<=n.sz.toNat/\n.st.length=n.sz.toNat/\∀ j,0<=n.st.getD j 0/\n.st.getD j 0<=n.nw:=by
 obtain ⟨hb,t0,t1,ho,hgl,hcm,hg,hl⟩:=Jv n h.ok;have hp:=nodeN_place n h.ok;simp only [Y0,Bool.and_eq_true,Zs] at hp;have hz0:=hb.sz0;have hz1:=hb.sz1;unfold Yr at hl;rw [if_pos h.ro,Bool.and_eq_true,Xj] at hl;obtain ⟨⟨e1,e2,e3,e4⟩,hpr⟩:=hl;refine ⟨by omega,hb.nw0,by omega,by omega,by omega,by omega,fun j=>?_⟩;have hnw:=hb.nw0;rcases Nat.lt_or_ge j n.st.length with hj | hj
 ·have h9:=progs_at hpr j (by omega)
  unfold Yc at h9;split at h9
  ·simp only [Bool.and_eq_true,beq_iff_eq] at h9
   have:=h9.2.2.2;omega
  ·simp only [Bool.and_eq_true,Zs] at h9
   exact h9.2.2.2
 ·rw [List.getD_eq_getElem?_getD,List.getElem?_eq_none hj]
  exact ⟨Int.le_refl _,hnw⟩
theorem boRound {w0:World}{bn i:Nat}{SV:Value}{n:Nd}{x:RV}{T:Exit->Act->World->Prop}{K:Act->World->Prop}{a:Act}{w:World}(hl:Ldr n i)(hi:(i:Int)<2*n.bt)(hi2:i<200)(hF:SzD a 121)(h3:a.eval (.tmp 3)=.pointer (some ⟨bn,0,none⟩))(h4:a.eval (.tmp 4)=SV)(h5:a.eval (.tmp 5)=.int .i64 (i:Nat))(hS:BtO w0 w bn SV n x)(hret:∀ a' w',SzD a' 121->a'.eval (.tmp 2)=.bool true->Below w0.heap.size w0 w'->T .ret a' w')(hP:∀ a' w' n' x',SzD a' 121->a'.eval (.tmp 3)=.pointer (some ⟨bn,0,none⟩)->a'.eval (.tmp 4)=SV->a'.eval (.tmp 5)=.int .i64 ((i:Int)+1)->BtO w0 w' bn SV n' x'->Ldr n' (i+1)->K a' w'):(Zy (Zf (Z1 1 (Z2 4 (Z9 Tryz.f5))))).wp Tryz.prog (Exit.then K T) a w:=by
 obtain ⟨hbt,hnw0,hsz,hs7,hs3,hsl,hst⟩:=hl.facts;have hnw:=hl.nw;obtain ⟨R,hR⟩:∃ R,R=tk n 0:=⟨_,rfl⟩;obtain ⟨r1,r2,r3⟩:=tk_cases n 0 hl.ro (by omega);rw [<-hR] at r1 r2 r3;rw [show Zy (Zf (Z1 1 (Z2 4 (Z9 Tryz.f5))))=.seq (Z2 0 (Zy (Zf (Z1 1 (Z2 4 (Z9 Tryz.f5)))))) (.seq (.block 1 (Zf (Z2 1 (Zy (Zf (Z1 1 (Z2 4 (Z9 Tryz.f5)))))))) (Z1 2 (Zy (Zf (Z1 1 (Z2 4 (Z9 Tryz.f5))))))) from rfl];refine wp_seq_k ?_;intro K1 hK1;refine bo6 (i:=i) hi hi2 hbt hF h3 h4 h5 hS fun a1 w1 f1 g3 g4 g5 s1=>hK1 _ _ ?_
 refine wp_seq_k ?_;intro K2 hK2;refine wp_block ?_;rw [show Zf (Z2 1 (Zy (Zf (Z1 1 (Z2 4 (Z9 Tryz.f5))))))=.seq (Z2 0 (Zf (Z2 1 (Zy (Zf (Z1 1 (Z2 4 (Z9 Tryz.f5)))))))) (.seq (Z2 1 (Zf (Z2 1 (Zy (Zf (Z1 1 (Z2 4 (Z9 Tryz.f5)))))))) (.seq (.seq (Z2 0 (Z2 2 (Zf (Z2 1 (Zy (Zf (Z1 1 (Z2 4 (Z9 Tryz.f5))))))))) (.cond (.tmp 51) (Zo (Z1 1 (Z2 2 (Zf (Z2 1 (Zy (Zf (Z1 1 (Z2 4 (Z9 Tryz.f5)))))))))) .skip)) (.seq (Z2 3 (Zf (Z2 1 (Zy (Zf (Z1 1 (Z2 4 (Z9 Tryz.f5)))))))) (.seq (.seq (Z2 0 (Z2 4 (Zf (Z2 1 (Zy (Zf (Z1 1 (Z2 4 (Z9 Tryz.f5))))))))) (.cond (.tmp 56) (.seq (Z2 0 (Zo (Z1 1 (Z2 4 (Zf (Z2 1 (Zy (Zf (Z1 1 (Z2 4 (Z9 Tryz.f5))))))))))) .ret) .skip)) (.seq (Z2 5 (Zf (Z2 1 (Zy (Zf (Z1 1 (Z2 4 (Z9 Tryz.f5)))))))) (.seq (.seq (Z2 0 (Z2 6 (Zf (Z2 1 (Zy (Zf (Z1 1 (Z2 4 (Z9 Tryz.f5))))))))) (Z1 1 (Z2 6 (Zf (Z2 1 (Zy (Zf (Z1 1 (Z2 4 (Z9 Tryz.f5)))))))))) (.seq (Z2 0 (Z1 7 (Zf (Z2 1 (Zy (Zf (Z1 1 (Z2 4 (Z9 Tryz.f5))))))))) (.cond (.tmp 120) (Zo (Z1 1 (Z1 7 (Zf (Z2 1 (Zy (Zf (Z1 1 (Z2 4 (Z9 Tryz.f5)))))))))) .skip)))))))) from rfl];refine wp_seq_k ?_;intro K3 hK3;refine bo8 hR hl.ok f1 g3 g4 g5 s1 fun a2 w2 f2 i3 i4 i5 i6 s2=>hK3 _ _ ?_
 refine wp_seq_k ?_;intro K4 hK4;refine bo9 hR hl.ok f2 i3 i4 i5 i6 s2 fun a3 w3 bg X f3 j3 j4 j5 j6 j7 s3=>hK4 _ _ ?_
 refine wp_seq_k ?_;intro K5 hK5;refine wp_seq_k ?_;intro K6 hK6;refine bo10 r1 ⟨hnw0,by omega⟩ f3 j3 j4 j5 j6 j7 s3 fun a4 w4 f4 k3 k4 k5 k7 k51 s4=>hK6 _ _ ?_
 refine wp_cond k51 ?_;refine wp_skip (hK5 _ _ ?_);refine wp_seq_k ?_;intro K7 hK7;refine bo12 f4 k3 k4 k5 k7 s4 fun a5 w5 f5 l3 l4 l5 l7 s5=>hK7 _ _ ?_
 refine wp_seq_k ?_;intro K8 hK8;refine wp_seq_k ?_;intro K9 hK9;refine bo13 f5 l3 l4 l5 l7 s5 fun a6 w6 f6 m3 m4 m5 m7 m56 s6=>hK9 _ _ ?_
 refine wp_cond m56 ?_;rcases r3 with ⟨q1,q2,q3,q4,q5⟩ | ⟨q1,q2⟩
 ·rw [if_pos (by rw [q1];rfl)]
  refine wp_seq_k ?_;intro K10 hK10;refine bo14 (e5:=undef) q2 f6 m7 s6 fun a7 w7 f7 n2 e7=>hK10 _ _ ?_
  subst e7;refine wp_ret ?_;exact hret _ _ f7 n2 s6.bel
 ·have hro:R.n.ro=3:=by rw [q1];exact hl.ro
  rw [if_neg (by rw [hro];decide)];refine wp_skip (hK8 _ _ ?_);refine wp_seq_k ?_;intro K10 hK10;refine bo15 f6 m3 m4 m5 m7 fun a7 w7 f7 n3 n4 n5 n7 n8 e7=>hK10 _ _ ?_
  subst e7;refine wp_seq_k ?_;intro K11 hK11;refine wp_seq_k ?_;intro K12 hK12;refine bo16 f7 n3 n4 n5 n7 n8 fun a8 w8 f8 o3 o4 o5 o7 o8 o9 e8=>hK12 _ _ ?_
  subst e8;refine btLoop (N:=n.sz.toNat) (m:=ndT n) (by rw [q1];exact hsz) hs7 hsl (by rw [q1]) (by rw [q1]) (by rw [q1]) q2 (by show 0<=n.nw+1/\n.nw+1<=_;omega) (fun j=>by have:=hst j;show 0<=n.st.getD j 0/\n.st.getD j 0<=_;omega) f8 o3 o4 o5 o7 o8 o9 s6 fun a9 w9 f9 p3 p4 p5 p7 p8 s9=>hK11 _ _ ?_
  refine wp_seq_k ?_;intro K13 hK13;refine bo24 (q:=(Xp (ndT n) n.sz.toNat).length) (by rw [q2]) f9 p3 p4 p5 p7 p8 s9 fun a10 w10 f10 u3 u4 u5 u120 e10=>hK13 _ _ ?_
  subst e10;refine wp_cond u120 ?_;refine wp_skip ?_;refine hK2 _ _ ?_;refine bo7 hi2 f10 u3 u4 u5 fun a11 w11 f11 v3 v4 v5 e11=>?_
  subst e11;have hst2:Je (ndT n) n.sz.toNat=R.n.st:=by rw [q1]
  rw [hst2] at s9;refine hP _ _ R.n X f11 v3 v4 v5 s9.again ⟨?_,hro,?_⟩
  ·rw [q1];exact ndT_ok n hl.ok hl.ro (by omega)
  ·rw [r1];push_cast;omega
theorem boLoop {w0:World}{bn:Nat}{SV:Value}{n:Nd}{x:RV}{T:Exit->Act->World->Prop}{K:Act->World->Prop}{a:Act}{w:World}(hl:Ldr n 0)(hF:SzD a 121)(h3:a.eval (.tmp 3)=.pointer (some ⟨bn,0,none⟩))(h4:a.eval (.tmp 4)=SV)(h5:a.eval (.tmp 5)=.int .i64 0)(hS:BtO w0 w bn SV n x)(hret:∀ a' w',SzD a' 121->a'.eval (.tmp 2)=.bool true->Below w0.heap.size w0 w'->T .ret a' w')(hP:∀ a' w',SzD a' 121->Below w0.heap.size w0 w'->K a' w'):(Z1 1 (Z2 4 (Z9 Tryz.f5))).wp Tryz.prog (Exit.then K T) a w:=by
 rw [show Z1 1 (Z2 4 (Z9 Tryz.f5))=.block 0 (.loop (Zy (Zf (Z1 1 (Z2 4 (Z9 Tryz.f5)))))) from rfl];refine wp_block ?_;refine wp_loop (fun a w=>∃(i:Nat) (n':Nd) (x':RV),i<=200/\Ldr n' i/\SzD a 121/\a.eval (.tmp 3)=.pointer (some ⟨bn,0,none⟩)/\a.eval (.tmp 4)=SV/\a.eval (.tmp 5)=.int .i64 (i:Nat)/\BtO w0 w bn SV n' x') (fun a _=>201-(RowKit.intOf (a.eval (.tmp 5))).toNat) ⟨0,n,x,by omega,hl,hF,h3,h4,h5,hS⟩ ?_;rintro a1 w1 ⟨i,n1,x1,hi,hl1,f1,g3,g4,g5,s1⟩;by_cases hc:(i:Int)<2*n1.bt/\i<200
 ·refine boRound hl1 hc.1 hc.2 f1 g3 g4 g5 s1 (fun a' w' f' e' b'=>hret a' w' f' e' b') ?_
  intro a' w' n' x' f2 e3 e4 e5 s2 hl2;refine ⟨⟨i+1,n',x',by omega,hl2,f2,e3,e4,by rw [e5];rfl,s2⟩,?_⟩;rw [e5,g5];simp only [RowKit.intOf];omega
 ·refine bo6x hc hi hl1.facts.1 f1 g3 g4 g5 s1 ?_
  intro a' f2;exact hP a' w1 f2 s1.bel
theorem bf0 {v:Value}{Q:Exit->Act->World->Prop}{K:Act->World->Prop}{a:Act}{w:World}(hF:SzD a 121)(h0:a.eval (.tmp 0)=v)(hP:∀ a' w',SzD a' 121->a'.eval (.tmp 0)=v->w'=w->K a' w'):(Z2 0 (Z9 Tryz.f5)).wp Tryz.prog (Exit.then K Q) a w:=by
 obtain ⟨t,rfl⟩:=hF.opened;clear hF;rw [show lst t 0 121 = [t 0,t 1,t 2,t 3,t 4,t 5,t 6,t 7,t 8,t 9,t 10,t 11,t 12,t 13,t 14,t 15,t 16,t 17,t 18,t 19,t 20,t 21,t 22,t 23,t 24,t 25,t 26,t 27,t 28,t 29,t 30,t 31,t 32,t 33,t 34,t 35,t 36,t 37,t 38,t 39,t 40,t 41,t 42,t 43,t 44,t 45,t 46,t 47,t 48,t 49,t 50,t 51,t 52,t 53,t 54,t 55,t 56,t 57,t 58,t 59,t 60,t 61,t 62,t 63,t 64,t 65,t 66,t 67,t 68,t 69,t 70,t 71,t 72,t 73,t 74,t 75,t 76,t 77,t 78,t 79,t 80,t 81,t 82,t 83,t 84,t 85,t 86,t 87,t 88,t 89,t 90,t 91,t 92,t 93,t 94,t 95,t 96,t 97,t 98,t 99,t 100,t 101,t 102,t 103,t 104,t 105,t 106,t 107,t 108,t 109,t 110,t 111,t 112,t 113,t 114,t 115,t 116,t 117,t 118,t 119,t 120] from rfl]
 try dsimp only
 rw [show t 0=v from h0];clear h0
 conv=>arg 2;whnf
 go_wp2_with fail
 exact hP _ _ ⟨rfl,rfl⟩ rfl rfl
theorem bf1 {va:Option Addr}{ln vc:Nat}(hL:¬(1048576:Int)<(ln:Int))(hL2:ln<=1048576){Q:Exit->Act->World->Prop}{K:Act->World->Prop}{a:Act}{w:World}(hF:SzD a 121)(h0:a.eval (.tmp 0)=.slice va ln vc)(hP:∀ a' w',SzD a' 121->a'.eval (.tmp 0)=.slice va ln vc->w'=w->K a' w'):(Z2 1 (Z9 Tryz.f5)).wp Tryz.prog (Exit.then K Q) a w:=by
 obtain ⟨t,rfl⟩:=hF.opened;clear hF;rw [show lst t 0 121 = [t 0,t 1,t 2,t 3,t 4,t 5,t 6,t 7,t 8,t 9,t 10,t 11,t 12,t 13,t 14,t 15,t 16,t 17,t 18,t 19,t 20,t 21,t 22,t 23,t 24,t 25,t 26,t 27,t 28,t 29,t 30,t 31,t 32,t 33,t 34,t 35,t 36,t 37,t 38,t 39,t 40,t 41,t 42,t 43,t 44,t 45,t 46,t 47,t 48,t 49,t 50,t 51,t 52,t 53,t 54,t 55,t 56,t 57,t 58,t 59,t 60,t 61,t 62,t 63,t 64,t 65,t 66,t 67,t 68,t 69,t 70,t 71,t 72,t 73,t 74,t 75,t 76,t 77,t 78,t 79,t 80,t 81,t 82,t 83,t 84,t 85,t 86,t 87,t 88,t 89,t 90,t 91,t 92,t 93,t 94,t 95,t 96,t 97,t 98,t 99,t 100,t 101,t 102,t 103,t 104,t 105,t 106,t 107,t 108,t 109,t 110,t 111,t 112,t 113,t 114,t 115,t 116,t 117,t 118,t 119,t 120] from rfl]
 try dsimp only
 rw [show t 0=.slice va ln vc from h0];clear h0
 conv=>arg 2;whnf
 go_wp2_with fail
 exact hP _ _ ⟨rfl,rfl⟩ rfl rfl
theorem bf2 {v:Value}{Q:Exit->Act->World->Prop}{K:Act->World->Prop}{a:Act}{w:World}(hF:SzD a 121)(h0:a.eval (.tmp 0)=v)(HD:Hid (Calls Tryz.prog 24 #[v] w fun r w'=>∃ n x,r=.returned (.agg (ndC n x))/\NdO w' w.heap.size n x/\Yo n=0/\good n/\Below w.heap.size w w'))(hP:∀ a' w' bn n x,SzD a' 121->a'.eval (.tmp 3)=.pointer (some ⟨bn,0,none⟩)->NdS w' w.heap.size bn n x->w.heap.size<=bn->Below w.heap.size w w'->Yo n=0/\good n->K a' w'):(Z2 2 (Z9 Tryz.f5)).wp Tryz.prog (Exit.then K Q) a w:=by
 obtain ⟨t,rfl⟩:=hF.opened;clear hF;rw [show lst t 0 121 = [t 0,t 1,t 2,t 3,t 4,t 5,t 6,t 7,t 8,t 9,t 10,t 11,t 12,t 13,t 14,t 15,t 16,t 17,t 18,t 19,t 20,t 21,t 22,t 23,t 24,t 25,t 26,t 27,t 28,t 29,t 30,t 31,t 32,t 33,t 34,t 35,t 36,t 37,t 38,t 39,t 40,t 41,t 42,t 43,t 44,t 45,t 46,t 47,t 48,t 49,t 50,t 51,t 52,t 53,t 54,t 55,t 56,t 57,t 58,t 59,t 60,t 61,t 62,t 63,t 64,t 65,t 66,t 67,t 68,t 69,t 70,t 71,t 72,t 73,t 74,t 75,t 76,t 77,t 78,t 79,t 80,t 81,t 82,t 83,t 84,t 85,t 86,t 87,t 88,t 89,t 90,t 91,t 92,t 93,t 94,t 95,t 96,t 97,t 98,t 99,t 100,t 101,t 102,t 103,t 104,t 105,t 106,t 107,t 108,t 109,t 110,t 111,t 112,t 113,t 114,t 115,t 116,t 117,t 118,t 119,t 120] from rfl]
 try dsimp only
 rw [show t 0=v from h0];clear h0
 conv=>arg 2;whnf
 go_wp2_with (first
  |(go_at_call 24;go_loud (refine HD.out.mono ?_;rintro r w2 ⟨n2,x2,rfl,ho2,ok2,gd2,hb2⟩;have HN:Hid (NdS (w2.alloc (.cells (ndC n2 x2) 36)) w.heap.size w2.heap.size n2 x2):=⟨Blk.new _ _ _,ho2.keep fun q _ h2=>((Below.refl _ _).alloc (Nat.le_refl _) _).block q h2⟩;have HG:Hid (Yo n2=0/\good n2):=⟨ok2,gd2⟩;have HB:Hid (Below w.heap.size w (w2.alloc (.cells (ndC n2 x2) 36))):=hb2.alloc hb2.size _;have HZ:Hid (w.heap.size<=w2.heap.size):=hb2.size;have HC1:Hid ((ndC n2 x2).all (·.oneCell')=true):=ho2.one.1;clear ho2 ok2 gd2 hb2))
  |(refine Y6 36 (.tmp 3) _ rfl ?_;go_loud (refine Y1 rfl 36 (.tmp 3) _ rfl (w2.heap.size) rfl rfl rfl Z3k rfl rfl HC1.out ?_)))
 exact hP _ _ w2.heap.size n2 x2 ⟨rfl,rfl⟩ rfl HN.out HZ.out HB.out HG.out
theorem boFirst {w0 w w2:World}{bn:Nat}{n:Nd}{x:RV}{v2:Value}(hS:NdS w w0.heap.size bn n x)(hlo:w0.heap.size<=bn)(hB:Below w0.heap.size w0 w)(ho:Zg inC 1 3 w2 w.heap.size v2 n.st)(hg:Xa (w.alloc (.cells #[] 3)) (.slice (some ⟨w.heap.size,0,none⟩) 0 0) w2 v2):BtO w0 w2 bn v2 n x:=by
 have hb2:Below w.heap.size w w2:=((Below.refl _ _).alloc (Nat.le_refl _) _).trans (growG hg (Zg.made inC 1 3 w w.heap.size (Nat.le_refl _)) (by simp));refine ⟨hS.below hb2,hlo,ho.le hB.size,?_,hB.trans (hb2.mono hB.size)⟩;intro v hv k e1 e2;have h1:=(ho.lts k e1).1
 have h2:k<w.heap.size:=by
  simp only [List.mem_cons,List.not_mem_nil,or_false] at hv;rcases hv with rfl | rfl | rfl | rfl | rfl
  ·exact (hS.own.gr.lts k e2).2
  ·exact (hS.own.nx.lts k e2).2
  ·exact (hS.own.mt.lts k e2).2
  ·exact (hS.own.se.lts k e2).2
  ·exact (hS.own.st.lts k e2).2
 omega
theorem bf3 {w0:World}{bn:Nat}{n:Nd}{x:RV}(hst:0<n.st.length)(hst2:n.st.length<=100){Q:Exit->Act->World->Prop}{K:Act->World->Prop}{a:Act}{w:World}(hF:SzD a 121)(h3:a.eval (.tmp 3)=.pointer (some ⟨bn,0,none⟩))(hS:NdS w w0.heap.size bn n x)(hlo:w0.heap.size<=bn)(hB:Below w0.heap.size w0 w)(hP:∀ a' w' SV,SzD a' 121->a'.eval (.tmp 3)=.pointer (some ⟨bn,0,none⟩)->a'.eval (.tmp 4)=SV->BtO w0 w' bn SV n x->K a' w'):(Z2 3 (Z9 Tryz.f5)).wp Tryz.prog (Exit.then K Q) a w:=by
 obtain ⟨t,rfl⟩:=hF.opened;clear hF;rw [show lst t 0 121 = [t 0,t 1,t 2,t 3,t 4,t 5,t 6,t 7,t 8,t 9,t 10,t 11,t 12,t 13,t 14,t 15,t 16,t 17,t 18,t 19,t 20,t 21,t 22,t 23,t 24,t 25,t 26,t 27,t 28,t 29,t 30,t 31,t 32,t 33,t 34,t 35,t 36,t 37,t 38,t 39,t 40,t 41,t 42,t 43,t 44,t 45,t 46,t 47,t 48,t 49,t 50,t 51,t 52,t 53,t 54,t 55,t 56,t 57,t 58,t 59,t 60,t 61,t 62,t 63,t 64,t 65,t 66,t 67,t 68,t 69,t 70,t 71,t 72,t 73,t 74,t 75,t 76,t 77,t 78,t 79,t 80,t 81,t 82,t 83,t 84,t 85,t 86,t 87,t 88,t 89,t 90,t 91,t 92,t 93,t 94,t 95,t 96,t 97,t 98,t 99,t 100,t 101,t 102,t 103,t 104,t 105,t 106,t 107,t 108,t 109,t 110,t 111,t 112,t 113,t 114,t 115,t 116,t 117,t 118,t 119,t 120] from rfl]
 try dsimp only
 rw [show t 3=.pointer (some ⟨bn,0,none⟩) from h3];clear h3;obtain ⟨sa,sc,hv⟩:=hS.own.st.shape;have c17:∀ o:Obj,(w.alloc o).cell? ⟨bn,17,none⟩=some (.slice sa n.st.length sc):=fun o=>by rw [<-hv];exact (hS.blk.alloc o).cell 17
 have HSl:Hid (∀ o:Obj,Sl inC 1 (w.alloc o) (.slice sa n.st.length sc) n.st):=fun o=>by rw [<-hv];exact (hS.own.st.below ((Below.refl _ _).alloc (Nat.le_refl _) _)).sl Z0b (by unfold maxLen;omega)
 have HS:Hid (NdS w w0.heap.size bn n x):=hS;have hz:=hB.size;have HB:Hid _:=hB;clear hS hv hB
 conv=>arg 2;whnf
 go_wp2_with (at_builtin;go_loud (refine wpl_appendR Z0b rfl (.tmp 15) (.tmp 17) rfl (Zg.made inC 1 3 w w.heap.size (Nat.le_refl _)) rfl (HSl.out _) rfl hst (by simp;omega) (by simp) ?_;intro v2 w2 ho2 hg2;have HO:Hid (BtO w0 w2 bn v2 n x):=boFirst HS.out hlo HB.out (by simpa using ho2) hg2;clear ho2 hg2))
 exact hP _ _ v2 ⟨rfl,rfl⟩ rfl rfl HO.out
theorem bo5 {bn:Nat}{SV:Value}{Q:Exit->Act->World->Prop}{K:Act->World->Prop}{a:Act}{w:World}(hF:SzD a 121)(h3:a.eval (.tmp 3)=.pointer (some ⟨bn,0,none⟩))(h4:a.eval (.tmp 4)=SV)(hP:∀ a' w',SzD a' 121->a'.eval (.tmp 3)=.pointer (some ⟨bn,0,none⟩)->a'.eval (.tmp 4)=SV->a'.eval (.tmp 5)=.int .i64 0->w'=w->K a' w'):(Z2 0 (Z2 4 (Z9 Tryz.f5))).wp Tryz.prog (Exit.then K Q) a w:=by
 obtain ⟨t,rfl⟩:=hF.opened;clear hF;rw [show lst t 0 121 = [t 0,t 1,t 2,t 3,t 4,t 5,t 6,t 7,t 8,t 9,t 10,t 11,t 12,t 13,t 14,t 15,t 16,t 17,t 18,t 19,t 20,t 21,t 22,t 23,t 24,t 25,t 26,t 27,t 28,t 29,t 30,t 31,t 32,t 33,t 34,t 35,t 36,t 37,t 38,t 39,t 40,t 41,t 42,t 43,t 44,t 45,t 46,t 47,t 48,t 49,t 50,t 51,t 52,t 53,t 54,t 55,t 56,t 57,t 58,t 59,t 60,t 61,t 62,t 63,t 64,t 65,t 66,t 67,t 68,t 69,t 70,t 71,t 72,t 73,t 74,t 75,t 76,t 77,t 78,t 79,t 80,t 81,t 82,t 83,t 84,t 85,t 86,t 87,t 88,t 89,t 90,t 91,t 92,t 93,t 94,t 95,t 96,t 97,t 98,t 99,t 100,t 101,t 102,t 103,t 104,t 105,t 106,t 107,t 108,t 109,t 110,t 111,t 112,t 113,t 114,t 115,t 116,t 117,t 118,t 119,t 120] from rfl]
 try dsimp only
 rw [show t 3=.pointer (some ⟨bn,0,none⟩) from h3];rw [show t 4=SV from h4];clear h3 h4
 conv=>arg 2;whnf
 go_wp2_with fail
 exact hP _ _ ⟨rfl,rfl⟩ rfl rfl rfl rfl
theorem lawBeats_walk (vl:Value)(l:List Int){w:World}(hv:Bs w vl l) :
  Calls Tryz.prog 5 #[vl] w fun e w'=>e=.returned (.bool true)/\Below w.heap.size w w':=by
 have HV:Hid (Bs w vl l):=hv;obtain ⟨hlm,h8,a0,cap0,rfl,_⟩:=hv;unfold maxLen at hlm;by_cases hL:l.length<=1048576
 case neg=>
  have hLd:(1048576:Int)<(l.length:Int):=by omega
  go_enter Tryz.func5,Tryz.ntmps5;go_wp2;go_ret;exact ⟨rfl,Below.refl _ _⟩
 have hLd:¬(1048576:Int)<(l.length:Int):=by omega
 have HD:Hid (Calls Tryz.prog 24 #[.slice a0 l.length cap0] w fun r w'=>∃ n x,r=.returned (.agg (ndC n x))/\NdO w' w.heap.size n x/\Yo n=0/\good n/\Below w.heap.size w w'):=Z30 a0 cap0 l w HV.out hL;clear h8;go_enter Tryz.func5,Tryz.ntmps5;show (Z9 Tryz.f5).wp Tryz.prog _ _ _;rw [show Z9 Tryz.f5=.seq (Z2 0 (Z9 Tryz.f5)) (.seq (Z2 1 (Z9 Tryz.f5)) (.seq (Z2 2 (Z9 Tryz.f5)) (.seq (Z2 3 (Z9 Tryz.f5)) (.seq (.seq (Z2 0 (Z2 4 (Z9 Tryz.f5))) (Z1 1 (Z2 4 (Z9 Tryz.f5)))) (.seq (Z2 5 (Z9 Tryz.f5)) .ret))))) from rfl];refine wp_seq_k ?_;intro K1 hK1;refine bf0 (v:=.slice a0 l.length cap0) ⟨rfl,rfl⟩ rfl fun a1 w1 f1 g0 e1=>hK1 _ _ ?_
 subst e1;refine wp_seq_k ?_;intro K2 hK2;refine bf1 hLd hL f1 g0 fun a2 w2 f2 i0 e2=>hK2 _ _ ?_
 subst e2;refine wp_seq_k ?_;intro K3 hK3;refine bf2 f2 i0 HD fun a3 w3 bn n x f3 j3 s3 lo3 b3 gd3=>hK3 _ _ ?_
 have hld:Ldr n 0:=⟨gd3.1,gd3.2.1,by have:=gd3.2.2;push_cast;omega⟩;obtain ⟨_,_,_,hs7,hs3,hsl,_⟩:=hld.facts;refine wp_seq_k ?_;intro K4 hK4;refine bf3 (by omega) (by omega) f3 j3 s3 lo3 b3 fun a4 w4 SV f4 k3 k4 s4=>hK4 _ _ ?_
 refine wp_seq_k ?_;intro K5 hK5;refine wp_seq_k ?_;intro K6 hK6;refine bo5 f4 k3 k4 fun a5 w5 f5 l3 l4 l5 e5=>hK6 _ _ ?_
 subst e5;have hend:∀(a':Act) (w':World),SzD a' 121->a'.eval (.tmp 2)=.bool true->Below w2.heap.size w2 w'->bodyPost Tryz.prog Tryz.f5 (fun e w'=>e=.returned (.bool true)/\Below w2.heap.size w2 w') .ret a' w':=fun a' w' f' e' b'=>bodyPost_ret (results_tmp Tryz.results5 e') f'.2 ⟨rfl,b'⟩
 refine boLoop hld f5 l3 l4 l5 s4 (fun a' w' f' e' b'=>hend a' w' f' e' b') fun a6 w6 f6 b6=>hK5 _ _ ?_
 refine wp_seq_k ?_;intro K7 hK7;refine bo26 f6 fun a7 w7 f7 n2 e7=>hK7 _ _ ?_
 subst e7;exact wp_ret (hend _ _ f7 n2 b6)
end Go.Proofs.YtmmpoppgabadmaaGreat
