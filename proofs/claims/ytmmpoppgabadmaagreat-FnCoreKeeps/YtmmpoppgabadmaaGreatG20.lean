import Derived.Test.YtmmpoppgabadmaaGreatG19
set_option linter.unusedVariables false
set_option linter.unusedSimpArgs false
set_option maxRecDepth 100000
set_option maxHeartbeats 16000000
open Go.Value renaming slice → I,int → Aa,oneCell' → Bh
open Go.IntKind renaming i64 → O
open _root_.Option renaming none → Ab,some → Ac
open Go renaming Value → Af,World → Ag,TypeId → Ax
open Go.RowKit renaming Hid → Ah,Below → Ai
open Go.RowKit.Below renaming heap_setCell → Ak,refl → An
open _root_.Nat renaming le_refl → Ao
open Go.Obj renaming cells → At
open _root_.Array renaming getElem?_eq_getElem → Bo
namespace Go.Proofs.YtmmpoppgabadmaaGreat
open Go.Proofs.Tryz
open Go.RowKit Go.Maps Go.Sort
theorem Z2i:(Tryz.prog.info? 36).map (·.size)=Ac 18:=by kernel_rfl
structure Z0j (w:Ag) (H:Nat) (r:Rn) (vg vn vm vs vt:Af):Prop where
 gr:Zc inC 1 3 w H vg r.n.gr
 nx:Zc inC 1 3 w H vn r.n.nx
 mt:Zc inC 1 3 w H vm r.n.mt
 se:Zc inC 1 3 w H vs r.n.se
 st:Zc inC 1 3 w H vt r.n.st
 ap:[vg,vn,vm,vs,vt].Pairwise Yd
variable {w:Ag}{b:Nat}
theorem sort_gr {n:Nat}{D:DataW Af}{l a:List Int}(h:w.ownsMap Tryz.prog 3 Z2m b n D)(g:IMD unV D (grF l))(c:l.Pairwise (· < ·))(e:a.Perm (intKeys D)):a.mergeSort (λx y=>decide (x<=y))=l:=by
 have d:=IM.keys h g (Z31 c) (Z30 l);have f:=mergeSort_of_perm_i (e.trans d.symm);rw [show a.mergeSort (λx y=>decide (x<=y))=a.mergeSort leI from rfl,f];exact List.mergeSort_of_pairwise (c.imp λh=>by simp only [leI,decide_eq_true_eq];omega)
theorem core_range {B:Nat}{r:Rn}{x:CV}(h:Z9 w B b r x):w.rangeAt b 0 [Aa O r.n.id,Aa O r.n.sz,Aa O r.n.el,Aa O r.n.bt,Aa O r.n.tm,Aa O r.n.vo,Aa O r.n.ro,Aa O r.n.ld,Aa O r.n.cm,Aa O r.n.nw,Aa O r.n.dl,Aa O r.n.hd,x.vl,I Ab 0 0,I Ab 0 0,I Ab 0 0,I Ab 0 0,I Ab 0 0]:=λj v hv=>by
 have a:=h.blk.cell (0+j);rw [a];have c:j<18:=(List.getElem?_eq_some_iff.1 hv).1;rw [<-hv,Nat.zero_add];unfold crC;rcases (show j=0∨j=1∨j=2∨j=3∨j=4∨j=5∨j=6∨j=7∨j=8∨j=9∨j=10∨j=11∨j=12∨j=13∨j=14∨j=15∨j=16∨j=17 by omega) with rfl | rfl | rfl | rfl | rfl | rfl | rfl | rfl | rfl | rfl | rfl | rfl | rfl | rfl | rfl | rfl | rfl | rfl <;> rfl
variable {NB:Nat}{C ZR:Array Af}
theorem two_rows1 {T:Ax}(h:Blk w NB C T)(a:b<=NB)(i j:Nat)(u v:Af) :
  Blk ((((w.alloc (At ZR 3)).alloc (At ZR 3)).setCell ⟨NB,i,Ab⟩ u).setCell ⟨NB,j,Ab⟩ v).drew w.heap.size ZR 3/\Blk ((((w.alloc (At ZR 3)).alloc (At ZR 3)).setCell ⟨NB,i,Ab⟩ u).setCell ⟨NB,j,Ab⟩ v).drew (w.heap.size+1) ZR 3/\Blk ((((w.alloc (At ZR 3)).alloc (At ZR 3)).setCell ⟨NB,i,Ab⟩ u).setCell ⟨NB,j,Ab⟩ v).drew NB ((C.setIfInBounds i u).setIfInBounds j v) T/\(∀ k,k<w.heap.size->k≠NB->(((((w.alloc (At ZR 3)).alloc (At ZR 3)).setCell ⟨NB,i,Ab⟩ u).setCell ⟨NB,j,Ab⟩ v).drew).heap[k]? = w.heap[k]?)/\Ai b w ((((w.alloc (At ZR 3)).alloc (At ZR 3)).setCell ⟨NB,i,Ab⟩ u).setCell ⟨NB,j,Ab⟩ v).drew:=by
 have c:=h.lt;refine ⟨((((Blk.new w ZR 3).alloc _).set_other _ (by simp only;omega)).set_other _ (by simp only;omega)).drew,(((Blk.new' (w.alloc _) ZR 3).set_other _ (by simp only;omega)).set_other _ (by simp only;omega)).drew,((((h.alloc _).alloc _).set i u).set j v).drew,λk hk hn=>?_,?_⟩
 ·show (((((w.alloc (At ZR 3)).alloc (At ZR 3)).setCell ⟨NB,i,Ab⟩ u).setCell ⟨NB,j,Ab⟩ v)).heap[k]? = _
  rw [Ak _ _ _ _ hn,Ak _ _ _ _ hn,Below.heap_alloc _ _ _ (by simp;omega),Below.heap_alloc _ _ _ hk]
 ·exact (((((An b w).alloc (by omega) _).alloc (by simp;omega) _).setCell (p:=⟨NB,i,Ab⟩) a _).setCell (p:=⟨NB,j,Ab⟩) a _).drew
theorem two_rows2 {T:Ax}(h:Blk w NB C T)(c:b<=NB)(i j:Nat)(u v:Af) :
  Blk ((((w.setCell ⟨NB,i,Ab⟩ u).alloc (At ZR 3)).alloc (At ZR 3)).setCell ⟨NB,j,Ab⟩ v).drew w.heap.size ZR 3/\Blk ((((w.setCell ⟨NB,i,Ab⟩ u).alloc (At ZR 3)).alloc (At ZR 3)).setCell ⟨NB,j,Ab⟩ v).drew (w.heap.size+1) ZR 3/\Blk ((((w.setCell ⟨NB,i,Ab⟩ u).alloc (At ZR 3)).alloc (At ZR 3)).setCell ⟨NB,j,Ab⟩ v).drew NB ((C.setIfInBounds i u).setIfInBounds j v) T/\(∀ k,k<w.heap.size->k≠NB->(((((w.setCell ⟨NB,i,Ab⟩ u).alloc (At ZR 3)).alloc (At ZR 3)).setCell ⟨NB,j,Ab⟩ v).drew).heap[k]? = w.heap[k]?)/\Ai b w ((((w.setCell ⟨NB,i,Ab⟩ u).alloc (At ZR 3)).alloc (At ZR 3)).setCell ⟨NB,j,Ab⟩ v).drew:=by
 have d:=h.lt;have a:(w.setCell ⟨NB,i,Ab⟩ u).heap.size=w.heap.size:=by simp [World.setCell]
 refine ⟨(((Blk.new' (w.setCell ⟨NB,i,Ab⟩ u) ZR 3 a.symm).alloc _).set_other _ (by simp only;omega)).drew,((Blk.new' ((w.setCell ⟨NB,i,Ab⟩ u).alloc _) ZR 3 (by simp [a])).set_other _ (by simp only;omega)).drew,((((h.set i u).alloc _).alloc _).set j v).drew,λk hk hn=>?_,?_⟩
 ·show (((((w.setCell ⟨NB,i,Ab⟩ u).alloc (At ZR 3)).alloc (At ZR 3)).setCell ⟨NB,j,Ab⟩ v)).heap[k]? = _
  rw [Ak _ _ _ _ hn,Below.heap_alloc _ _ _ (by simp [a];omega),Below.heap_alloc _ _ _ (a▸hk),Ak _ _ _ _ hn]
 ·exact (((((An b w).setCell (p:=⟨NB,i,Ab⟩) c _).alloc (by rw [a];omega) _).alloc (by simp [a];omega) _).setCell (p:=⟨NB,j,Ab⟩) c _).drew
def TwoR (w z:Ag)(b NB:Nat)(C ZR:Array Af)(T:Ax)(i j N:Nat):Prop:=∃ p q,w.heap.size<=p/\w.heap.size<=q/\p≠q/\Blk z p ZR 3/\Blk z q ZR 3/\Blk z NB ((C.setIfInBounds i (I (Ac ⟨p,0,Ab⟩) N N)).setIfInBounds j (I (Ac ⟨q,0,Ab⟩) N N)) T/\(∀ k,k<w.heap.size->k≠NB->z.heap[k]? = w.heap[k]?)/\Ai b w z
section
variable {w:Ag} {NB b:Nat} {C ZR:Array Af} {T:Ax}
theorem twoR1 (h:Blk w NB C T)(c:b<=NB)(i j N:Nat):TwoR w ((((w.alloc (At ZR 3)).alloc (At ZR 3)).setCell ⟨NB,i,Ab⟩ (I (Ac ⟨w.heap.size,0,Ab⟩) N N)).setCell ⟨NB,j,Ab⟩ (I (Ac ⟨w.heap.size+1,0,Ab⟩) N N)).drew b NB C ZR T i j N:=
 have a:=two_rows1 (ZR:=ZR) h c i j _ _
 ⟨w.heap.size,w.heap.size+1,Ao _,Nat.le_succ _,by omega,a.1,a.2.1,a.2.2⟩
theorem twoR2 (h:Blk w NB C T)(c:b<=NB)(i j N:Nat):TwoR w ((((w.setCell ⟨NB,i,Ab⟩ (I (Ac ⟨w.heap.size,0,Ab⟩) N N)).alloc (At ZR 3)).alloc (At ZR 3)).setCell ⟨NB,j,Ab⟩ (I (Ac ⟨w.heap.size+1,0,Ab⟩) N N)).drew b NB C ZR T i j N:=
 have a:=two_rows2 (ZR:=ZR) h c i j _ _
 ⟨w.heap.size,w.heap.size+1,Ao _,Nat.le_succ _,by omega,a.1,a.2.1,a.2.2⟩
theorem twoR3 (h:Blk w NB C T)(c:b<=NB)(i j N:Nat):TwoR w ((((w.alloc (At ZR 3)).alloc (At ZR 3)).setCell ⟨NB,i,Ab⟩ (I (Ac ⟨w.heap.size+1,0,Ab⟩) N N)).setCell ⟨NB,j,Ab⟩ (I (Ac ⟨w.heap.size,0,Ab⟩) N N)).drew b NB C ZR T i j N:=
 have a:=two_rows1 (ZR:=ZR) h c i j _ _
 ⟨w.heap.size+1,w.heap.size,Nat.le_succ _,Ao _,by omega,a.2.1,a.1,a.2.2⟩
theorem twoR4 (h:Blk w NB C T)(c:b<=NB)(i j N:Nat):TwoR w ((((w.setCell ⟨NB,i,Ab⟩ (I (Ac ⟨w.heap.size+1,0,Ab⟩) N N)).alloc (At ZR 3)).alloc (At ZR 3)).setCell ⟨NB,j,Ab⟩ (I (Ac ⟨w.heap.size,0,Ab⟩) N N)).drew b NB C ZR T i j N:=
 have a:=two_rows2 (ZR:=ZR) h c i j _ _
 ⟨w.heap.size+1,w.heap.size,Nat.le_succ _,Ao _,by omega,a.2.1,a.1,a.2.2⟩
end
theorem told_any (b:Nat)(r:Rn)(x:CV)(w:Ag)(B:Nat)(h:Z9 w B b r x) :
  Calls Tryz.prog 39 #[.pointer (Ac ⟨b,0,Ab⟩)] w λe w'=>∃ vg vn vm vs vt,e=.returned (.agg (nqN r.n.id r.n.sz r.n.el r.n.bt r.n.tm r.n.vo r.n.ro r.n.ld r.n.cm r.n.nw r.n.dl r.n.hd x.vl vg vn vm vs vt))/\Z0j w' w.heap.size r vg vn vm vs vt/\Ai w.heap.size w w':=by
 have HR:=Z0 h;obtain ⟨la,lc,bi⟩:=h.log.shape;obtain ⟨LN,di⟩:=exq (r.n.log.length);rw [<-di] at bi;have bo:=Z0 bi;have f3:=h.gm_len;have HG:Ah (∀ z,Ai w.heap.size w z->IM unV z x.gm (grF r.n.gr)):=λz hz=>(h.below hz).gm
 have d:=Z0 h.ci;obtain ⟨W,hW⟩:=exq ((w.alloc (At (nqN 0 0 0 0 0 0 0 0 0 0 0 0 (I Ab 0 0) (I Ab 0 0) (I Ab 0 0) (I Ab 0 0) (I Ab 0 0) (I Ab 0 0)) 36)).alloc (At (nqN r.n.id r.n.sz r.n.el r.n.bt r.n.tm r.n.vo r.n.ro r.n.ld r.n.cm r.n.nw r.n.dl r.n.hd x.vl (I Ab 0 0) (I Ab 0 0) (I Ab 0 0) (I Ab 0 0) (I Ab 0 0)) 36));have az:Ah (Ai w.heap.size w W):=hW▸(Below.alloc0 _).alloc (by simp) _
 have dj:Ah (Blk W w.heap.size (nqN 0 0 0 0 0 0 0 0 0 0 0 0 (I Ab 0 0) (I Ab 0 0) (I Ab 0 0) (I Ab 0 0) (I Ab 0 0) (I Ab 0 0)) 36):=hW▸(Blk.new _ _ _).alloc _
 have dk:Ah (Blk W (w.heap.size+1) (nqN r.n.id r.n.sz r.n.el r.n.bt r.n.tm r.n.vo r.n.ro r.n.ld r.n.cm r.n.nw r.n.dl r.n.hd x.vl (I Ab 0 0) (I Ab 0 0) (I Ab 0 0) (I Ab 0 0) (I Ab 0 0)) 36):=hW▸Blk.new' _ _ _ (by simp)
 have ao:Ah (W.heap.size=w.heap.size+2):=by unfold Ah;rw [hW];simp
 have ff:=Z0 (h.below az.out);have ed:=ff.out.c18;have fj:Ah (∀ o:Obj,World.rangeAt (w.alloc o) b 0 [Aa O r.n.id,Aa O r.n.sz,Aa O r.n.el,Aa O r.n.bt,Aa O r.n.tm,Aa O r.n.vo,Aa O r.n.ro,Aa O r.n.ld,Aa O r.n.cm,Aa O r.n.nw,Aa O r.n.dl,Aa O r.n.hd,x.vl,I Ab 0 0,I Ab 0 0,I Ab 0 0,I Ab 0 0,I Ab 0 0]):=λo=>core_range (h.below (Below.alloc0 _))
 clear h di bi;have G1:=Z0 trivial;have G2:=Z0 trivial;go_enter func39,ntmps39
 go_upto_region 2 with (first
  |(have a:=G1;refine Zd 36 _ rfl ?_;clear a;refine wpList_load_mid rfl 36 (.tmp 8) rfl b 0 rfl [Aa O r.n.id,Aa O r.n.sz,Aa O r.n.el,Aa O r.n.bt,Aa O r.n.tm,Aa O r.n.vo,Aa O r.n.ro,Aa O r.n.ld,Aa O r.n.cm,Aa O r.n.nw,Aa O r.n.dl,Aa O r.n.hd,x.vl,I Ab 0 0,I Ab 0 0,I Ab 0 0,I Ab 0 0,I Ab 0 0] _ (fj.out _) underlying36 rfl (by rw [Z2i];rfl) ?_;clear G1)
  |(have a:=G2;refine Zn 36 _ _ rfl ?_;clear a;refine Zt rfl 36 _ _ rfl _ rfl (by simp) rfl Z2i rfl rfl (by rw [bo.out];simp [Bh]) ?_;clear G2))
 rw [<-hW];clear hW;obtain ⟨gn,D,ai,hD⟩:=HG.out W az.out;have cf:=IM.size ai hD (Z31 d.out.gr1) (Z30 _)
 have d5:Ah (Calls Tryz.prog 86 #[.func (.func 140) #[] #[.pointer (Ac ⟨W.heap.size,0,Ab⟩)]] (W.alloc (At #[.map (Ac x.gm)] 77)) λe w'=>∃ v:Af,e=.returned v/\Zc inC 1 3 w' W.heap.size v r.n.gr/\Ai W.heap.size W w'):=by
  refine Calls.mono (sortedG_any _ gn D Z2m W ai (by rw [cf];unfold maxLen;omega) (by rw [cf];omega)) ?_;rintro e w4 ⟨v,ss,rfl,hS,bd,fz,au⟩;have h5:=sort_gr ai hD d.out.gr1 hS;have cw:ss.length=r.n.gr.length:=by rw [<-h5,List.length_mergeSort]
  rw [h5,cw] at bd;refine ⟨v,rfl,Zc.le (B:=(W.alloc (At #[.map (Ac x.gm)] 77)).heap.size) ?_ (by simp),(Below.alloc0 _).trans (au.mono (by simp))⟩;unfold Zc;rw [gC_inI];exact bd
 clear ai hD cf
 go_upto_region 3 with (first
  |(go_at_call 87;refine (keysG_any _ _).mono ?_;rintro e w3 ⟨rfl,rfl⟩)
  |(go_at_call 86;refine Calls.mono d5.out ?_;rintro e w4 ⟨vg,rfl,cg,au⟩;obtain ⟨ga,gc,ef⟩:=cg.shape;have da:=Z0 cg;have c4:=Z0 au;have ba:=Z0 (dk.out.below au dk.out.lt);have du:w4.cell? ⟨w.heap.size+1,13,Ab⟩=Ac (I Ab 0 0):=ba.out.cell 13;have d8:=ba.out.free 13;clear cg au))
 generalize hGL:r.n.gr.length=GL at *;subst ef;have c:Ah (Blk (w4.setCell ⟨w.heap.size+1,13,Ab⟩ (I ga GL gc)) (w.heap.size+1) (nqN r.n.id r.n.sz r.n.el r.n.bt r.n.tm r.n.vo r.n.ro r.n.ld r.n.cm r.n.nw r.n.dl r.n.hd x.vl (I ga GL gc) (I Ab 0 0) (I Ab 0 0) (I Ab 0 0) (I Ab 0 0)) 36):=ba.out.set 13 _;have av:Ah (Blk (w4.setCell ⟨w.heap.size+1,13,Ab⟩ (I ga GL gc)) w.heap.size (nqN 0 0 0 0 0 0 0 0 0 0 0 0 (I Ab 0 0) (I Ab 0 0) (I Ab 0 0) (I Ab 0 0) (I Ab 0 0) (I Ab 0 0)) 36):=(dj.out.below c4.out dj.out.lt).set_other _ (by simp only;omega);have cu:Ah (Ai w.heap.size w (w4.setCell ⟨w.heap.size+1,13,Ab⟩ (I ga GL gc))):=(az.out.trans (c4.out.mono az.out.size)).setCell (p:=⟨w.heap.size+1,13,Ab⟩) (by simp only;omega) _;have m:Ah (Zc inC 1 3 (w4.setCell ⟨w.heap.size+1,13,Ab⟩ (I ga GL gc)) W.heap.size (I ga GL gc) r.n.gr):=da.out.block λk e=>Ak _ _ _ _ (by have:=(da.out.lts k e).1;have:=ao.out;simp only;omega)
 generalize w4.setCell ⟨w.heap.size+1,13,Ab⟩ (I ga GL gc)=w5 at *;have n6:w5.cell? ⟨w.heap.size+1,6,Ab⟩=Ac (Aa O r.n.ro):=c.out.cell 6;clear ba du d8 ed;by_cases ax:r.n.ro=3
 ·have bj:(r.n.ro != 3)=false:=by simp [ax]
  obtain ⟨N,hN⟩:∃ N:Nat,r.n.sz=(N:Int):=⟨r.n.sz.toNat,by have:=d.out.sz0;omega⟩;have HN:=Z0 hN;have d1:N<=7:=by have:=d.out.sz1;omega
  have f2:3<=N:=by have:=d.out.sz0;omega
  have n1:w5.cell? ⟨w.heap.size+1,1,Ab⟩=Ac (Aa O (N:Int)):=hN▸c.out.cell 1
  have fg:w5.cell? ⟨w.heap.size+1,14,Ab⟩=Ac (I Ab 0 0):=c.out.cell 14;have d6:w5.cell? ⟨w.heap.size+1,15,Ab⟩=Ac (I Ab 0 0):=c.out.cell 15;have nf:=λj=>c.out.free j
  have bc:=c.out.lt;have eg:=λu=>run_mkInts u N d1
  obtain ⟨ZR,bn⟩:=exq (lA (List.replicate N 0));rw [<-bn] at eg;have a6:=Z0 bn
  have eb:∀(o:Obj) (j:Nat),(w5.alloc o).cell? ⟨w.heap.size+1,j,Ab⟩=w5.cell? ⟨w.heap.size+1,j,Ab⟩:=λo j=>(Z1d (Below.alloc0 (w:=w5) o)).1 _ _ bc
  have d7:∀(o o':Obj) (j:Nat),((w5.alloc o).alloc o').cell? ⟨w.heap.size+1,j,Ab⟩=w5.cell? ⟨w.heap.size+1,j,Ab⟩:=λo o' j=>(Z1d ((Below.alloc0 (w:=w5) o).alloc (by simp) o')).1 _ _ bc
  have ey:=λo j=>((Z1d (Below.alloc0 (w:=w5) o)).2 _ _ bc).trans (nf j)
  have fl:=λo o' j=>((Z1d ((Below.alloc0 (w:=w5) o).alloc (by simp) o')).2 _ _ bc).trans (nf j)
  have ee:∀(v:Af) (o o':Obj),(((w5.setCell ⟨w.heap.size+1,14,Ab⟩ v).alloc o).alloc o').cell? ⟨w.heap.size+1,15,Ab⟩=Ac (I Ab 0 0):=λv o o'=>(((c.out.set 14 v).alloc o).alloc o').cell 15
  have d2:=λv o o'=>(((c.out.set 14 v).alloc o).alloc o').free 15
  clear ax bn hN;obtain ⟨C5,bp⟩:∃ C5:Array Af,C5=(nqN r.n.id r.n.sz r.n.el r.n.bt r.n.tm r.n.vo r.n.ro r.n.ld r.n.cm r.n.nw r.n.dl r.n.hd x.vl (I ga GL gc) (I Ab 0 0) (I Ab 0 0) (I Ab 0 0) (I Ab 0 0)):=⟨_,rfl⟩;have aj:Ah (Blk w5 (w.heap.size+1) C5 36):=bp▸c.out
  have em:=Z0 bp;clear bp
  go_upto_region 5 with fail
  go_cut [] (λz=>TwoR w5 z w.heap.size (w.heap.size+1) C5 ZR 36 14 15 N)
  case first=>
   go_region
   all_goals go_wp2_with fail
   all_goals (
    go_meet
    first
     | with_reducible exact twoR1 aj.out (Nat.le_succ _) 14 15 N
     | with_reducible exact twoR2 aj.out (Nat.le_succ _) 14 15 N
     | with_reducible exact twoR3 aj.out (Nat.le_succ _) 14 15 N
     | with_reducible exact twoR4 aj.out (Nat.le_succ _) 14 15 N)
  case rest=>
   obtain ⟨p,q,hp,hq,ej,hP,hQ,ab,g,aa⟩:=hcut;obtain ⟨i,c3⟩:=exq (wc);rw [<-c3] at hP hQ ab g aa;subst c3;have dp:=Z0 hP;have d0:=Z0 hQ;rw [em.out] at ab;have ag:Ah (Blk i (w.heap.size+1) _ 36):=ab;have dh:=Z0 g;have fv:=Z0 (cu.out.trans aa);have gq:=aa.size;have fn:Ah (p<i.heap.size/\q<i.heap.size/\w5.heap.size<=p/\w5.heap.size<=q/\p≠q):=⟨hP.lt,hQ.lt,hp,hq,ej⟩;have k1:i.cell? ⟨w.heap.size+1,1,Ab⟩=Ac (Aa O (N:Int)):=HN.out▸ag.out.cell 1
   have ev:i.cell? ⟨w.heap.size+1,16,Ab⟩=Ac (I Ab 0 0):=ag.out.cell 16;have fu:i.cell? ⟨w.heap.size+1,17,Ab⟩=Ac (I Ab 0 0):=ag.out.cell 17;have kf:=λj=>ag.out.free j
   have ah:=ag.out.lt;have eq:∀(o:Obj) (j:Nat),(i.alloc o).cell? ⟨w.heap.size+1,j,Ab⟩=i.cell? ⟨w.heap.size+1,j,Ab⟩:=λo j=>(Z1d (Below.alloc0 (w:=i) o)).1 _ _ ah
   have dv:∀(o o':Obj) (j:Nat),((i.alloc o).alloc o').cell? ⟨w.heap.size+1,j,Ab⟩=i.cell? ⟨w.heap.size+1,j,Ab⟩:=λo o' j=>(Z1d ((Below.alloc0 (w:=i) o).alloc (by simp) o')).1 _ _ ah
   have dy:=λo j=>((Z1d (Below.alloc0 (w:=i) o)).2 _ _ ah).trans (kf j)
   have ep:=λo o' j=>((Z1d ((Below.alloc0 (w:=i) o).alloc (by simp) o')).2 _ _ ah).trans (kf j)
   have fh:∀(v:Af) (o o':Obj),(((i.setCell ⟨w.heap.size+1,16,Ab⟩ v).alloc o).alloc o').cell? ⟨w.heap.size+1,17,Ab⟩=Ac (I Ab 0 0):=λv o o'=>(((ag.out.set 16 v).alloc o).alloc o').cell 17
   have fo:=λv o o'=>(((ag.out.set 16 v).alloc o).alloc o').free 17
   clear hP hQ ab g aa n1 fg d6 nf eb d7 ey fl ee d2;obtain ⟨C6,bx⟩:∃ C6:Array Af,C6=(nqN r.n.id r.n.sz r.n.el r.n.bt r.n.tm r.n.vo r.n.ro r.n.ld r.n.cm r.n.nw r.n.dl r.n.hd x.vl (I ga GL gc) (I (Ac ⟨p,0,Ab⟩) N N) (I (Ac ⟨q,0,Ab⟩) N N) (I Ab 0 0) (I Ab 0 0)):=⟨_,rfl⟩;have ak:Ah (Blk i (w.heap.size+1) C6 36):=bx▸ag.out
   have fi:=Z0 bx;clear bx
   go_upto_region 6 with fail
   go_cut [] (λz=>TwoR i z w.heap.size (w.heap.size+1) C6 ZR 36 16 17 N)
   case first=>
    go_region
    all_goals go_wp2_with fail
    all_goals (
     go_meet
     first
      | with_reducible exact twoR1 ak.out (Nat.le_succ _) 16 17 N
      | with_reducible exact twoR2 ak.out (Nat.le_succ _) 16 17 N
      | with_reducible exact twoR3 ak.out (Nat.le_succ _) 16 17 N
      | with_reducible exact twoR4 ak.out (Nat.le_succ _) 16 17 N)
   case rest=>
    obtain ⟨s,t,hs,ht,eh,hS,hT,ab,g,aa⟩:=hcut;obtain ⟨w7,cn⟩:=exq (wc);rw [<-cn] at hS hT ab g aa;subst cn;rw [fi.out] at ab;obtain ⟨x1,x2,x3,x4,x5⟩:=fn.out;have co:=ao.out
    have bm:Ah (Blk w7 (w.heap.size+1) _ 36):=ab;have bw:=Z0 (dp.out.keep (g p x1 (by omega)));have bu:=Z0 (d0.out.keep (g q x2 (by omega)));have be:=Z0 hS;have bz:=Z0 hT;have an:=Z0 (fv.out.trans aa);have dc:=Z0 ((av.out.keep (dh.out w.heap.size av.out.lt (by omega))).keep (g w.heap.size (by omega) (by omega)));have d3:=Z0 ((m.out.block λk e=>dh.out k (m.out.lts k e).2 (by have:=(m.out.lts k e).1;omega)).block λk e=>g k (by have:=(m.out.lts k e).2;omega) (by have:=(m.out.lts k e).1;omega));have bh:Ah (∀ k,(Value.slice ga GL gc).ownBlock=Ac k->k<w5.heap.size/\w.heap.size+2<=k):=λk e=>⟨(m.out.lts k e).2,by have:=(m.out.lts k e).1;omega⟩
    have a0:Ah (w5.heap.size<=p/\w5.heap.size<=q/\p≠q/\p<s/\q<s/\p<t/\q<t/\s≠t/\w.heap.size+2<=w5.heap.size/\w5.heap.size<=s/\w5.heap.size<=t):=by unfold Ah;omega
    have ds:=(HR.out.below an.out).c19;have eu:=Z0 ((HR.out.below an.out).pm);have gs:=aa.size;have fa:Ah (∀ y qb,x.f y=Ac qb->1<=y/\y<=(N:Int)/\y≠r.n.id):=λy qb e=>by have:=(HR.out.pk y).1 (by rw [e];rfl);have:=HN.out;omega
    have a7:=Z0 λy h1 h2 h3=>(HR.out.pk y).2 ⟨by simpa using bj,h1,HN.out▸h2,h3⟩
    have fc:Ah (∀ z y qb,Ai w.heap.size w z->x.f y=Ac qb->Blk z qb (pgC r.n y) 124/\qb<w.heap.size):=λz y qb hz e=>⟨((HR.out.below hz).pf y qb e).1,(HR.out.pf y qb e).1.lt⟩
    have cp:Ah _:=d.out.ld (by simpa using bj);clear hS hT ab g aa k1 ev fu kf eq dv dy ep fh fo hs ht eh x1 x2 x3 x4 x5 co n6
    go_wp2_with (first
     |(at_range;refine Z44 _ rfl _ 78 rfl _ underlying78 _ rfl eu.out ?_;intro w8 f0 c1 al dx;have fe:=Z0 c1;have ae:Ah (Ai w7.heap.size w7 w8):=⟨al.os,al.tape,al.output,al.size,λk hk=>al.block k hk (by simp)⟩;clear c1 al dx))
    go_frame
    go_loopw [4,5] (λjv pv wr=>∃(lf:Int->Bool) (cy:Nat),IR ptV wr x.pm w7.heap.size x.f lf cy/\Blk wr p (lA (Z8t r.n.nx lf r.n.id N)) 3/\Blk wr q (lA (Z8t r.n.mt lf r.n.id N)) 3/\Blk wr s (lA (Z8t r.n.se lf r.n.id N)) 3/\Blk wr t (lA (Z8t r.n.st lf r.n.id N)) 3/\Blk wr (w.heap.size+1) (nqN r.n.id r.n.sz r.n.el r.n.bt r.n.tm r.n.vo r.n.ro r.n.ld r.n.cm r.n.nw r.n.dl r.n.hd x.vl (I ga GL gc) (I (Ac ⟨p,0,Ab⟩) N N) (I (Ac ⟨q,0,Ab⟩) N N) (I (Ac ⟨s,0,Ab⟩) N N) (I (Ac ⟨t,0,Ab⟩) N N)) 36/\Blk wr w.heap.size (nqN 0 0 0 0 0 0 0 0 0 0 0 0 (I Ab 0 0) (I Ab 0 0) (I Ab 0 0) (I Ab 0 0) (I Ab 0 0) (I Ab 0 0)) 36/\Zc inC 1 3 wr W.heap.size (I ga GL gc) r.n.gr/\Ai w.heap.size w wr) (λ_ _ wr=>wr.rangeLeft x.pm w7.heap.size)
    case atStart=>
     refine ⟨_,_,fe.out,?_,?_,?_,?_,bm.out.below ae.out bm.out.lt,dc.out.below ae.out dc.out.lt,d3.out.below ae.out,an.out.trans (ae.out.mono an.out.size)⟩
     ·rw [Z4b _ _ _ _ a7.out,<-a6.out];exact bw.out.below ae.out bw.out.lt
     ·rw [Z4b _ _ _ _ a7.out,<-a6.out];exact bu.out.below ae.out bu.out.lt
     ·rw [Z4b _ _ _ _ a7.out,<-a6.out];exact be.out.below ae.out be.out.lt
     ·rw [Z4b _ _ _ _ a7.out,<-a6.out];exact bz.out.below ae.out bz.out.lt
    case round=>
     obtain ⟨lf,cy,bq,hP,hQ,hS,hT,ct,c6,cq,dm⟩:=hrel;have fm:=Z0 bq;have br:=Z0 hP;have bv:=Z0 hQ;have ce:=Z0 hS;have cd:=Z0 hT;have a9:=Z0 ct;have aq:=Z0 c6;have ay:=Z0 cq;have bk:=Z0 dm;have b8:=Z0 bq.left_eq;clear bq hP hQ hS hT ct c6 cq dm ds;rcases fm.out.next 0 with ⟨h0,hl0,hrun⟩ | ⟨y,qb,w2,cnt2,hly,hfy,hIR2,hlt2,hg2,hs2,hrun,hen2⟩
     ·have b6:Ah (∀ z,Blk z p (lA r.n.nx) 3->Blk z q (lA r.n.mt) 3->Blk z s (lA r.n.se) 3->Blk z t (lA r.n.st) 3->Zc inC 1 3 z W.heap.size (I ga GL gc) r.n.gr->Z0j z w.heap.size r (I ga GL gc) (I (Ac ⟨p,0,Ab⟩) N N) (I (Ac ⟨q,0,Ab⟩) N N) (I (Ac ⟨s,0,Ab⟩) N N) (I (Ac ⟨t,0,Ab⟩) N N)):=λz h1 h2 h3 h4 h5=>by
       obtain ⟨y1,y2,y3,y4,y5,y6,y7,y8,y9,c5,dd⟩:=a0.out;obtain ⟨⟨l1,l2,l3,l4⟩,-⟩:=cp.out;have cc:r.n.sz.toNat=N:=by have:=HN.out;omega
       rw [cc] at l1 l2 l3 l4;have e1:=ownG_lA (B:=w.heap.size) h1 (by omega) (by omega);have e2:=ownG_lA (B:=w.heap.size) h2 (by omega) (by omega);have e3:=ownG_lA (B:=w.heap.size) h3 (by omega) (by omega);have e4:=ownG_lA (B:=w.heap.size) h4 (by omega) (by omega);rw [l1] at e1;rw [l2] at e2;rw [l3] at e3;rw [l4] at e4;have er:=bh.out;have co:=ao.out;refine ⟨h5.le (by omega),e1,e2,e3,e4,?_⟩;simp only [List.pairwise_cons,List.mem_cons,List.not_mem_nil,or_false,forall_eq_or_imp,forall_eq,List.Pairwise.nil,and_true,false_imp_iff,implies_true];refine ⟨⟨?_,?_,?_,?_⟩,⟨?_,?_,?_⟩,⟨?_,?_⟩,?_⟩ <;> intro k e e' <;> simp only [Value.ownBlock,Option.some.injEq] at e e' <;> (try have h9:=(er k e).1) <;> omega
      have a5:Ah (Blk wr p (lA r.n.nx) 3/\Blk wr q (lA r.n.mt) 3/\Blk wr s (lA r.n.se) 3/\Blk wr t (lA r.n.st) 3):=by
       obtain ⟨⟨l1,l2,l3,l4⟩,z1,z2,z3,z4⟩:=cp.out;have cc:r.n.sz.toNat=N:=by have:=HN.out;omega
       rw [cc] at l1 l2 l3 l4;have a1:=br.out;have a2:=bv.out;have a3:=ce.out;have a4:=cd.out;rw [Z62 _ _ _ _ l1 z1 d.out.id0 hl0] at a1;rw [Z62 _ _ _ _ l2 z2 d.out.id0 hl0] at a2;rw [Z62 _ _ _ _ l3 z3 d.out.id0 hl0] at a3;rw [Z62 _ _ _ _ l4 z4 d.out.id0 hl0] at a4;exact ⟨a1,a2,a3,a4⟩
      have bb:Ah (p≠w.heap.size/\q≠w.heap.size/\s≠w.heap.size/\t≠w.heap.size):=by have:=a0.out;unfold Ah;omega
      clear h0 hl0
      go_wp2_with (first
       |(have a:=a9;refine Zd 36 _ rfl ?_;clear a;refine Z7 rfl 36 _ rfl _ rfl a9.out underlying36 rfl Z2i rfl ?_)
       |(have a:=aq;refine Zn 36 _ _ rfl ?_;clear a;refine Zg rfl 36 _ _ rfl _ rfl rfl aq.out Z2i rfl rfl (by rw [bo.out];simp [Bh]) ?_))
      refine bodyPost_ret (v:=.agg (nqN r.n.id r.n.sz r.n.el r.n.bt r.n.tm r.n.vo r.n.ro r.n.ld r.n.cm r.n.nw r.n.dl r.n.hd x.vl (I ga GL gc) (I (Ac ⟨p,0,Ab⟩) N N) (I (Ac ⟨q,0,Ab⟩) N N) (I (Ac ⟨s,0,Ab⟩) N N) (I (Ac ⟨t,0,Ab⟩) N N))) (Zl results39 rfl (aq.out.row _) underlying36 rfl Z2i rfl) rfl ⟨_,_,_,_,_,rfl,b6.out _ (a5.out.1.row_other _ bb.out.1) (a5.out.2.1.row_other _ bb.out.2.1) (a5.out.2.2.1.row_other _ bb.out.2.2.1) (a5.out.2.2.2.row_other _ bb.out.2.2.2) (ay.out.block λk e=>setRow_other _ _ _ _ (by have:=(ay.out.lts k e).1;have:=ao.out;omega)),Yz bk.out (Ao _) _⟩
     ·have dw:=Z0 hIR2
      have fd:=HR.out.pm.lt;have ac:∀ k,k<wr.heap.size->k≠w7.heap.size->w2.heap[k]? = wr.heap[k]?:=λk hk hn=>hg2.block k hk (λe=>hn (by injection e with e))
      have gd:=bw.out.lt;have gf:=bu.out.lt;have gv:=be.out.lt;have gt:=bz.out.lt;have gg:=bm.out.lt;have bg:=Z0 (br.out.keep (ac p br.out.lt (by omega)));have ca:=Z0 (bv.out.keep (ac q bv.out.lt (by omega)));have ch:=Z0 (ce.out.keep (ac s ce.out.lt (by omega)));have b7:=Z0 (cd.out.keep (ac t cd.out.lt (by omega)));have aw:=Z0 (a9.out.keep (ac _ a9.out.lt (by omega)));have ei:=Z0 (aq.out.keep (ac _ aq.out.lt (by omega)));have et:=Z0 (ay.out.block λk e=>ac k (ay.out.lts k e).2 (by have:=(bh.out k e).1;have:=a0.out;omega));have de:=Z0 (bk.out.grown hg2 bk.out.size (λk e=>by injection e with e;omega));have hy:=fa.out y qb hfy;obtain ⟨ar,f8⟩:=fc.out w2 y qb de.out hfy;obtain ⟨J,hJ⟩:∃ J:Nat,(J:Int)+1=y:=⟨(y-1).toNat,by omega⟩;have am:(y-1).toNat=J:=by omega
      have a8:J<N:=by omega
      have b0:w2.cell? ⟨qb,0,Ab⟩=Ac (Aa O (r.n.nx.getD J 0)):=by have h9:=ar.cell 0;unfold pgC at h9;rw [am] at h9;exact h9
      have b1:w2.cell? ⟨qb,1,Ab⟩=Ac (Aa O (r.n.mt.getD J 0)):=by have h9:=ar.cell 1;unfold pgC at h9;rw [am] at h9;exact h9
      have b2:w2.cell? ⟨qb,2,Ab⟩=Ac (Aa O (r.n.se.getD J 0)):=by have h9:=ar.cell 2;unfold pgC at h9;rw [am] at h9;exact h9
      have b3:w2.cell? ⟨qb,3,Ab⟩=Ac (Aa O (r.n.st.getD J 0)):=by have h9:=ar.cell 3;unfold pgC at h9;rw [am] at h9;exact h9
      have a14:w2.cell? ⟨w.heap.size+1,14,Ab⟩=Ac (I (Ac ⟨p,0,Ab⟩) N N):=aw.out.cell 14;have a15:w2.cell? ⟨w.heap.size+1,15,Ab⟩=Ac (I (Ac ⟨q,0,Ab⟩) N N):=aw.out.cell 15;have a16:w2.cell? ⟨w.heap.size+1,16,Ab⟩=Ac (I (Ac ⟨s,0,Ab⟩) N N):=aw.out.cell 16;have a17:w2.cell? ⟨w.heap.size+1,17,Ab⟩=Ac (I (Ac ⟨t,0,Ab⟩) N N):=aw.out.cell 17;obtain ⟨up,rp⟩:∃ u,w2.cell? ⟨p,J,Ab⟩=Ac u:=⟨_,(bg.out.cell J).trans (Bo (by rw [Z67,Z5q];exact a8))⟩;obtain ⟨uq,rq⟩:∃ u,w2.cell? ⟨q,J,Ab⟩=Ac u:=⟨_,(ca.out.cell J).trans (Bo (by rw [Z67,Z5q];exact a8))⟩;obtain ⟨us,rs⟩:∃ u,w2.cell? ⟨s,J,Ab⟩=Ac u:=⟨_,(ch.out.cell J).trans (Bo (by rw [Z67,Z5q];exact a8))⟩;obtain ⟨ut,rt⟩:∃ u,w2.cell? ⟨t,J,Ab⟩=Ac u:=⟨_,(b7.out.cell J).trans (Bo (by rw [Z67,Z5q];exact a8))⟩;have fp:=bg.out.free J;have fq:=ca.out.free J;have fs:=ch.out.free J;have ft:=b7.out.free J;obtain ⟨y1,y2,y3,y4,y5,y6,y7,y8,y9,c5,dd⟩:=a0.out;have g1:¬ p=q:=y3;have g2:¬ q=p:=λe=>y3 e.symm
      have g3:¬ p=s:=by omega
      have g4:¬ s=p:=by omega
      have g5:¬ p=t:=by omega
      have g6:¬ t=p:=by omega
      have g7:¬ q=s:=by omega
      have g8:¬ s=q:=by omega
      have g9:¬ q=t:=by omega
      have ew:¬ t=q:=by omega
      have dz:¬ s=t:=y8;have d9:¬ t=s:=λe=>y8 e.symm
      generalize hwz:((((w2.setCell ⟨p,J,Ab⟩ (Aa O (r.n.nx.getD J 0))).setCell ⟨q,J,Ab⟩ (Aa O (r.n.mt.getD J 0))).setCell ⟨s,J,Ab⟩ (Aa O (r.n.se.getD J 0))).setCell ⟨t,J,Ab⟩ (Aa O (r.n.st.getD J 0))).drew=wz
      have l:∀ k,k≠p->k≠q->k≠s->k≠t->wz.heap[k]? = w2.heap[k]?:=λk h1 h2 h3 h4=>by
       rw [<-hwz];exact (Ak _ ⟨t,J,Ab⟩ _ k h4).trans ((Ak _ ⟨s,J,Ab⟩ _ k h3).trans ((Ak _ ⟨q,J,Ab⟩ _ k h2).trans (Ak _ ⟨p,J,Ab⟩ _ k h1)))
      have ad:∀ v,lA (Z8t v (λz=>lf z && !(z == y)) r.n.id N)=(lA (Z8t v lf r.n.id N)).setIfInBounds J (Aa O (v.getD J 0)):=λv=>by
       rw [lA_set,mixL_step _ _ _ _ _ hy.1 hy.2.1 hy.2.2,am]
      have cz:=Z0 (dw.out.keep (l _ (by omega) (by omega) (by omega) (by omega)) (l _ (by omega) (by omega) (by omega) (by omega)))
      have dt:Ah (Blk wz p (lA (Z8t r.n.nx (λz=>lf z && !(z == y)) r.n.id N)) 3):=by
       rw [ad,<-hwz];exact (((bg.out.set J _).set_other (p:=⟨q,J,Ab⟩) _ g1).set_other (p:=⟨s,J,Ab⟩) _ g3).set_other (p:=⟨t,J,Ab⟩) _ g5
      have fb:Ah (Blk wz q (lA (Z8t r.n.mt (λz=>lf z && !(z == y)) r.n.id N)) 3):=by
       rw [ad,<-hwz];exact (((ca.out.set_other (p:=⟨p,J,Ab⟩) _ g2).set J _).set_other (p:=⟨s,J,Ab⟩) _ g7).set_other (p:=⟨t,J,Ab⟩) _ g9
      have ez:Ah (Blk wz s (lA (Z8t r.n.se (λz=>lf z && !(z == y)) r.n.id N)) 3):=by
       rw [ad,<-hwz];exact (((ch.out.set_other (p:=⟨p,J,Ab⟩) _ g4).set_other (p:=⟨q,J,Ab⟩) _ g8).set J _).set_other (p:=⟨t,J,Ab⟩) _ dz
      have d4:Ah (Blk wz t (lA (Z8t r.n.st (λz=>lf z && !(z == y)) r.n.id N)) 3):=by
       rw [ad,<-hwz];exact (((b7.out.set_other (p:=⟨p,J,Ab⟩) _ g6).set_other (p:=⟨q,J,Ab⟩) _ ew).set_other (p:=⟨s,J,Ab⟩) _ d9).set J _
      have ek:=Z0 (aw.out.keep (l _ (by omega) (by omega) (by omega) (by omega)));have eo:=Z0 (ei.out.keep (l _ (by omega) (by omega) (by omega) (by omega)));have fw:=Z0 (et.out.block λk e=>by have h9:=bh.out k e;exact l k (by omega) (by omega) (by omega) (by omega))
      have dq:Ah (Ai w.heap.size w wz):=by
       rw [<-hwz];exact ((((de.out.setCell (p:=⟨p,J,Ab⟩) (show w.heap.size<=p by omega) _).setCell (p:=⟨q,J,Ab⟩) (show w.heap.size<=q by omega) _).setCell (p:=⟨s,J,Ab⟩) (show w.heap.size<=s by omega) _).setCell (p:=⟨t,J,Ab⟩) (show w.heap.size<=t by omega) _).drew
      have dn:Ah (wz.rangeLeft x.pm w7.heap.size<wr.rangeLeft x.pm w7.heap.size):=by
       have h1:=cz.out.left_eq;have h2:=b8.out;unfold Ah;omega
      have fk:=Z0 hwz;clear hwz l ad;have af:Ah (¬ p=w.heap.size+1/\¬ q=w.heap.size+1/\¬ s=w.heap.size+1/\¬ t=w.heap.size+1/\¬ p=qb/\¬ q=qb/\¬ s=qb/\¬ t=qb):=by unfold Ah;omega
      unfold ptV at hrun hen2;have gh:IntKind.i64.wrap ((J:Int)+1-1)=(J:Int):=wry
      have f7:=wrx (J:Int)
      have gw:(0:Int)<=(J:Int):=by omega
      have gk:(J:Int)<(N:Int):=by omega
      have gx:((J:Int)).toNat=J:=by omega
      rw [<-hJ] at hrun hen2;clear hIR2 hlt2 hg2 hly hfy ac hy ar am y1 y2 y3 y4 y5 y6 y7 y8 y9 c5 dd hJ;generalize r.n.nx.getD J 0=V0 at *;generalize r.n.mt.getD J 0=V1 at *;generalize r.n.se.getD J 0=V2 at *;generalize r.n.st.getD J 0=V3 at *;have n1:=af.out.1;have n2:=af.out.2.1;have n3:=af.out.2.2.1;have n4:=af.out.2.2.2.1;have n5:=af.out.2.2.2.2.1;have n6:=af.out.2.2.2.2.2.1;have n7:=af.out.2.2.2.2.2.2.1;have n8:=af.out.2.2.2.2.2.2.2;have go:¬ w.heap.size+1=p:=λe=>n1 e.symm
      have gj:¬ w.heap.size+1=q:=λe=>n2 e.symm
      have f5:¬ w.heap.size+1=s:=λe=>n3 e.symm
      have f4:¬ w.heap.size+1=t:=λe=>n4 e.symm
      have f1:¬ qb=p:=λe=>n5 e.symm
      have gu:¬ qb=q:=λe=>n6 e.symm
      have f9:¬ qb=s:=λe=>n7 e.symm
      have gi:¬ qb=t:=λe=>n8 e.symm
      go_upto_region 10 with fail
      go_region_held3 (λz=>z.cell? ⟨w.heap.size+1,14,Ab⟩=Ac (I (Ac ⟨p,0,Ab⟩) N N)/\z.cell? ⟨w.heap.size+1,15,Ab⟩=Ac (I (Ac ⟨q,0,Ab⟩) N N)/\z.cell? ⟨w.heap.size+1,16,Ab⟩=Ac (I (Ac ⟨s,0,Ab⟩) N N)/\z.cell? ⟨w.heap.size+1,17,Ab⟩=Ac (I (Ac ⟨t,0,Ab⟩) N N)/\z.cell? ⟨qb,0,Ab⟩=Ac (Aa O V0)/\z.cell? ⟨qb,1,Ab⟩=Ac (Aa O V1)/\z.cell? ⟨qb,2,Ab⟩=Ac (Aa O V2)/\z.cell? ⟨qb,3,Ab⟩=Ac (Aa O V3)) (go_keep) (fail)
      rw [fk.out]
      go_wp2_with fail
      go_roundw
      case rel=>exact ⟨_,_,cz.out,dt.out,fb.out,ez.out,d4.out,ek.out,eo.out,fw.out,dq.out⟩
      case measure=>exact dn.out
 ·have bj:(r.n.ro != 3)=true:=by simpa using ax
  have b6:Ah (∀ z,Zc inC 1 3 z w.heap.size (I ga GL gc) r.n.gr->Z0j z w.heap.size r (I ga GL gc) (I Ab 0 0) (I Ab 0 0) (I Ab 0 0) (I Ab 0 0)):=λz hz=>by
   obtain ⟨e1,e2,e3,e4⟩:=d.out.nl ax;refine ⟨hz,?_,?_,?_,?_,?_⟩
   ·rw [e1];exact Zc.nil _ _ _ _ _
   ·rw [e2];exact Zc.nil _ _ _ _ _
   ·rw [e3];exact Zc.nil _ _ _ _ _
   ·rw [e4];exact Zc.nil _ _ _ _ _
   ·simp only [List.pairwise_cons,List.mem_cons,List.not_mem_nil,or_false,forall_eq_or_imp,forall_eq,List.Pairwise.nil,and_true,false_imp_iff,implies_true]
    exact ⟨⟨(Jz _).symm,(Jz _).symm,(Jz _).symm,(Jz _).symm⟩,⟨Jz _,Jz _,Jz _⟩,⟨Jz _,Jz _⟩,Jz _⟩
  have cx:Ah (w.heap.size<W.heap.size):=by have:=ao.out;unfold Ah;omega
  clear ax
  go_wp2_with (first
   |(have a:=c;refine Zd 36 _ rfl ?_;clear a;refine Z7 rfl 36 _ rfl _ rfl c.out underlying36 rfl Z2i rfl ?_)
   |(have a:=av;refine Zn 36 _ _ rfl ?_;clear a;refine Zg rfl 36 _ _ rfl _ rfl rfl av.out Z2i rfl rfl (by rw [bo.out];simp [Bh]) ?_))
  refine bodyPost_ret (v:=.agg (nqN r.n.id r.n.sz r.n.el r.n.bt r.n.tm r.n.vo r.n.ro r.n.ld r.n.cm r.n.nw r.n.dl r.n.hd x.vl (I ga GL gc) (I Ab 0 0) (I Ab 0 0) (I Ab 0 0) (I Ab 0 0))) (Zl results39 rfl (av.out.row _) underlying36 rfl Z2i rfl) rfl ⟨_,_,_,_,_,rfl,b6.out _ (Zc.le (m.out.block λk e=>setRow_other _ _ _ _ (by have:=(m.out.lts k e).1;have:=cx.out;omega)) (Nat.le_of_lt cx.out)),Yz cu.out (Ao _) _⟩
end Go.Proofs.YtmmpoppgabadmaaGreat
