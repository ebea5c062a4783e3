import Derived.Test.YtmmpoppgabadmaaGreatG44
import Derived.Test.YtmmpoppgabadmaaGreatG34
set_option linter.unusedVariables false
set_option linter.unusedSimpArgs false
set_option maxRecDepth 100000
set_option maxHeartbeats 16000000
namespace Go.Proofs.YtmmpoppgabadmaaGreat
open Go.RowKit Go.Maps Go.Sort
theorem Ye:(Tryz.prog.info? 36).map (·.size)=some 18:=by kernel_rfl
structure Jf (w:World) (H:Nat) (r:Rn) (vg vn vm vs vt:Value):Prop where
 gr:Zs inC 1 3 w H vg r.n.gr
 nx:Zs inC 1 3 w H vn r.n.nx
 mt:Zs inC 1 3 w H vm r.n.mt
 se:Zs inC 1 3 w H vs r.n.se
 st:Zs inC 1 3 w H vt r.n.st
 ap:[vg,vn,vm,vs,vt].Pairwise Xq
theorem sort_gr {w:World}{b n:Nat}{D:DataW Value}{l ss:List Int}(h:w.ownsMap Tryz.prog 3 Z1c b n D)(hf:IMD unV D (grF l))(hl:l.Pairwise (· < ·))(hs:ss.Perm (intKeys D)):ss.mergeSort (fun x y=>decide (x<=y))=l:=by
 have hp:=IM.keys h hf (lt_nodup hl) (grF_some l);have e1:ss.mergeSort leI=l.mergeSort leI:=mergeSort_of_perm_i (hs.trans hp.symm);rw [show ss.mergeSort (fun x y=>decide (x<=y))=ss.mergeSort leI from rfl,e1];exact List.mergeSort_of_pairwise (hl.imp fun h=>by simp only [leI,decide_eq_true_eq];omega)
theorem core_range {w:World}{B b:Nat}{r:Rn}{x:CV}(h:Zo w B b r x):w.rangeAt b 0 [.int .i64 r.n.id,.int .i64 r.n.sz,.int .i64 r.n.el,.int .i64 r.n.bt,.int .i64 r.n.tm,.int .i64 r.n.vo,.int .i64 r.n.ro,.int .i64 r.n.ld,.int .i64 r.n.cm,.int .i64 r.n.nw,.int .i64 r.n.dl,.int .i64 r.n.hd,x.vl,.slice none 0 0,.slice none 0 0,.slice none 0 0,.slice none 0 0,.slice none 0 0]:=fun j v hv=>by
 have h9:=h.blk.cell (0+j);rw [h9];have hj:j<18:=(List.getElem?_eq_some_iff.1 hv).1;rw [<-hv,Nat.zero_add];unfold crC;rcases (show j=0∨j=1∨j=2∨j=3∨j=4∨j=5∨j=6∨j=7∨j=8∨j=9∨j=10∨j=11∨j=12∨j=13∨j=14∨j=15∨j=16∨j=17 by omega) with rfl | rfl | rfl | rfl | rfl | rfl | rfl | rfl | rfl | rfl | rfl | rfl | rfl | rfl | rfl | rfl | rfl | rfl <;> rfl
theorem two_rows1 {w:World}{NB b:Nat}{C ZR:Array Value}{T:TypeId}(h:Blk w NB C T)(hb:b<=NB)(i j:Nat)(u v:Value) :
  Blk ((((w.alloc (.cells ZR 3)).alloc (.cells ZR 3)).setCell ⟨NB,i,none⟩ u).setCell ⟨NB,j,none⟩ v).drew w.heap.size ZR 3/\Blk ((((w.alloc (.cells ZR 3)).alloc (.cells ZR 3)).setCell ⟨NB,i,none⟩ u).setCell ⟨NB,j,none⟩ v).drew (w.heap.size+1) ZR 3/\Blk ((((w.alloc (.cells ZR 3)).alloc (.cells ZR 3)).setCell ⟨NB,i,none⟩ u).setCell ⟨NB,j,none⟩ v).drew NB ((C.setIfInBounds i u).setIfInBounds j v) T/\(∀ k,k<w.heap.size->k≠NB->(((((w.alloc (.cells ZR 3)).alloc (.cells ZR 3)).setCell ⟨NB,i,none⟩ u).setCell ⟨NB,j,none⟩ v).drew).heap[k]? = w.heap[k]?)/\Below b w ((((w.alloc (.cells ZR 3)).alloc (.cells ZR 3)).setCell ⟨NB,i,none⟩ u).setCell ⟨NB,j,none⟩ v).drew:=by
 have hl:=h.lt;refine ⟨((((Blk.new w ZR 3).alloc _).set_other _ (by simp only;omega)).set_other _ (by simp only;omega)).drew,(((Blk.new' (w.alloc _) ZR 3 (by simp)).set_other _ (by simp only;omega)).set_other _ (by simp only;omega)).drew,((((h.alloc _).alloc _).set i u).set j v).drew,fun k hk hn=>?_,?_⟩
 ·show (((((w.alloc (.cells ZR 3)).alloc (.cells ZR 3)).setCell ⟨NB,i,none⟩ u).setCell ⟨NB,j,none⟩ v)).heap[k]? = _
  rw [Below.heap_setCell _ _ _ _ hn,Below.heap_setCell _ _ _ _ hn,Below.heap_alloc _ _ _ (by simp;omega),Below.heap_alloc _ _ _ hk]
 ·exact (((((Below.refl b w).alloc (by omega) _).alloc (by simp;omega) _).setCell (p:=⟨NB,i,none⟩) hb _).setCell (p:=⟨NB,j,none⟩) hb _).drew
theorem two_rows2 {w:World}{NB b:Nat}{C ZR:Array Value}{T:TypeId}(h:Blk w NB C T)(hb:b<=NB)(i j:Nat)(u v:Value) :
  Blk ((((w.setCell ⟨NB,i,none⟩ u).alloc (.cells ZR 3)).alloc (.cells ZR 3)).setCell ⟨NB,j,none⟩ v).drew w.heap.size ZR 3/\Blk ((((w.setCell ⟨NB,i,none⟩ u).alloc (.cells ZR 3)).alloc (.cells ZR 3)).setCell ⟨NB,j,none⟩ v).drew (w.heap.size+1) ZR 3/\Blk ((((w.setCell ⟨NB,i,none⟩ u).alloc (.cells ZR 3)).alloc (.cells ZR 3)).setCell ⟨NB,j,none⟩ v).drew NB ((C.setIfInBounds i u).setIfInBounds j v) T/\(∀ k,k<w.heap.size->k≠NB->(((((w.setCell ⟨NB,i,none⟩ u).alloc (.cells ZR 3)).alloc (.cells ZR 3)).setCell ⟨NB,j,none⟩ v).drew).heap[k]? = w.heap[k]?)/\Below b w ((((w.setCell ⟨NB,i,none⟩ u).alloc (.cells ZR 3)).alloc (.cells ZR 3)).setCell ⟨NB,j,none⟩ v).drew:=by
 have hl:=h.lt;have hs:(w.setCell ⟨NB,i,none⟩ u).heap.size=w.heap.size:=by simp [World.setCell]
 refine ⟨(((Blk.new' (w.setCell ⟨NB,i,none⟩ u) ZR 3 hs.symm).alloc _).set_other _ (by simp only;omega)).drew,((Blk.new' ((w.setCell ⟨NB,i,none⟩ u).alloc _) ZR 3 (by simp [hs])).set_other _ (by simp only;omega)).drew,((((h.set i u).alloc _).alloc _).set j v).drew,fun k hk hn=>?_,?_⟩
 ·show (((((w.setCell ⟨NB,i,none⟩ u).alloc (.cells ZR 3)).alloc (.cells ZR 3)).setCell ⟨NB,j,none⟩ v)).heap[k]? = _
  rw [Below.heap_setCell _ _ _ _ hn,Below.heap_alloc _ _ _ (by simp [hs];omega),Below.heap_alloc _ _ _ (by rw [hs];exact hk),Below.heap_setCell _ _ _ _ hn]
 ·exact (((((Below.refl b w).setCell (p:=⟨NB,i,none⟩) hb _).alloc (by rw [hs];omega) _).alloc (by simp [hs];omega) _).setCell (p:=⟨NB,j,none⟩) hb _).drew
def TwoR (w z:World)(b NB:Nat)(C ZR:Array Value)(T:TypeId)(i j N:Nat):Prop:=∃ p q,w.heap.size<=p/\w.heap.size<=q/\p≠q/\Blk z p ZR 3/\Blk z q ZR 3/\Blk z NB ((C.setIfInBounds i (.slice (some ⟨p,0,none⟩) N N)).setIfInBounds j (.slice (some ⟨q,0,none⟩) N N)) T/\(∀ k,k<w.heap.size->k≠NB->z.heap[k]? = w.heap[k]?)/\Below b w z
section
variable {w:World} {NB b:Nat} {C ZR:Array Value} {T:TypeId}
theorem twoR1 (h:Blk w NB C T)(hb:b<=NB)(i j N:Nat):TwoR w ((((w.alloc (.cells ZR 3)).alloc (.cells ZR 3)).setCell ⟨NB,i,none⟩ (.slice (some ⟨w.heap.size,0,none⟩) N N)).setCell ⟨NB,j,none⟩ (.slice (some ⟨w.heap.size+1,0,none⟩) N N)).drew b NB C ZR T i j N:=
 have h9:=two_rows1 (ZR:=ZR) h hb i j (.slice (some ⟨w.heap.size,0,none⟩) N N) (.slice (some ⟨w.heap.size+1,0,none⟩) N N)
 ⟨w.heap.size,w.heap.size+1,Nat.le_refl _,Nat.le_succ _,by omega,h9.1,h9.2.1,h9.2.2⟩
theorem twoR2 (h:Blk w NB C T)(hb:b<=NB)(i j N:Nat):TwoR w ((((w.setCell ⟨NB,i,none⟩ (.slice (some ⟨w.heap.size,0,none⟩) N N)).alloc (.cells ZR 3)).alloc (.cells ZR 3)).setCell ⟨NB,j,none⟩ (.slice (some ⟨w.heap.size+1,0,none⟩) N N)).drew b NB C ZR T i j N:=
 have h9:=two_rows2 (ZR:=ZR) h hb i j (.slice (some ⟨w.heap.size,0,none⟩) N N) (.slice (some ⟨w.heap.size+1,0,none⟩) N N)
 ⟨w.heap.size,w.heap.size+1,Nat.le_refl _,Nat.le_succ _,by omega,h9.1,h9.2.1,h9.2.2⟩
theorem twoR3 (h:Blk w NB C T)(hb:b<=NB)(i j N:Nat):TwoR w ((((w.alloc (.cells ZR 3)).alloc (.cells ZR 3)).setCell ⟨NB,i,none⟩ (.slice (some ⟨w.heap.size+1,0,none⟩) N N)).setCell ⟨NB,j,none⟩ (.slice (some ⟨w.heap.size,0,none⟩) N N)).drew b NB C ZR T i j N:=
 have h9:=two_rows1 (ZR:=ZR) h hb i j (.slice (some ⟨w.heap.size+1,0,none⟩) N N) (.slice (some ⟨w.heap.size,0,none⟩) N N)
 ⟨w.heap.size+1,w.heap.size,Nat.le_succ _,Nat.le_refl _,by omega,h9.2.1,h9.1,h9.2.2⟩
theorem twoR4 (h:Blk w NB C T)(hb:b<=NB)(i j N:Nat):TwoR w ((((w.setCell ⟨NB,i,none⟩ (.slice (some ⟨w.heap.size+1,0,none⟩) N N)).alloc (.cells ZR 3)).alloc (.cells ZR 3)).setCell ⟨NB,j,none⟩ (.slice (some ⟨w.heap.size,0,none⟩) N N)).drew b NB C ZR T i j N:=
 have h9:=two_rows2 (ZR:=ZR) h hb i j (.slice (some ⟨w.heap.size+1,0,none⟩) N N) (.slice (some ⟨w.heap.size,0,none⟩) N N)
 ⟨w.heap.size+1,w.heap.size,Nat.le_succ _,Nat.le_refl _,by omega,h9.2.1,h9.1,h9.2.2⟩
end
theorem told_any (b:Nat)(r:Rn)(x:CV)(w:World)(B:Nat)(h:Zo w B b r x) :
  Calls Tryz.prog 39 #[.pointer (some ⟨b,0,none⟩)] w fun e w'=>∃ vg vn vm vs vt,e=.returned (.agg #[.int .i64 r.n.id,.int .i64 r.n.sz,.int .i64 r.n.el,.int .i64 r.n.bt,.int .i64 r.n.tm,.int .i64 r.n.vo,.int .i64 r.n.ro,.int .i64 r.n.ld,.int .i64 r.n.cm,.int .i64 r.n.nw,.int .i64 r.n.dl,.int .i64 r.n.hd,x.vl,vg,vn,vm,vs,vt])/\Jf w' w.heap.size r vg vn vm vs vt/\Below w.heap.size w w':=by
 have HR:Hid _:=h;obtain ⟨la,lc,hvl⟩:=h.log.shape;obtain ⟨LN,hLN⟩:∃ LN,LN=r.n.log.length:=⟨_,rfl⟩;rw [<-hLN] at hvl;have HVl:Hid (x.vl=.slice la LN lc):=hvl;have hgl:=h.gm_len;have HG:Hid (∀ z,Below w.heap.size w z->IM unV z x.gm (grF r.n.gr)):=fun z hz=>(h.below hz).gm
 have HCI:Hid (CI r.n):=h.ci;have hblt:=h.lt;obtain ⟨W,hW⟩:∃ W,W=(w.alloc (.cells #[.int .i64 0,.int .i64 0,.int .i64 0,.int .i64 0,.int .i64 0,.int .i64 0,.int .i64 0,.int .i64 0,.int .i64 0,.int .i64 0,.int .i64 0,.int .i64 0,.slice none 0 0,.slice none 0 0,.slice none 0 0,.slice none 0 0,.slice none 0 0,.slice none 0 0] 36)).alloc (.cells #[.int .i64 r.n.id,.int .i64 r.n.sz,.int .i64 r.n.el,.int .i64 r.n.bt,.int .i64 r.n.tm,.int .i64 r.n.vo,.int .i64 r.n.ro,.int .i64 r.n.ld,.int .i64 r.n.cm,.int .i64 r.n.nw,.int .i64 r.n.dl,.int .i64 r.n.hd,x.vl,.slice none 0 0,.slice none 0 0,.slice none 0 0,.slice none 0 0,.slice none 0 0] 36):=⟨_,rfl⟩;have HBW:Hid (Below w.heap.size w W):=by unfold Hid;rw [hW];exact (Below.alloc0 _).alloc (by simp) _
 have HRW:Hid (Blk W w.heap.size #[.int .i64 0,.int .i64 0,.int .i64 0,.int .i64 0,.int .i64 0,.int .i64 0,.int .i64 0,.int .i64 0,.int .i64 0,.int .i64 0,.int .i64 0,.int .i64 0,.slice none 0 0,.slice none 0 0,.slice none 0 0,.slice none 0 0,.slice none 0 0,.slice none 0 0] 36):=by unfold Hid;rw [hW];exact (Blk.new _ _ _).alloc _
 have HNW:Hid (Blk W (w.heap.size+1) #[.int .i64 r.n.id,.int .i64 r.n.sz,.int .i64 r.n.el,.int .i64 r.n.bt,.int .i64 r.n.tm,.int .i64 r.n.vo,.int .i64 r.n.ro,.int .i64 r.n.ld,.int .i64 r.n.cm,.int .i64 r.n.nw,.int .i64 r.n.dl,.int .i64 r.n.hd,x.vl,.slice none 0 0,.slice none 0 0,.slice none 0 0,.slice none 0 0,.slice none 0 0] 36):=by unfold Hid;rw [hW];exact Blk.new' _ _ _ (by simp)
 have HHs:Hid (W.heap.size=w.heap.size+2):=by unfold Hid;rw [hW];simp
 have HCW:Hid (Zo W B b r x):=h.below HBW.out;have d18:W.cell? ⟨b,18,none⟩=some (.map (some x.gm)):=HCW.out.blk.cell 18;have HRg:Hid (∀ o:Obj,World.rangeAt (w.alloc o) b 0 [.int .i64 r.n.id,.int .i64 r.n.sz,.int .i64 r.n.el,.int .i64 r.n.bt,.int .i64 r.n.tm,.int .i64 r.n.vo,.int .i64 r.n.ro,.int .i64 r.n.ld,.int .i64 r.n.cm,.int .i64 r.n.nw,.int .i64 r.n.dl,.int .i64 r.n.hd,x.vl,.slice none 0 0,.slice none 0 0,.slice none 0 0,.slice none 0 0,.slice none 0 0]):=fun o=>core_range (h.below (Below.alloc0 _))
 clear h hLN hvl;have G1:Hid True:=trivial;have G2:Hid True:=trivial;go_enter Tryz.func39,Tryz.ntmps39
 go_upto_region 2 with (first
  |(have hBA:=G1;refine Zw 36 (.tmp 8) rfl ?_;clear hBA;refine wpList_load_mid rfl 36 (.tmp 8) rfl b 0 rfl [.int .i64 r.n.id,.int .i64 r.n.sz,.int .i64 r.n.el,.int .i64 r.n.bt,.int .i64 r.n.tm,.int .i64 r.n.vo,.int .i64 r.n.ro,.int .i64 r.n.ld,.int .i64 r.n.cm,.int .i64 r.n.nw,.int .i64 r.n.dl,.int .i64 r.n.hd,x.vl,.slice none 0 0,.slice none 0 0,.slice none 0 0,.slice none 0 0,.slice none 0 0] _ (HRg.out _) Tryz.underlying36 rfl (by rw [Ye];rfl) ?_;clear G1)
  |(have hBA:=G2;refine Y2 36 (.tmp 3) _ rfl ?_;clear hBA;refine Zz rfl 36 (.tmp 3) _ rfl (w.heap.size+1) rfl (by simp) rfl Ye rfl rfl (by rw [HVl.out];simp [Value.oneCell']) ?_;clear G2))
 rw [<-hW];clear hW;obtain ⟨gn,D,hown,hD⟩:=HG.out W HBW.out;have hDs:Maps.size D=r.n.gr.length:=IM.size hown hD (lt_nodup HCI.out.gr1) (grF_some _)
 have HSo:Hid (Calls Tryz.prog 86 #[.func (.func 140) #[] #[.pointer (some ⟨W.heap.size,0,none⟩)]] (W.alloc (.cells #[.map (some x.gm)] 77)) fun e w'=>∃ v:Value,e=.returned v/\Zs inC 1 3 w' W.heap.size v r.n.gr/\Below W.heap.size W w'):=by
  refine Calls.mono (sortedG_any x.gm gn D Z1c W hown (by rw [hDs];unfold maxLen;omega) (by rw [hDs];omega)) ?_;rintro e w4 ⟨v,ss,rfl,hS,hrow,hnil,hb4⟩;have h5:=sort_gr hown hD HCI.out.gr1 hS;have hlen:ss.length=r.n.gr.length:=by rw [<-h5,List.length_mergeSort]
  rw [h5,hlen] at hrow;refine ⟨v,rfl,Zs.le (B:=(W.alloc (.cells #[.map (some x.gm)] 77)).heap.size) ?_ (by simp),(Below.alloc0 _).trans (hb4.mono (by simp))⟩;unfold Zs;rw [gC_inI];exact hrow
 clear hown hD hDs
 go_upto_region 3 with (first
  |(go_at_call 87;refine (keysG_any _ _).mono ?_;rintro e w3 ⟨rfl,rfl⟩)
  |(go_at_call 86;refine Calls.mono HSo.out ?_;rintro e w4 ⟨vg,rfl,ho4,hb4⟩;obtain ⟨ga,gc,hga⟩:=ho4.shape;have HO4:Hid (Zs inC 1 3 w4 W.heap.size vg r.n.gr):=ho4;have HB4:Hid _:=hb4;have HN4:Hid (Blk w4 (w.heap.size+1) _ 36):=HNW.out.below hb4 HNW.out.lt;have n13:w4.cell? ⟨w.heap.size+1,13,none⟩=some (.slice none 0 0):=HN4.out.cell 13;have f13:w4.frozen? ⟨w.heap.size+1,13,none⟩=false:=HN4.out.free 13;clear ho4 hb4))
 generalize hGL:r.n.gr.length=GL at *;subst hga;have HN5:Hid (Blk (w4.setCell ⟨w.heap.size+1,13,none⟩ (.slice ga GL gc)) (w.heap.size+1) #[.int .i64 r.n.id,.int .i64 r.n.sz,.int .i64 r.n.el,.int .i64 r.n.bt,.int .i64 r.n.tm,.int .i64 r.n.vo,.int .i64 r.n.ro,.int .i64 r.n.ld,.int .i64 r.n.cm,.int .i64 r.n.nw,.int .i64 r.n.dl,.int .i64 r.n.hd,x.vl,.slice ga GL gc,.slice none 0 0,.slice none 0 0,.slice none 0 0,.slice none 0 0] 36):=HN4.out.set 13 _;have HR5:Hid (Blk (w4.setCell ⟨w.heap.size+1,13,none⟩ (.slice ga GL gc)) w.heap.size #[.int .i64 0,.int .i64 0,.int .i64 0,.int .i64 0,.int .i64 0,.int .i64 0,.int .i64 0,.int .i64 0,.int .i64 0,.int .i64 0,.int .i64 0,.int .i64 0,.slice none 0 0,.slice none 0 0,.slice none 0 0,.slice none 0 0,.slice none 0 0,.slice none 0 0] 36):=(HRW.out.below HB4.out HRW.out.lt).set_other _ (by simp only;omega);have HB5:Hid (Below w.heap.size w (w4.setCell ⟨w.heap.size+1,13,none⟩ (.slice ga GL gc))):=(HBW.out.trans (HB4.out.mono HBW.out.size)).setCell (p:=⟨w.heap.size+1,13,none⟩) (by simp only;omega) _;have HO5:Hid (Zs inC 1 3 (w4.setCell ⟨w.heap.size+1,13,none⟩ (.slice ga GL gc)) W.heap.size (.slice ga GL gc) r.n.gr):=HO4.out.block fun k e=>Below.heap_setCell _ _ _ _ (by have:=(HO4.out.lts k e).1;have:=HHs.out;simp only;omega)
 generalize w4.setCell ⟨w.heap.size+1,13,none⟩ (.slice ga GL gc)=w5 at *;have n6:w5.cell? ⟨w.heap.size+1,6,none⟩=some (.int .i64 r.n.ro):=HN5.out.cell 6;clear HN4 n13 f13 d18;by_cases hro:r.n.ro=3
 ·have hrb:(r.n.ro != 3)=false:=by simp [hro]
  obtain ⟨N,hN⟩:∃ N:Nat,r.n.sz=(N:Int):=⟨r.n.sz.toNat,by have:=HCI.out.sz0;omega⟩;have HN:Hid (r.n.sz=(N:Int)):=hN;have hn7:N<=7:=by have:=HCI.out.sz1;omega
  have hn3:3<=N:=by have:=HCI.out.sz0;omega
  have n1:w5.cell? ⟨w.heap.size+1,1,none⟩=some (.int .i64 (N:Int)):=by rw [<-hN];exact HN5.out.cell 1
  have n14:w5.cell? ⟨w.heap.size+1,14,none⟩=some (.slice none 0 0):=HN5.out.cell 14;have n15:w5.cell? ⟨w.heap.size+1,15,none⟩=some (.slice none 0 0):=HN5.out.cell 15;have nf:∀ j,w5.frozen? ⟨w.heap.size+1,j,none⟩=false:=fun j=>HN5.out.free j
  have hlN:w.heap.size+1<w5.heap.size:=HN5.out.lt;have hmk:∀ u,(Instr.makeSlice 23 (.int .i64 (N:Int)) (.int .i64 (N:Int))).run Tryz.prog u=.ok (.slice (some ⟨u.heap.size,0,none⟩) N N) (u.alloc (.cells (lA (List.replicate N 0)) 3)):=fun u=>run_mkInts u N hn7
  obtain ⟨ZR,hZR⟩:∃ ZR,ZR=lA (List.replicate N 0):=⟨_,rfl⟩;rw [<-hZR] at hmk;have HZR:Hid (ZR=lA (List.replicate N 0)):=hZR;have hne1:¬ w.heap.size+1=w5.heap.size:=by omega
  have hne2:¬ w.heap.size+1=w5.heap.size+1:=by omega
  have hne3:¬ w5.heap.size=w.heap.size+1:=by omega
  have hne4:¬ w5.heap.size+1=w.heap.size+1:=by omega
  have pa1:∀(o:Obj) (j:Nat),(w5.alloc o).cell? ⟨w.heap.size+1,j,none⟩=w5.cell? ⟨w.heap.size+1,j,none⟩:=fun o j=>(Z0b (Below.alloc0 (w:=w5) o)).1 _ _ hlN
  have pa2:∀(o o':Obj) (j:Nat),((w5.alloc o).alloc o').cell? ⟨w.heap.size+1,j,none⟩=w5.cell? ⟨w.heap.size+1,j,none⟩:=fun o o' j=>(Z0b ((Below.alloc0 (w:=w5) o).alloc (by simp) o')).1 _ _ hlN
  have pf1:∀(o:Obj) (j:Nat),(w5.alloc o).frozen? ⟨w.heap.size+1,j,none⟩=false:=fun o j=>((Z0b (Below.alloc0 (w:=w5) o)).2 _ _ hlN).trans (nf j)
  have pf2:∀(o o':Obj) (j:Nat),((w5.alloc o).alloc o').frozen? ⟨w.heap.size+1,j,none⟩=false:=fun o o' j=>((Z0b ((Below.alloc0 (w:=w5) o).alloc (by simp) o')).2 _ _ hlN).trans (nf j)
  have pa3:∀(v:Value) (o o':Obj),(((w5.setCell ⟨w.heap.size+1,14,none⟩ v).alloc o).alloc o').cell? ⟨w.heap.size+1,15,none⟩=some (.slice none 0 0):=fun v o o'=>(((HN5.out.set 14 v).alloc o).alloc o').cell 15
  have pf3:∀(v:Value) (o o':Obj),(((w5.setCell ⟨w.heap.size+1,14,none⟩ v).alloc o).alloc o').frozen? ⟨w.heap.size+1,15,none⟩=false:=fun v o o'=>(((HN5.out.set 14 v).alloc o).alloc o').free 15
  clear hro hZR hN;obtain ⟨C5,hC5⟩:∃ C5:Array Value,C5=#[.int .i64 r.n.id,.int .i64 r.n.sz,.int .i64 r.n.el,.int .i64 r.n.bt,.int .i64 r.n.tm,.int .i64 r.n.vo,.int .i64 r.n.ro,.int .i64 r.n.ld,.int .i64 r.n.cm,.int .i64 r.n.nw,.int .i64 r.n.dl,.int .i64 r.n.hd,x.vl,.slice ga GL gc,.slice none 0 0,.slice none 0 0,.slice none 0 0,.slice none 0 0]:=⟨_,rfl⟩;have HN5c:Hid (Blk w5 (w.heap.size+1) C5 36):=by unfold Hid;rw [hC5];exact HN5.out
  have HC5:Hid (C5=#[.int .i64 r.n.id,.int .i64 r.n.sz,.int .i64 r.n.el,.int .i64 r.n.bt,.int .i64 r.n.tm,.int .i64 r.n.vo,.int .i64 r.n.ro,.int .i64 r.n.ld,.int .i64 r.n.cm,.int .i64 r.n.nw,.int .i64 r.n.dl,.int .i64 r.n.hd,x.vl,.slice ga GL gc,.slice none 0 0,.slice none 0 0,.slice none 0 0,.slice none 0 0]):=hC5;clear hC5
  go_upto_region 5 with fail
  go_cut [] (fun z=>TwoR w5 z w.heap.size (w.heap.size+1) C5 ZR 36 14 15 N)
  case first=>
   go_region
   all_goals go_wp2_with fail
   all_goals (
    go_meet
    first
     | with_reducible exact twoR1 HN5c.out (Nat.le_succ _) 14 15 N
     | with_reducible exact twoR2 HN5c.out (Nat.le_succ _) 14 15 N
     | with_reducible exact twoR3 HN5c.out (Nat.le_succ _) 14 15 N
     | with_reducible exact twoR4 HN5c.out (Nat.le_succ _) 14 15 N)
  case rest=>
   obtain ⟨p,q,hp,hq,hpq,hP,hQ,hND,hkp,hBz⟩:=hcut;obtain ⟨w6,hw6⟩:∃ z,z=wc:=⟨_,rfl⟩;rw [<-hw6] at hP hQ hND hkp hBz;subst hw6;have HP6:Hid (Blk w6 p ZR 3):=hP;have HQ6:Hid (Blk w6 q ZR 3):=hQ;rw [HC5.out] at hND;have HN6:Hid (Blk w6 (w.heap.size+1) _ 36):=hND;have HK6:Hid (∀ k,k<w5.heap.size->k≠w.heap.size+1->w6.heap[k]? = w5.heap[k]?):=hkp;have HB6:Hid (Below w.heap.size w w6):=HB5.out.trans hBz;have hs6:=hBz.size;have HX6:Hid (p<w6.heap.size/\q<w6.heap.size/\w5.heap.size<=p/\w5.heap.size<=q/\p≠q):=⟨hP.lt,hQ.lt,hp,hq,hpq⟩;have k1:w6.cell? ⟨w.heap.size+1,1,none⟩=some (.int .i64 (N:Int)):=by rw [<-HN.out];exact HN6.out.cell 1
   have k16:w6.cell? ⟨w.heap.size+1,16,none⟩=some (.slice none 0 0):=HN6.out.cell 16;have k17:w6.cell? ⟨w.heap.size+1,17,none⟩=some (.slice none 0 0):=HN6.out.cell 17;have kf:∀ j,w6.frozen? ⟨w.heap.size+1,j,none⟩=false:=fun j=>HN6.out.free j
   have hlN6:w.heap.size+1<w6.heap.size:=HN6.out.lt;have pb1:∀(o:Obj) (j:Nat),(w6.alloc o).cell? ⟨w.heap.size+1,j,none⟩=w6.cell? ⟨w.heap.size+1,j,none⟩:=fun o j=>(Z0b (Below.alloc0 (w:=w6) o)).1 _ _ hlN6
   have pb2:∀(o o':Obj) (j:Nat),((w6.alloc o).alloc o').cell? ⟨w.heap.size+1,j,none⟩=w6.cell? ⟨w.heap.size+1,j,none⟩:=fun o o' j=>(Z0b ((Below.alloc0 (w:=w6) o).alloc (by simp) o')).1 _ _ hlN6
   have pg1:∀(o:Obj) (j:Nat),(w6.alloc o).frozen? ⟨w.heap.size+1,j,none⟩=false:=fun o j=>((Z0b (Below.alloc0 (w:=w6) o)).2 _ _ hlN6).trans (kf j)
   have pg2:∀(o o':Obj) (j:Nat),((w6.alloc o).alloc o').frozen? ⟨w.heap.size+1,j,none⟩=false:=fun o o' j=>((Z0b ((Below.alloc0 (w:=w6) o).alloc (by simp) o')).2 _ _ hlN6).trans (kf j)
   have pb3:∀(v:Value) (o o':Obj),(((w6.setCell ⟨w.heap.size+1,16,none⟩ v).alloc o).alloc o').cell? ⟨w.heap.size+1,17,none⟩=some (.slice none 0 0):=fun v o o'=>(((HN6.out.set 16 v).alloc o).alloc o').cell 17
   have pg3:∀(v:Value) (o o':Obj),(((w6.setCell ⟨w.heap.size+1,16,none⟩ v).alloc o).alloc o').frozen? ⟨w.heap.size+1,17,none⟩=false:=fun v o o'=>(((HN6.out.set 16 v).alloc o).alloc o').free 17
   have hne5:¬ w.heap.size+1=w6.heap.size:=by omega
   have hne6:¬ w.heap.size+1=w6.heap.size+1:=by omega
   have hne7:¬ w6.heap.size=w.heap.size+1:=by omega
   have hne8:¬ w6.heap.size+1=w.heap.size+1:=by omega
   clear hP hQ hND hkp hBz n1 n14 n15 nf pa1 pa2 pf1 pf2 pa3 pf3 hne1 hne2 hne3 hne4;obtain ⟨C6,hC6⟩:∃ C6:Array Value,C6=#[.int .i64 r.n.id,.int .i64 r.n.sz,.int .i64 r.n.el,.int .i64 r.n.bt,.int .i64 r.n.tm,.int .i64 r.n.vo,.int .i64 r.n.ro,.int .i64 r.n.ld,.int .i64 r.n.cm,.int .i64 r.n.nw,.int .i64 r.n.dl,.int .i64 r.n.hd,x.vl,.slice ga GL gc,.slice (some ⟨p,0,none⟩) N N,.slice (some ⟨q,0,none⟩) N N,.slice none 0 0,.slice none 0 0]:=⟨_,rfl⟩;have HN6c:Hid (Blk w6 (w.heap.size+1) C6 36):=by unfold Hid;rw [hC6];exact HN6.out
   have HC6:Hid (C6=#[.int .i64 r.n.id,.int .i64 r.n.sz,.int .i64 r.n.el,.int .i64 r.n.bt,.int .i64 r.n.tm,.int .i64 r.n.vo,.int .i64 r.n.ro,.int .i64 r.n.ld,.int .i64 r.n.cm,.int .i64 r.n.nw,.int .i64 r.n.dl,.int .i64 r.n.hd,x.vl,.slice ga GL gc,.slice (some ⟨p,0,none⟩) N N,.slice (some ⟨q,0,none⟩) N N,.slice none 0 0,.slice none 0 0]):=hC6;clear hC6
   go_upto_region 6 with fail
   go_cut [] (fun z=>TwoR w6 z w.heap.size (w.heap.size+1) C6 ZR 36 16 17 N)
   case first=>
    go_region
    all_goals go_wp2_with fail
    all_goals (
     go_meet
     first
      | with_reducible exact twoR1 HN6c.out (Nat.le_succ _) 16 17 N
      | with_reducible exact twoR2 HN6c.out (Nat.le_succ _) 16 17 N
      | with_reducible exact twoR3 HN6c.out (Nat.le_succ _) 16 17 N
      | with_reducible exact twoR4 HN6c.out (Nat.le_succ _) 16 17 N)
   case rest=>
    obtain ⟨s,t,hs,ht,hst,hS,hT,hND,hkp,hBz⟩:=hcut;obtain ⟨w7,hw7⟩:∃ z,z=wc:=⟨_,rfl⟩;rw [<-hw7] at hS hT hND hkp hBz;subst hw7;rw [HC6.out] at hND;obtain ⟨x1,x2,x3,x4,x5⟩:=HX6.out;have hHs:=HHs.out;have hgn5:w.heap.size+2<=w5.heap.size:=by omega
    have HN7:Hid (Blk w7 (w.heap.size+1) _ 36):=hND;have HP7:Hid (Blk w7 p ZR 3):=HP6.out.keep (hkp p x1 (by omega));have HQ7:Hid (Blk w7 q ZR 3):=HQ6.out.keep (hkp q x2 (by omega));have HS7:Hid (Blk w7 s ZR 3):=hS;have HT7:Hid (Blk w7 t ZR 3):=hT;have HB7:Hid (Below w.heap.size w w7):=HB6.out.trans hBz;have HR7:Hid (Blk w7 w.heap.size _ 36):=(HR5.out.keep (HK6.out w.heap.size HR5.out.lt (by omega))).keep (hkp w.heap.size (by omega) (by omega));have HO7:Hid (Zs inC 1 3 w7 W.heap.size (.slice ga GL gc) r.n.gr):=(HO5.out.block fun k e=>HK6.out k (HO5.out.lts k e).2 (by have:=(HO5.out.lts k e).1;omega)).block fun k e=>hkp k (by have:=(HO5.out.lts k e).2;omega) (by have:=(HO5.out.lts k e).1;omega)
    have HOn:Hid (∀ k,(Value.slice ga GL gc).ownBlock=some k->k<w5.heap.size/\w.heap.size+2<=k):=fun k e=>⟨(HO5.out.lts k e).2,by have:=(HO5.out.lts k e).1;omega⟩
    have HXX:Hid (w5.heap.size<=p/\w5.heap.size<=q/\p≠q/\p<s/\q<s/\p<t/\q<t/\s≠t/\w.heap.size+2<=w5.heap.size/\w5.heap.size<=s/\w5.heap.size<=t):=by unfold Hid;omega
    have c19:w7.cell? ⟨b,19,none⟩=some (.map (some x.pm)):=(HR.out.below HB7.out).blk.cell 19;have HPM:Hid (IM ptV w7 x.pm x.f):=(HR.out.below HB7.out).pm;have hs7:=hBz.size;have HPk:Hid (∀ y qb,x.f y=some qb->1<=y/\y<=(N:Int)/\y≠r.n.id):=fun y qb e=>by have:=(HR.out.pk y).1 (by rw [e];rfl);have:=HN.out;omega
    have HPs:Hid (∀ y:Int,1<=y->y<=N->y≠r.n.id->(x.f y).isSome=true):=fun y h1 h2 h3=>(HR.out.pk y).2 ⟨by simpa using hrb,h1,by rw [HN.out];exact h2,h3⟩
    have HPv:Hid (∀ z y qb,Below w.heap.size w z->x.f y=some qb->Blk z qb (pgC r.n y) 124/\qb<w.heap.size):=fun z y qb hz e=>⟨((HR.out.below hz).pf y qb e).1,(HR.out.pf y qb e).1.lt⟩
    have HLd:Hid _:=HCI.out.ld (by simpa using hrb);clear hS hT hND hkp hBz k1 k16 k17 kf pb1 pb2 pg1 pg2 pb3 pg3 hne5 hne6 hne7 hne8 hs ht hst x1 x2 x3 x4 x5 hHs hgn5 n6
    go_wp2_with (first
     |(at_range;refine wpl_imrange _ rfl _ 78 rfl 126 Tryz.underlying78 x.pm rfl HPM.out ?_;intro w8 cnt8 hr8 hg8 hs8;have HR8:Hid (IR ptV w8 x.pm w7.heap.size x.f (fun y=>(x.f y).isSome) cnt8):=hr8;have HG8:Hid (Below w7.heap.size w7 w8):=⟨hg8.os,hg8.tape,hg8.output,hg8.size,fun k hk=>hg8.block k hk (by simp)⟩;clear hr8 hg8 hs8))
    go_frame
    go_loopw [4,5] (fun jv pv wr=>∃(lf:Int->Bool) (cnt:Nat),IR ptV wr x.pm w7.heap.size x.f lf cnt/\Blk wr p (lA (Jt r.n.nx lf r.n.id N)) 3/\Blk wr q (lA (Jt r.n.mt lf r.n.id N)) 3/\Blk wr s (lA (Jt r.n.se lf r.n.id N)) 3/\Blk wr t (lA (Jt r.n.st lf r.n.id N)) 3/\Blk wr (w.heap.size+1) #[.int .i64 r.n.id,.int .i64 r.n.sz,.int .i64 r.n.el,.int .i64 r.n.bt,.int .i64 r.n.tm,.int .i64 r.n.vo,.int .i64 r.n.ro,.int .i64 r.n.ld,.int .i64 r.n.cm,.int .i64 r.n.nw,.int .i64 r.n.dl,.int .i64 r.n.hd,x.vl,.slice ga GL gc,.slice (some ⟨p,0,none⟩) N N,.slice (some ⟨q,0,none⟩) N N,.slice (some ⟨s,0,none⟩) N N,.slice (some ⟨t,0,none⟩) N N] 36/\Blk wr w.heap.size #[.int .i64 0,.int .i64 0,.int .i64 0,.int .i64 0,.int .i64 0,.int .i64 0,.int .i64 0,.int .i64 0,.int .i64 0,.int .i64 0,.int .i64 0,.int .i64 0,.slice none 0 0,.slice none 0 0,.slice none 0 0,.slice none 0 0,.slice none 0 0,.slice none 0 0] 36/\Zs inC 1 3 wr W.heap.size (.slice ga GL gc) r.n.gr/\Below w.heap.size w wr) (fun _ _ wr=>wr.rangeLeft x.pm w7.heap.size)
    case atStart=>
     refine ⟨_,_,HR8.out,?_,?_,?_,?_,HN7.out.below HG8.out HN7.out.lt,HR7.out.below HG8.out HR7.out.lt,HO7.out.below HG8.out,HB7.out.trans (HG8.out.mono HB7.out.size)⟩
     ·rw [Z1k _ _ _ _ HPs.out,<-HZR.out];exact HP7.out.below HG8.out HP7.out.lt
     ·rw [Z1k _ _ _ _ HPs.out,<-HZR.out];exact HQ7.out.below HG8.out HQ7.out.lt
     ·rw [Z1k _ _ _ _ HPs.out,<-HZR.out];exact HS7.out.below HG8.out HS7.out.lt
     ·rw [Z1k _ _ _ _ HPs.out,<-HZR.out];exact HT7.out.below HG8.out HT7.out.lt
    case round=>
     obtain ⟨lf,cnt,hIR,hP,hQ,hS,hT,hN9,hR9,hO9,hB9⟩:=hrel;have HIR:Hid (IR ptV wr x.pm w7.heap.size x.f lf cnt):=hIR;have HPr:Hid (Blk wr p (lA (Jt r.n.nx lf r.n.id N)) 3):=hP;have HQr:Hid (Blk wr q (lA (Jt r.n.mt lf r.n.id N)) 3):=hQ;have HSr:Hid (Blk wr s (lA (Jt r.n.se lf r.n.id N)) 3):=hS;have HTr:Hid (Blk wr t (lA (Jt r.n.st lf r.n.id N)) 3):=hT;have HNr:Hid (Blk wr (w.heap.size+1) _ 36):=hN9;have HRr:Hid (Blk wr w.heap.size _ 36):=hR9;have HOr:Hid (Zs inC 1 3 wr W.heap.size (.slice ga GL gc) r.n.gr):=hO9;have HBr:Hid _:=hB9;have HLeft:Hid (wr.rangeLeft x.pm w7.heap.size=cnt):=hIR.left_eq;clear hIR hP hQ hS hT hN9 hR9 hO9 hB9 c19;rcases HIR.out.next 0 with ⟨h0,hl0,hrun⟩ | ⟨y,qb,w2,cnt2,hly,hfy,hIR2,hlt2,hg2,hs2,hrun,hen2⟩
     ·have HTd:Hid (∀ z,Blk z p (lA r.n.nx) 3->Blk z q (lA r.n.mt) 3->Blk z s (lA r.n.se) 3->Blk z t (lA r.n.st) 3->Zs inC 1 3 z W.heap.size (.slice ga GL gc) r.n.gr->Jf z w.heap.size r (.slice ga GL gc) (.slice (some ⟨p,0,none⟩) N N) (.slice (some ⟨q,0,none⟩) N N) (.slice (some ⟨s,0,none⟩) N N) (.slice (some ⟨t,0,none⟩) N N)):=fun z h1 h2 h3 h4 h5=>by
       obtain ⟨y1,y2,y3,y4,y5,y6,y7,y8,y9,y10,y11⟩:=HXX.out;obtain ⟨⟨l1,l2,l3,l4⟩,-⟩:=HLd.out;have hNN:r.n.sz.toNat=N:=by have:=HN.out;omega
       rw [hNN] at l1 l2 l3 l4;have e1:=ownG_lA (B:=w.heap.size) h1 (by omega) (by omega);have e2:=ownG_lA (B:=w.heap.size) h2 (by omega) (by omega);have e3:=ownG_lA (B:=w.heap.size) h3 (by omega) (by omega);have e4:=ownG_lA (B:=w.heap.size) h4 (by omega) (by omega);rw [l1] at e1;rw [l2] at e2;rw [l3] at e3;rw [l4] at e4;have hog:=HOn.out;have hHs:=HHs.out;refine ⟨h5.le (by omega),e1,e2,e3,e4,?_⟩;simp only [List.pairwise_cons,List.mem_cons,List.not_mem_nil,or_false,forall_eq_or_imp,forall_eq,List.Pairwise.nil,and_true,false_imp_iff,implies_true];refine ⟨⟨?_,?_,?_,?_⟩,⟨?_,?_,?_⟩,⟨?_,?_⟩,?_⟩ <;> intro k e e' <;> simp only [Value.ownBlock,Option.some.injEq] at e e' <;> (try have h9:=(hog k e).1) <;> omega
      have HFp:Hid (Blk wr p (lA r.n.nx) 3/\Blk wr q (lA r.n.mt) 3/\Blk wr s (lA r.n.se) 3/\Blk wr t (lA r.n.st) 3):=by
       obtain ⟨⟨l1,l2,l3,l4⟩,z1,z2,z3,z4⟩:=HLd.out;have hNN:r.n.sz.toNat=N:=by have:=HN.out;omega
       rw [hNN] at l1 l2 l3 l4;have a1:=HPr.out;have a2:=HQr.out;have a3:=HSr.out;have a4:=HTr.out;rw [Z2f _ _ _ _ l1 z1 HCI.out.id0 hl0] at a1;rw [Z2f _ _ _ _ l2 z2 HCI.out.id0 hl0] at a2;rw [Z2f _ _ _ _ l3 z3 HCI.out.id0 hl0] at a3;rw [Z2f _ _ _ _ l4 z4 HCI.out.id0 hl0] at a4;exact ⟨a1,a2,a3,a4⟩
      have HNe:Hid (p≠w.heap.size/\q≠w.heap.size/\s≠w.heap.size/\t≠w.heap.size):=by have:=HXX.out;unfold Hid;omega
      clear h0 hl0
      go_wp2_with (first
       |(have hBA:=HNr;refine Zw 36 (.tmp 3) rfl ?_;clear hBA;refine Zk rfl 36 (.tmp 3) rfl (w.heap.size+1) rfl HNr.out Tryz.underlying36 rfl Ye rfl ?_)
       |(have hBA:=HRr;refine Y2 36 (.tmp 2) _ rfl ?_;clear hBA;refine Y1 rfl 36 (.tmp 2) _ rfl w.heap.size rfl rfl HRr.out Ye rfl rfl (by rw [HVl.out];simp [Value.oneCell']) ?_))
      refine bodyPost_ret (v:=.agg #[.int .i64 r.n.id,.int .i64 r.n.sz,.int .i64 r.n.el,.int .i64 r.n.bt,.int .i64 r.n.tm,.int .i64 r.n.vo,.int .i64 r.n.ro,.int .i64 r.n.ld,.int .i64 r.n.cm,.int .i64 r.n.nw,.int .i64 r.n.dl,.int .i64 r.n.hd,x.vl,.slice ga GL gc,.slice (some ⟨p,0,none⟩) N N,.slice (some ⟨q,0,none⟩) N N,.slice (some ⟨s,0,none⟩) N N,.slice (some ⟨t,0,none⟩) N N]) (Y9 Tryz.results39 rfl (HRr.out.row _) Tryz.underlying36 rfl Ye rfl) rfl ⟨_,_,_,_,_,rfl,HTd.out _ (HFp.out.1.row_other _ HNe.out.1) (HFp.out.2.1.row_other _ HNe.out.2.1) (HFp.out.2.2.1.row_other _ HNe.out.2.2.1) (HFp.out.2.2.2.row_other _ HNe.out.2.2.2) (HOr.out.block fun k e=>setRow_other _ _ _ _ (by have:=(HOr.out.lts k e).1;have:=HHs.out;omega)),J0 HBr.out (Nat.le_refl _) _⟩
     ·have HI2:Hid (IR ptV w2 x.pm w7.heap.size x.f (fun z=>lf z && !(z == y)) cnt2):=hIR2
      have hpmlt:x.pm<w.heap.size:=HR.out.pm.lt;have hs78:=HB7.out.size;have hkk:∀ k,k<wr.heap.size->k≠w7.heap.size->w2.heap[k]? = wr.heap[k]?:=fun k hk hn=>hg2.block k hk (fun e=>hn (by injection e with e))
      have h7p:p<w7.heap.size:=HP7.out.lt;have h7q:q<w7.heap.size:=HQ7.out.lt;have h7s:s<w7.heap.size:=HS7.out.lt;have h7t:t<w7.heap.size:=HT7.out.lt;have h7n:w.heap.size+1<w7.heap.size:=HN7.out.lt;have HP2:Hid (Blk w2 p (lA (Jt r.n.nx lf r.n.id N)) 3):=HPr.out.keep (hkk p HPr.out.lt (by omega));have HQ2:Hid (Blk w2 q (lA (Jt r.n.mt lf r.n.id N)) 3):=HQr.out.keep (hkk q HQr.out.lt (by omega));have HS2:Hid (Blk w2 s (lA (Jt r.n.se lf r.n.id N)) 3):=HSr.out.keep (hkk s HSr.out.lt (by omega));have HT2:Hid (Blk w2 t (lA (Jt r.n.st lf r.n.id N)) 3):=HTr.out.keep (hkk t HTr.out.lt (by omega));have HN2:Hid (Blk w2 (w.heap.size+1) _ 36):=HNr.out.keep (hkk _ HNr.out.lt (by omega));have HR2:Hid (Blk w2 w.heap.size _ 36):=HRr.out.keep (hkk _ HRr.out.lt (by omega));have HO2:Hid (Zs inC 1 3 w2 W.heap.size (.slice ga GL gc) r.n.gr):=HOr.out.block fun k e=>hkk k (HOr.out.lts k e).2 (by have:=(HOn.out k e).1;have:=HXX.out;omega)
      have HB2:Hid (Below w.heap.size w w2):=HBr.out.grown hg2 HBr.out.size (fun k e=>by injection e with e;omega);have hy:=HPk.out y qb hfy;obtain ⟨hqv,hql⟩:=HPv.out w2 y qb HB2.out hfy;obtain ⟨J,hJ⟩:∃ J:Nat,(J:Int)+1=y:=⟨(y-1).toNat,by omega⟩;have hJy:(y-1).toNat=J:=by omega
      have hJN:J<N:=by omega
      have b0:w2.cell? ⟨qb,0,none⟩=some (.int .i64 (r.n.nx.getD J 0)):=by have h9:=hqv.cell 0;unfold pgC at h9;rw [hJy] at h9;exact h9
      have b1:w2.cell? ⟨qb,1,none⟩=some (.int .i64 (r.n.mt.getD J 0)):=by have h9:=hqv.cell 1;unfold pgC at h9;rw [hJy] at h9;exact h9
      have b2:w2.cell? ⟨qb,2,none⟩=some (.int .i64 (r.n.se.getD J 0)):=by have h9:=hqv.cell 2;unfold pgC at h9;rw [hJy] at h9;exact h9
      have b3:w2.cell? ⟨qb,3,none⟩=some (.int .i64 (r.n.st.getD J 0)):=by have h9:=hqv.cell 3;unfold pgC at h9;rw [hJy] at h9;exact h9
      have a14:w2.cell? ⟨w.heap.size+1,14,none⟩=some (.slice (some ⟨p,0,none⟩) N N):=HN2.out.cell 14;have a15:w2.cell? ⟨w.heap.size+1,15,none⟩=some (.slice (some ⟨q,0,none⟩) N N):=HN2.out.cell 15;have a16:w2.cell? ⟨w.heap.size+1,16,none⟩=some (.slice (some ⟨s,0,none⟩) N N):=HN2.out.cell 16;have a17:w2.cell? ⟨w.heap.size+1,17,none⟩=some (.slice (some ⟨t,0,none⟩) N N):=HN2.out.cell 17;obtain ⟨up,rp⟩:∃ u,w2.cell? ⟨p,J,none⟩=some u:=⟨_,(HP2.out.cell J).trans (Array.getElem?_eq_getElem (by rw [Z29,Z2i];exact hJN))⟩;obtain ⟨uq,rq⟩:∃ u,w2.cell? ⟨q,J,none⟩=some u:=⟨_,(HQ2.out.cell J).trans (Array.getElem?_eq_getElem (by rw [Z29,Z2i];exact hJN))⟩;obtain ⟨us,rs⟩:∃ u,w2.cell? ⟨s,J,none⟩=some u:=⟨_,(HS2.out.cell J).trans (Array.getElem?_eq_getElem (by rw [Z29,Z2i];exact hJN))⟩;obtain ⟨ut,rt⟩:∃ u,w2.cell? ⟨t,J,none⟩=some u:=⟨_,(HT2.out.cell J).trans (Array.getElem?_eq_getElem (by rw [Z29,Z2i];exact hJN))⟩;have fp:w2.frozen? ⟨p,J,none⟩=false:=HP2.out.free J;have fq:w2.frozen? ⟨q,J,none⟩=false:=HQ2.out.free J;have fs:w2.frozen? ⟨s,J,none⟩=false:=HS2.out.free J;have ft:w2.frozen? ⟨t,J,none⟩=false:=HT2.out.free J;obtain ⟨y1,y2,y3,y4,y5,y6,y7,y8,y9,y10,y11⟩:=HXX.out;have g1:¬ p=q:=y3;have g2:¬ q=p:=fun e=>y3 e.symm
      have g3:¬ p=s:=by omega
      have g4:¬ s=p:=by omega
      have g5:¬ p=t:=by omega
      have g6:¬ t=p:=by omega
      have g7:¬ q=s:=by omega
      have g8:¬ s=q:=by omega
      have g9:¬ q=t:=by omega
      have g10:¬ t=q:=by omega
      have g11:¬ s=t:=y8;have g12:¬ t=s:=fun e=>y8 e.symm
      generalize hwz:((((w2.setCell ⟨p,J,none⟩ (.int .i64 (r.n.nx.getD J 0))).setCell ⟨q,J,none⟩ (.int .i64 (r.n.mt.getD J 0))).setCell ⟨s,J,none⟩ (.int .i64 (r.n.se.getD J 0))).setCell ⟨t,J,none⟩ (.int .i64 (r.n.st.getD J 0))).drew=wz
      have hfar:∀ k,k≠p->k≠q->k≠s->k≠t->wz.heap[k]? = w2.heap[k]?:=fun k h1 h2 h3 h4=>by
       rw [<-hwz];exact (Below.heap_setCell _ ⟨t,J,none⟩ _ k h4).trans ((Below.heap_setCell _ ⟨s,J,none⟩ _ k h3).trans ((Below.heap_setCell _ ⟨q,J,none⟩ _ k h2).trans (Below.heap_setCell _ ⟨p,J,none⟩ _ k h1)))
      have hmix:∀ v,lA (Jt v (fun z=>lf z && !(z == y)) r.n.id N)=(lA (Jt v lf r.n.id N)).setIfInBounds J (.int .i64 (v.getD J 0)):=fun v=>by
       rw [lA_set,mixL_step _ _ _ _ _ hy.1 hy.2.1 hy.2.2,hJy]
      have HIz:Hid (IR ptV wz x.pm w7.heap.size x.f (fun z=>lf z && !(z == y)) cnt2):=HI2.out.keep (hfar _ (by omega) (by omega) (by omega) (by omega)) (hfar _ (by omega) (by omega) (by omega) (by omega))
      have HPz:Hid (Blk wz p (lA (Jt r.n.nx (fun z=>lf z && !(z == y)) r.n.id N)) 3):=by
       rw [hmix,<-hwz];exact (((HP2.out.set J _).set_other (p:=⟨q,J,none⟩) _ g1).set_other (p:=⟨s,J,none⟩) _ g3).set_other (p:=⟨t,J,none⟩) _ g5
      have HQz:Hid (Blk wz q (lA (Jt r.n.mt (fun z=>lf z && !(z == y)) r.n.id N)) 3):=by
       rw [hmix,<-hwz];exact (((HQ2.out.set_other (p:=⟨p,J,none⟩) _ g2).set J _).set_other (p:=⟨s,J,none⟩) _ g7).set_other (p:=⟨t,J,none⟩) _ g9
      have HSz:Hid (Blk wz s (lA (Jt r.n.se (fun z=>lf z && !(z == y)) r.n.id N)) 3):=by
       rw [hmix,<-hwz];exact (((HS2.out.set_other (p:=⟨p,J,none⟩) _ g4).set_other (p:=⟨q,J,none⟩) _ g8).set J _).set_other (p:=⟨t,J,none⟩) _ g11
      have HTz:Hid (Blk wz t (lA (Jt r.n.st (fun z=>lf z && !(z == y)) r.n.id N)) 3):=by
       rw [hmix,<-hwz];exact (((HT2.out.set_other (p:=⟨p,J,none⟩) _ g6).set_other (p:=⟨q,J,none⟩) _ g10).set_other (p:=⟨s,J,none⟩) _ g12).set J _
      have HNz:Hid (Blk wz (w.heap.size+1) _ 36):=HN2.out.keep (hfar _ (by omega) (by omega) (by omega) (by omega));have HRz:Hid (Blk wz w.heap.size _ 36):=HR2.out.keep (hfar _ (by omega) (by omega) (by omega) (by omega));have HOz:Hid (Zs inC 1 3 wz W.heap.size (.slice ga GL gc) r.n.gr):=HO2.out.block fun k e=>by have h9:=HOn.out k e;exact hfar k (by omega) (by omega) (by omega) (by omega)
      have HBz:Hid (Below w.heap.size w wz):=by
       rw [<-hwz];exact ((((HB2.out.setCell (p:=⟨p,J,none⟩) (show w.heap.size<=p by omega) _).setCell (p:=⟨q,J,none⟩) (show w.heap.size<=q by omega) _).setCell (p:=⟨s,J,none⟩) (show w.heap.size<=s by omega) _).setCell (p:=⟨t,J,none⟩) (show w.heap.size<=t by omega) _).drew
      have HLz:Hid (wz.rangeLeft x.pm w7.heap.size<wr.rangeLeft x.pm w7.heap.size):=by
       have h1:=HIz.out.left_eq;have h2:=HLeft.out;unfold Hid;omega
      have HWz:Hid (((((w2.setCell ⟨p,J,none⟩ (.int .i64 (r.n.nx.getD J 0))).setCell ⟨q,J,none⟩ (.int .i64 (r.n.mt.getD J 0))).setCell ⟨s,J,none⟩ (.int .i64 (r.n.se.getD J 0))).setCell ⟨t,J,none⟩ (.int .i64 (r.n.st.getD J 0))).drew=wz):=hwz;clear hwz hfar hmix;have HNn:Hid (¬ p=w.heap.size+1/\¬ q=w.heap.size+1/\¬ s=w.heap.size+1/\¬ t=w.heap.size+1/\¬ p=qb/\¬ q=qb/\¬ s=qb/\¬ t=qb):=by unfold Hid;omega
      unfold ptV at hrun hen2;have hw1:IntKind.i64.wrap ((J:Int)+1-1)=(J:Int):=by rw [IntKind.wrap_i64];omega
      have hw0:IntKind.i64.wrap (J:Int)=(J:Int):=by rw [IntKind.wrap_i64];omega
      have hj0:(0:Int)<=(J:Int):=by omega
      have hj1:(J:Int)<(N:Int):=by omega
      have hj2:((J:Int)).toNat=J:=by omega
      rw [<-hJ] at hrun hen2;clear hIR2 hlt2 hg2 hly hfy hkk hy hqv hJy y1 y2 y3 y4 y5 y6 y7 y8 y9 y10 y11 hJ;generalize r.n.nx.getD J 0=V0 at *;generalize r.n.mt.getD J 0=V1 at *;generalize r.n.se.getD J 0=V2 at *;generalize r.n.st.getD J 0=V3 at *;have n1:¬ p=w.heap.size+1:=HNn.out.1;have n2:¬ q=w.heap.size+1:=HNn.out.2.1;have n3:¬ s=w.heap.size+1:=HNn.out.2.2.1;have n4:¬ t=w.heap.size+1:=HNn.out.2.2.2.1;have n5:¬ p=qb:=HNn.out.2.2.2.2.1;have n6:¬ q=qb:=HNn.out.2.2.2.2.2.1;have n7:¬ s=qb:=HNn.out.2.2.2.2.2.2.1;have n8:¬ t=qb:=HNn.out.2.2.2.2.2.2.2;have n1':¬ w.heap.size+1=p:=fun e=>n1 e.symm
      have n2':¬ w.heap.size+1=q:=fun e=>n2 e.symm
      have n3':¬ w.heap.size+1=s:=fun e=>n3 e.symm
      have n4':¬ w.heap.size+1=t:=fun e=>n4 e.symm
      have n5':¬ qb=p:=fun e=>n5 e.symm
      have n6':¬ qb=q:=fun e=>n6 e.symm
      have n7':¬ qb=s:=fun e=>n7 e.symm
      have n8':¬ qb=t:=fun e=>n8 e.symm
      go_upto_region 10 with fail
      go_region_held3 (fun z=>z.cell? ⟨w.heap.size+1,14,none⟩=some (.slice (some ⟨p,0,none⟩) N N)/\z.cell? ⟨w.heap.size+1,15,none⟩=some (.slice (some ⟨q,0,none⟩) N N)/\z.cell? ⟨w.heap.size+1,16,none⟩=some (.slice (some ⟨s,0,none⟩) N N)/\z.cell? ⟨w.heap.size+1,17,none⟩=some (.slice (some ⟨t,0,none⟩) N N)/\z.cell? ⟨qb,0,none⟩=some (.int .i64 V0)/\z.cell? ⟨qb,1,none⟩=some (.int .i64 V1)/\z.cell? ⟨qb,2,none⟩=some (.int .i64 V2)/\z.cell? ⟨qb,3,none⟩=some (.int .i64 V3)) (go_keep) (fail)
      rw [HWz.out]
      go_wp2_with fail
      go_roundw
      case rel=>exact ⟨_,_,HIz.out,HPz.out,HQz.out,HSz.out,HTz.out,HNz.out,HRz.out,HOz.out,HBz.out⟩
      case measure=>exact HLz.out
 ·have hrb:(r.n.ro != 3)=true:=by simpa using hro
  have HTd:Hid (∀ z,Zs inC 1 3 z w.heap.size (.slice ga GL gc) r.n.gr->Jf z w.heap.size r (.slice ga GL gc) (.slice none 0 0) (.slice none 0 0) (.slice none 0 0) (.slice none 0 0)):=fun z hz=>by
   obtain ⟨e1,e2,e3,e4⟩:=HCI.out.nl hro;refine ⟨hz,?_,?_,?_,?_,?_⟩
   ·rw [e1];exact Zs.nil _ _ _ _ _
   ·rw [e2];exact Zs.nil _ _ _ _ _
   ·rw [e3];exact Zs.nil _ _ _ _ _
   ·rw [e4];exact Zs.nil _ _ _ _ _
   ·simp only [List.pairwise_cons,List.mem_cons,List.not_mem_nil,or_false,forall_eq_or_imp,forall_eq,List.Pairwise.nil,and_true,false_imp_iff,implies_true]
    exact ⟨⟨(Jk _).symm,(Jk _).symm,(Jk _).symm,(Jk _).symm⟩,⟨Jk _,Jk _,Jk _⟩,⟨Jk _,Jk _⟩,Jk _⟩
  have HHz:Hid (w.heap.size<W.heap.size):=by have:=HHs.out;unfold Hid;omega
  clear hro
  go_wp2_with (first
   |(have hBA:=HN5;refine Zw 36 (.tmp 3) rfl ?_;clear hBA;refine Zk rfl 36 (.tmp 3) rfl (w.heap.size+1) rfl HN5.out Tryz.underlying36 rfl Ye rfl ?_)
   |(have hBA:=HR5;refine Y2 36 (.tmp 2) _ rfl ?_;clear hBA;refine Y1 rfl 36 (.tmp 2) _ rfl w.heap.size rfl rfl HR5.out Ye rfl rfl (by rw [HVl.out];simp [Value.oneCell']) ?_))
  refine bodyPost_ret (v:=.agg #[.int .i64 r.n.id,.int .i64 r.n.sz,.int .i64 r.n.el,.int .i64 r.n.bt,.int .i64 r.n.tm,.int .i64 r.n.vo,.int .i64 r.n.ro,.int .i64 r.n.ld,.int .i64 r.n.cm,.int .i64 r.n.nw,.int .i64 r.n.dl,.int .i64 r.n.hd,x.vl,.slice ga GL gc,.slice none 0 0,.slice none 0 0,.slice none 0 0,.slice none 0 0]) (Y9 Tryz.results39 rfl (HR5.out.row _) Tryz.underlying36 rfl Ye rfl) rfl ⟨_,_,_,_,_,rfl,HTd.out _ (Zs.le (HO5.out.block fun k e=>setRow_other _ _ _ _ (by have:=(HO5.out.lts k e).1;have:=HHz.out;omega)) (Nat.le_of_lt HHz.out)),J0 HB5.out (Nat.le_refl _) _⟩
end Go.Proofs.YtmmpoppgabadmaaGreat
