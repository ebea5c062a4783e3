import Derived.Test.YtmmpoppgabadmaaGreatG18
import Derived.Laws.MakeOwn
import Derived.Test.YtmmpoppgabadmaaGreatG16
set_option linter.unusedVariables false
set_option linter.unusedSimpArgs false
set_option maxRecDepth 100000
set_option maxHeartbeats 16000000
open Go.Value renaming slice → I,int → Aa,pointer → Ae
open Go.IntKind renaming i64 → O
open _root_.Option renaming none → Ab,some → Ac
open Go.RowKit renaming Hid → Ah,Below → Ai
open Go.RowKit.Below renaming heap_setCell → Ak
open _root_.List renaming getElem?_eq_getElem → As,getD_eq_getElem?_getD → Ba,getElem_mem → Bp,length_map → B8
namespace Go.Proofs.YtmmpoppgabadmaaGreat
open Go.Proofs.Tryz
open Go.RowKit Go.Maps
def lA (l:List Int):Array Value:=(l.map (Value.int O)).toArray
theorem lA_set (l:List Int)(j:Nat)(v:Int):(lA l).setIfInBounds j (Aa O v)=lA (l.set j v):=by
 unfold lA;rw [List.setIfInBounds_toArray,List.map_set]
theorem Z67 (l:List Int):(lA l).size=l.length:=by simp [lA]
def Z8t (v:List Int)(lf:Int->Bool)(id:Int)(N:Nat):List Int:=(List.range N).map λ(i:Nat)=>if lf ((i:Int)+1)=true∨(i:Int)+1=id then 0 else v.getD i 0
theorem Z5q (v:List Int)(a:Int->Bool)(id:Int)(N:Nat):(Z8t v a id N).length=N:=by simp [Z8t]
theorem Z4b (v:List Int)(a:Int->Bool)(id:Int)(N:Nat)(h:∀ y:Int,1<=y->y<=N->y≠id->a y=true):Z8t v a id N=List.replicate N 0:=by
 unfold Z8t;refine List.ext_getElem (by simp) λi h1 h2=>?_
 simp only [B8,List.length_range] at h1;simp only [List.getElem_map,List.getElem_range,List.getElem_replicate];rw [if_pos];by_cases e:(i:Int)+1=id
 ·exact .inr e
 ·exact .inl (h _ (by omega) (by omega) e)
theorem Z62 (v:List Int)(a:Int->Bool)(id:Int)(N:Nat)(d:v.length=N)(hi:v.getD (id-1).toNat 0=0)(c:1<=id)(h:∀ y:Int,a y=false):Z8t v a id N=v:=by
 unfold Z8t;refine List.ext_getElem (by simp [d]) λi h1 h2=>?_
 simp only [B8,List.length_range] at h1;simp only [List.getElem_map,List.getElem_range];have b:v.getD i 0=v[i]:=by rw [Ba,As h2];rfl
 by_cases e:(i:Int)+1=id
 ·rw [if_pos (.inr e),<-b]
  rw [show (id-1).toNat=i by omega] at hi;exact hi.symm
 ·rw [if_neg (by rintro (h9 | h9);rw [h] at h9;cases h9;exact e h9)]
  exact b
theorem mixL_step (v:List Int)(a:Int->Bool)(id:Int)(N:Nat)(y:Int)(d:1<=y)(c:y<=N)(b:y≠id):Z8t v (λz=>a z && !(z == y)) id N=(Z8t v a id N).set (y-1).toNat (v.getD (y-1).toNat 0):=by
 unfold Z8t;refine List.ext_getElem (by simp) λi hi1 hi2=>?_
 simp only [B8,List.length_range] at hi1;rw [List.getElem_set];simp only [List.getElem_map,List.getElem_range];by_cases e:(y-1).toNat=i
 ·rw [if_pos e]
  have e2:(i:Int)+1=y:=by omega
  rw [e2];simp only [beq_self_eq_true,Bool.not_true,Bool.and_false,Bool.false_eq_true,false_or,b,if_false];rw [e]
 ·rw [if_neg e]
  have e2:(((i:Int)+1) == y)=false:=by rw [beq_eq_false_iff_ne];omega
  simp only [e2,Bool.not_false,Bool.and_true]
theorem gC_inI:∀ l:List Int,gC inC l=l.map (Value.int O)
 | []=>rfl
 | a :: l=>by show inC a ++ gC inC l=_;rw [gC_inI l];rfl
theorem ownG_lA {w:World}{B p:Nat}{l:List Int}(h:Blk w p (lA l) 3)(a:B<=p)(b:l.length<=1000):Zc inC 1 3 w B (I (Ac ⟨p,0,Ab⟩) l.length l.length) l:=by
 refine ⟨by rw [gC_inI];simp,.inr ⟨p,l.length,lA l,rfl,a,h,Nat.le_refl _,by unfold maxLen;omega,by rw [Z67];omega,?_⟩⟩;rw [gC_inI];unfold lA;rw [List.toList_toArray,Nat.mul_one,List.take_of_length_le (by simp)]
theorem made_lA (N:Nat):madeCells #[Value.int O 0] N=lA (List.replicate N 0):=by
 unfold madeCells lA;apply Array.ext
 ·simp
 ·intro i a b
  simp [Nat.mod_one]
theorem run_mkInts (u:World)(N:Nat)(f:N<=7):(Instr.makeSlice 23 (Aa O (N:Int)) (Aa O (N:Int))).run Tryz.prog u=.ok (I (Ac ⟨u.heap.size,0,Ab⟩) N N) (u.alloc (.cells (lA (List.replicate N 0)) 3)):=by
 obtain ⟨d,hi,b,a,c⟩:=info_parts (show (Tryz.prog.info? 3).map (λi=>(i.zero,i.size,i.bytes))=Ac (Ac (Aa O 0),1,8) by kernel_rfl);have e:=run_make (P:=Tryz.prog) u 23 3 d _ underlying23 hi b O O (N:Int) (N:Int) (by omega) (Int.le_refl _) (by rw [c];omega) (by omega);rw [e,a];simp only [Int.toNat_natCast,Nat.mul_one];have:(Value.int IntKind.i64 0).cells=#[Value.int O 0]:=rfl;rw [this,made_lA]
end Go.Proofs.YtmmpoppgabadmaaGreat
namespace Go.Proofs.YtmmpoppgabadmaaGreat
open Go.Proofs.Tryz
open Go.RowKit Go.Maps
theorem gr_le {l:List Int}(h:l.Pairwise (· < ·))(d:∀ y∈l,1<=y/\y<=7):l.length<=1000:=by
 have g:∀(l:List Int) (lo:Int),l.Pairwise (· < ·)->(∀ y∈l,lo<y/\y<=7)->lo<=7->(l.length:Int)<=7-lo:=by
  intro l
  induction l with
  | nil=>intro lo _ _ h;simp;omega
  | cons a l ih=>
   intro lo c b e;have f:=b a (by simp);have:=ih a (List.Pairwise.of_cons c) (λy hy'=>⟨List.rel_of_pairwise_cons c hy',(b y (by simp [hy'])).2⟩) f.2;simp only [List.length_cons];omega
 have:=g l 0 h (λy b=>⟨by have:=(d y b).1;omega,(d y b).2⟩) (by omega);omega
theorem IM.madeAt {γ:Type}{vl:γ->Value}{w:World}{k:Nat}(h:k=w.heap.size):IM vl (w.alloc (.map #[] 0)) k (λ_=>(Ab:Option γ)):=by subst h;exact IM.made w
theorem coreOf_any (n:Nd)(a12 a13 a14 a15 a16 a17:Option Addr)(c12 c13 c14 c15 c16 c17:Nat)(w:World)(aw:Es w (I a12 n.log.length c12) n.log)(av:n.log.length<=1048576)(bd:Ix w (I a13 n.gr.length c13) n.gr)(bw:Ix w (I a14 n.nx.length c14) n.nx)(bk:Ix w (I a15 n.mt.length c15) n.mt)(bp:Ix w (I a16 n.se.length c16) n.se)(bj:Ix w (I a17 n.st.length c17) n.st)(hc:CI n) :
  Calls Tryz.prog 37 #[.agg (n.arrC (I a12 n.log.length c12) (I a13 n.gr.length c13) (I a14 n.nx.length c14) (I a15 n.mt.length c15) (I a16 n.se.length c16) (I a17 n.st.length c17))] w λe w'=>∃ b x,e=.returned (Ae (Ac ⟨b,0,Ab⟩))/\Z9 w' w.heap.size b (rn0 n) x/\x.L = []/\Ai w.heap.size w w':=by
 have du:=@run_makeMap Tryz.prog;have HG:=Z0 bd;have HX:Ah (Ix w (I a14 n.nx.length c14) n.nx/\Ix w (I a15 n.mt.length c15) n.mt/\Ix w (I a16 n.se.length c16) n.se/\Ix w (I a17 n.st.length c17) n.st):=⟨bw,bk,bp,bj⟩;have HC:=Z0 hc;have bu:=Z0 (gr_le hc.gr1 (λy hy=>⟨(hc.gr2 y hy).1,by have:=(hc.gr2 y hy).2;have:=hc.sz1;omega⟩));obtain ⟨W,hW⟩:=exq ((((w.alloc (.cells (n.arrC (I a12 n.log.length c12) (I a13 n.gr.length c13) (I a14 n.nx.length c14) (I a15 n.mt.length c15) (I a16 n.se.length c16) (I a17 n.st.length c17)) 36)).alloc (.map #[] 0)).alloc (.map #[] 0)).alloc (.cells #[Aa O n.id,Aa O n.sz,Aa O n.el,Aa O n.bt,Aa O n.tm,Aa O n.vo,Aa O n.ro,Aa O n.ld,Aa O n.cm,Aa O n.nw,Aa O n.dl,Aa O n.hd,I a12 n.log.length c12,I a13 n.gr.length c13,I a14 n.nx.length c14,I a15 n.mt.length c15,I a16 n.se.length c16,I a17 n.st.length c17,.map (Ac (w.heap.size+1)),.map (Ac (w.heap.size+1+1)),Aa O 0,Aa O 0,Aa O 0,I Ab 0 0] 80));have HW:=Z0 hW;have ax:Ah (Blk (w.alloc (.cells (n.arrC (I a12 n.log.length c12) (I a13 n.gr.length c13) (I a14 n.nx.length c14) (I a15 n.mt.length c15) (I a16 n.se.length c16) (I a17 n.st.length c17)) 36)) w.heap.size (n.arrC (I a12 n.log.length c12) (I a13 n.gr.length c13) (I a14 n.nx.length c14) (I a15 n.mt.length c15) (I a16 n.se.length c16) (I a17 n.st.length c17)) 36):=Blk.new _ _ _;have u:Ah (Blk W (w.heap.size+1+1+1) #[Aa O n.id,Aa O n.sz,Aa O n.el,Aa O n.bt,Aa O n.tm,Aa O n.vo,Aa O n.ro,Aa O n.ld,Aa O n.cm,Aa O n.nw,Aa O n.dl,Aa O n.hd,I a12 n.log.length c12,I a13 n.gr.length c13,I a14 n.nx.length c14,I a15 n.mt.length c15,I a16 n.se.length c16,I a17 n.st.length c17,.map (Ac (w.heap.size+1)),.map (Ac (w.heap.size+1+1)),Aa O 0,Aa O 0,Aa O 0,I Ab 0 0] 80):=hW▸Blk.new' _ _ _ (by simp)
 have aj:Ah (Blk W w.heap.size (n.arrC (I a12 n.log.length c12) (I a13 n.gr.length c13) (I a14 n.nx.length c14) (I a15 n.mt.length c15) (I a16 n.se.length c16) (I a17 n.st.length c17)) 36):=hW▸(((Blk.new _ _ _).alloc _).alloc _).alloc _
 have a0:Ah (IM unV W (w.heap.size+1) (grF [])):=by
  have e:grF []=λ_=>Ab:=by funext y;simp [grF]
  unfold Ah;rw [hW,e];exact ((IM.madeAt (by simp)).alloc _).alloc _
 have a4:Ah (IM ptV W (w.heap.size+1+1) (λ_=>Ab)):=by
  unfold Ah;rw [hW];exact (IM.madeAt (by simp)).alloc _
 have a5:Ah (Ai w.heap.size w W):=by
  unfold Ah;rw [hW];exact ((baq.alloc (by simp) _).alloc (by simp;omega) _).alloc (by simp;omega) _
 have bi:=Z0 (Z7y _ _ W (aw.below a5) av);have dd:Ah (W.heap.size=w.heap.size+4):=by unfold Ah;rw [hW];simp
 clear aw bd bw bk bp bj hc av hW;go_enter func37,ntmps37
 go_upto_region 2 with (first
   |(have ay:=ax;refine Zd 36 _ rfl ?_;clear ay;refine Z7 rfl 36 _ rfl _ rfl ax underlying36 rfl Z0q rfl ?_))
 rw [<-HW.out];clear HW ax;generalize hb:w.heap.size+1+1+1=b at *;generalize hp:w.heap.size+1+1=p at *;generalize hg:w.heap.size+1=g at *;have d:Ah (w.heap.size<g/\g<p/\p<b):=by unfold Ah;omega
 clear hb hp hg;have e12:=aj.cell 12
 go_upto_region 3 with (first
   |(go_at_call 80;refine Calls.mono bi ?_;rintro e w3 ⟨v3,rfl,ba,an⟩;obtain ⟨la,lc,rfl⟩:=ba.shape;have bx:=Z0 ba;have aa:=Z0 an;have dm:=(u.below an u.lt).cell 12;have cd:=(u.below an u.lt).free 12;clear ba an))
 have cg:Ah (PreK (w3.setCell ⟨b,12,Ab⟩ (I la n.log.length lc)) w.heap.size b #[Aa O n.id,Aa O n.sz,Aa O n.el,Aa O n.bt,Aa O n.tm,Aa O n.vo,Aa O n.ro,Aa O n.ld,Aa O n.cm,Aa O n.nw,Aa O n.dl,Aa O n.hd,I la n.log.length lc,I a13 n.gr.length c13,I a14 n.nx.length c14,I a15 n.mt.length c15,I a16 n.se.length c16,I a17 n.st.length c17,.map (Ac g),.map (Ac p),Aa O 0,Aa O 0,Aa O 0,I Ab 0 0] n (I la n.log.length lc) g p [] (λ_=>Ab) []):=by
  have bz:=u.below aa u.lt;have h9:=d.out;have h8:=dd.out;have h3:PreK w3 w.heap.size b #[Aa O n.id,Aa O n.sz,Aa O n.el,Aa O n.bt,Aa O n.tm,Aa O n.vo,Aa O n.ro,Aa O n.ld,Aa O n.cm,Aa O n.nw,Aa O n.dl,Aa O n.hd,I a12 n.log.length c12,I a13 n.gr.length c13,I a14 n.nx.length c14,I a15 n.mt.length c15,I a16 n.se.length c16,I a17 n.st.length c17,.map (Ac g),.map (Ac p),Aa O 0,Aa O 0,Aa O 0,I Ab 0 0] n (I la n.log.length lc) g p [] (λ_=>Ab) []:=⟨bz,by omega,bx.le (by omega),a0.keep (aa.block _ a0.lt),by omega,a4.keep (aa.block _ a4.lt),by omega,by omega,(λy q e=>by cases e),(λy z q e=>by cases e),(λy=>by simp)⟩;exact h3.row (bz.set 12 _) (λk m=>Ak _ _ _ _ m)
 have ca:Ah (Blk (w3.setCell ⟨b,12,Ab⟩ (I la n.log.length lc)) w.heap.size (n.arrC (I a12 n.log.length c12) (I a13 n.gr.length c13) (I a14 n.nx.length c14) (I a15 n.mt.length c15) (I a16 n.se.length c16) (I a17 n.st.length c17)) 36):=(aj.below aa aj.lt).set_other _ (show w.heap.size≠b by have:=d.out;omega);have cw:Ah (Ai w.heap.size w (w3.setCell ⟨b,12,Ab⟩ (I la n.log.length lc))):=(a5.trans (aa.mono a5.size)).setCell (p:=⟨b,12,Ab⟩) (show w.heap.size<=b by have:=d.out;omega) _;generalize w3.setCell ⟨b,12,Ab⟩ (I la n.log.length lc)=w4 at *;clear e12 dm cd bi u aj a0 a4 bx aa;have cf:Ah (∀ z,Ai w.heap.size w z->Ix z (I a13 n.gr.length c13) n.gr):=λz hz=>HG.below hz
 have e13:=ca.cell 13;clear HG
 go_wp2_with fail
 clear e13
 go_loopw [5,24] (λ_ iv wr=>∃ k:Nat,k<=n.gr.length/\iv=Aa O (k:Int)/\PreK wr w.heap.size b #[Aa O n.id,Aa O n.sz,Aa O n.el,Aa O n.bt,Aa O n.tm,Aa O n.vo,Aa O n.ro,Aa O n.ld,Aa O n.cm,Aa O n.nw,Aa O n.dl,Aa O n.hd,I la n.log.length lc,I a13 n.gr.length c13,I a14 n.nx.length c14,I a15 n.mt.length c15,I a16 n.se.length c16,I a17 n.st.length c17,.map (Ac g),.map (Ac p),Aa O 0,Aa O 0,Aa O 0,I Ab 0 0] n (I la n.log.length lc) g p (n.gr.take k) (λ_=>Ab) []/\Blk wr w.heap.size (n.arrC (I a12 n.log.length c12) (I a13 n.gr.length c13) (I a14 n.nx.length c14) (I a15 n.mt.length c15) (I a16 n.se.length c16) (I a17 n.st.length c17)) 36/\Ai w.heap.size w wr) (λ_ iv _=>n.gr.length-(RowKit.intOf iv).toNat)
 case atStart=>exact ⟨0,Nat.zero_le _,rfl,cg.out,ca.out,cw.out⟩
 case round=>
  obtain ⟨k,m,rfl,hK,hN,hB⟩:=hrel;have HK:=Z0 hK;have HN:=Z0 hN;have HB:=Z0 hB;have ak:=cf.out wr hB;clear hK hN hB;by_cases ae:k<n.gr.length
  ·obtain ⟨gb,dh,rfl,Xc⟩:=ix_at ak k ae
   have b2:decide ((k:Int)<(n.gr.length:Int))=true:=decide_eq_true (by omega);have h1:(k:Int)<(n.gr.length:Int):=by omega
   have cv:=HC.gr2 _ (Bp ae);have de:=HC.sz1;have a8:=wf3 (x:=n.gr[k]) (by omega) (by omega);have dw:=bu.out;have c4:IntKind.i64.wrap ((k:Int)+1)=(k:Int)+1:=wry
   have bb:=Z0 (List.take_succ_eq_append_getElem ae)
   have b3:Ah ((n.gr.take k).Nodup/\(n.gr.take k).length<1000000):=⟨(HC.gr1.imp (λh=>by omega)).sublist (List.take_sublist _ _),by
    have h9:=bu.out;rw [List.length_take];omega⟩
   have e18:=HK.blk.cell 18;clear ak cv de;generalize hy:n.gr[k]=y at *;clear hy
   go_wp2_with (first
    |(at_mapUpdate;go_loud (refine Z6m (γ:=Unit) _ rfl _ _ _ 77 rfl 121 underlying77 g rfl HK.gm _ b3.1 (Z30 _) b3.2 y a8 () rfl rfl ?_;intro w1 bo ah;have a6:=HK.gput ah bo;rw [<-bb.out] at a6;have cy:Ah _:=a6;clear a6;have ct:Ah _:=HN.keep (ah.block _ HN.lt (λe=>by injection e with e;have:=d.out;omega));have db:=Z0 (HB.grown ah HB.size (λk e=>by injection e with e;have:=d.out;omega));clear bo ah)))
   go_roundw
   case rel=>exact ⟨k+1,by omega,by go_num,cy.out,ct.out,db.out⟩
   case measure=>simp [RowKit.intOf];omega
  ·obtain rfl:k=n.gr.length:=by omega
   have b2:decide ((n.gr.length:Int)<(n.gr.length:Int))=false:=decide_eq_false (by omega);have az:=HK.out;rw [List.take_length] at az;have a:=Z0 az;have e6:=HN.cell 6;clear az ak;by_cases r:n.ro=3
   ·have co:(n.ro == 3)=true:=by simpa using r
    obtain ⟨wo,cn⟩:=exq (wr);subst cn;have z0:=HC.sz0;have z1:=HC.sz1;obtain ⟨N,hN⟩:∃ N:Nat,n.sz=(N:Int):=⟨n.sz.toNat,by omega⟩;have au:n.sz.toNat=N:=by omega
    have dq:3<=N:=by omega
    have am:N<=7:=by omega
    have a2:Ah ((oth n.id N).length=N-1):=by have h9:=Z2y n.id n.sz HC.id0 HC.id1;rw [au] at h9;exact h9
    have ar:=Z0 λy=>Z5y n.id y N
    have aq:=Z0 (Z49 n.id N);have HI:=Z0 (Z3c n.id HC.id0 N);have a3:Ah (∀ y:Int,y∈(oth n.id N)↔(n.ro=3/\1<=y/\y<=n.sz/\y≠n.id)):=λy=>by rw [ar.out y,hN];exact ⟨(λh=>⟨r,h⟩),(λh=>h.2)⟩
    have c3:Ah (n.nx.length=N/\n.mt.length=N/\n.se.length=N/\n.st.length=N):=by have h9:=(HC.ld r).1;rw [au] at h9;exact h9
    have c1:Ah (∀(z:World) (K:Nat),K<N->Ai w.heap.size w z->Calls Tryz.prog 82 #[.agg (n.arrC (I a12 n.log.length c12) (I a13 n.gr.length c13) (I a14 n.nx.length c14) (I a15 n.mt.length c15) (I a16 n.se.length c16) (I a17 n.st.length c17)),Aa O ((K:Int)+1)] z λe w'=>e=.returned (.agg (pgC n ((K:Int)+1)))/\Ai z.heap.size z w'):=λz K hK hz=>by
     obtain ⟨l1,l2,l3,l4⟩:=c3.out;obtain ⟨x1,x2,x3,x4⟩:=HX.out;have h9:=Z8s n.id n.sz n.el n.bt n.tm n.vo n.ro n.ld n.cm n.nw n.dl n.hd a12 a13 a14 a15 a16 a17 c12 c13 c14 c15 c16 c17 n.log n.gr n.nx n.mt n.se n.st z K (x1.below hz) (x2.below hz) (x3.below hz) (x4.below hz) (by omega) (by omega) (by omega) (by omega) (by omega);refine h9.mono ?_;rintro e w' ⟨rfl,hb⟩;refine ⟨?_,hb⟩;unfold pgC;rw [show ((K:Int)+1-1).toNat=K by omega];simp only [Ba,As (show K<n.nx.length by omega),As (show K<n.mt.length by omega),As (show K<n.se.length by omega),As (show K<n.st.length by omega),Option.getD_some]
    have dc:=Z0 (Z6y b n.id N wo (a.blk.cell 0) (hN▸a.blk.cell 1) a.blk.lt HC.id0 (hN▸HC.id1));clear r z0 z1 hN au
    go_wp2_with (first
     |(go_at_call 81;refine Calls.mono dc ?_;rintro e w5 ⟨oa,oc,rfl,b8,bq⟩;have cu:=Z0 b8;have a9:=Z0 bq;clear b8 bq))
    clear e6
    go_loopw [7,8,41] (λ_ _ iv wr=>∃(i:Nat) (f:Int->Option Nat),i<=N-1/\iv=Aa O (i:Int)/\PreK wr w.heap.size b #[Aa O n.id,Aa O n.sz,Aa O n.el,Aa O n.bt,Aa O n.tm,Aa O n.vo,Aa O n.ro,Aa O n.ld,Aa O n.cm,Aa O n.nw,Aa O n.dl,Aa O n.hd,I la n.log.length lc,I a13 n.gr.length c13,I a14 n.nx.length c14,I a15 n.mt.length c15,I a16 n.se.length c16,I a17 n.st.length c17,.map (Ac g),.map (Ac p),Aa O 0,Aa O 0,Aa O 0,I Ab 0 0] n (I la n.log.length lc) g p n.gr f ((oth n.id N).take i)/\Blk wr w.heap.size (n.arrC (I a12 n.log.length c12) (I a13 n.gr.length c13) (I a14 n.nx.length c14) (I a15 n.mt.length c15) (I a16 n.se.length c16) (I a17 n.st.length c17)) 36/\Ai w.heap.size w wr/\Zc inC 1 3 wr wo.heap.size (I oa (N-1) oc) (oth n.id N)) (λ_ _ iv _=>N-(RowKit.intOf iv).toNat)
    case atStart=>exact ⟨0,_,Nat.zero_le _,rfl,a.below a9,HN.below a9 HN.lt,HB.trans (a9.mono HB.size),cu.out⟩
    case round=>
     obtain ⟨i,f,hi,rfl,bm,bg,be,b0⟩:=hrel;have bc:=Z0 bm;have al:=Z0 bg;have t:=Z0 be;have b7:=Z0 b0;clear bm bg be b0;by_cases dp:i<N-1
     ·have af:i<(oth n.id N).length:=by rw [a2.out];omega
      obtain ⟨gb,dh,rfl,Xc⟩:=in_at b7.out (by rw [a2.out];omega) i af;have ao:=HI.out i af;have bn:=(ar _).1 (Bp af)
      have c8:Ah ((kI n.id i:Int)+1 ∉ (oth n.id N).take i):=by
       rw [<-ao];intro hm;obtain ⟨j,hj,e⟩:=List.mem_iff_getElem.1 hm;rw [List.getElem_take] at e;have h9:=(List.getElem_inj aq).1 e;rw [List.length_take] at hj;omega
      have bb:Ah ((oth n.id N).take (i+1)=(oth n.id N).take i ++ [(kI n.id i:Int)+1]):=by unfold Ah;rw [List.take_succ_eq_append_getElem af,ao]
      have bv:Ah (((oth n.id N).take i).Nodup/\((oth n.id N).take i).length<1000000):=⟨aq.sublist (List.take_sublist _ _),by rw [List.length_take];omega⟩;rw [ao] at bn Xc;clear ao af;generalize kI n.id i=K at *;have ch:K<N:=by omega
      have a8:=wf3 (x:=(K:Int)+1) (by omega) (by omega);have b2:decide ((i:Int)<((N-1:Nat):Int))=true:=decide_eq_true (by omega);have h1:(i:Int)<((N-1:Nat):Int):=by omega
      have c4:IntKind.i64.wrap ((i:Int)+1)=(i:Int)+1:=wry
      have b6:=c1.out wr K ch t;have cz:Ah _:=b6;clear b6 bn
      go_wp2_with (first
       |(have ay:=al;refine Zd 36 _ rfl ?_;clear ay;refine Z7 rfl 36 _ rfl _ rfl al underlying36 rfl Z0q rfl ?_)
       |(go_at_call 82;go_loud (refine Calls.mono cz ?_;rintro e w6 ⟨rfl,br⟩;have a7:=Z0 br;clear br Xc))
       |(refine Zn 124 _ _ rfl ?_;go_loud (refine Zt rfl 124 _ _ rfl _ rfl rfl rfl infoPg rfl rfl (by unfold pgC;simp [Value.oneCell']) ?_;have cx:Ah (Blk (w6.alloc (.cells (pgC n ((K:Int)+1)) 124)) w6.heap.size (pgC n ((K:Int)+1)) 124):=Blk.new _ _ _;have ab:Ah (Ai wr.heap.size wr (w6.alloc (.cells (pgC n ((K:Int)+1)) 124))):=a7.alloc a7.size _;have cq:=a7.size;generalize w6.alloc (.cells (pgC n ((K:Int)+1)) 124)=w7 at *;have ag:Ah _:=bc.below ab;have e19:=ag.blk.cell 19))
       |(at_mapUpdate;go_loud (refine Z6m (γ:=Nat) (vl:=ptV) _ rfl _ _ _ 78 rfl 126 underlying78 p rfl ag.pm _ bv.1 ag.pk bv.2 _ a8 w6.heap.size rfl rfl ?_;intro w8 bh ad;have o:=bc.put ab cx cq t.size ad bh c8;rw [<-bb.out] at o;have c:Ah _:=o;clear o;have am:=al.below ab al.lt;have c7:Ah _:=am.keep (ad.block _ am.lt (λe=>by injection e with e;have:=d.out;omega));have c5:=Z0 ((t.trans (ab.mono t.size)).grown ad (t.trans (ab.mono t.size)).size (λk e=>by injection e with e;have:=d.out;omega));have ai:=b7.below ab;have da:Ah _:=ai.block (w':=w8) λk e=>ad.block k (ai.lts k e).2 (by intro e2;injection e2 with e2;subst e2;obtain ⟨dx,s,m⟩:=Z3g ai e;obtain ⟨pe,pc,dk⟩:=ag.pm.obj;exact hmap m dk);clear am ai bh ad)))
      go_roundw
      case rel=>exact ⟨i+1,_,by omega,by go_num,c.out,c7.out,c5.out,da.out⟩
      case measure=>simp [RowKit.intOf];omega
     ·obtain rfl:i=N-1:=by omega
      have o:=bc.out;rw [List.take_of_length_le (by rw [a2.out];omega)] at o;have c:=Z0 o;clear o;obtain ⟨c0,e13⟩:∃ z,wr.cell? ⟨b,13,Ab⟩=Ac z:=⟨_,c.blk.cell 13⟩;have cr:=c.blk.free 13;obtain ⟨dj,e14⟩:∃ z,wr.cell? ⟨b,14,Ab⟩=Ac z:=⟨_,c.blk.cell 14⟩;have cc:=c.blk.free 14;obtain ⟨dg,cj⟩:∃ z,wr.cell? ⟨b,15,Ab⟩=Ac z:=⟨_,c.blk.cell 15⟩;have c2:=c.blk.free 15;obtain ⟨cp,e16⟩:∃ z,wr.cell? ⟨b,16,Ab⟩=Ac z:=⟨_,c.blk.cell 16⟩;have di:=c.blk.free 16;obtain ⟨c6,e17⟩:∃ z,wr.cell? ⟨b,17,Ab⟩=Ac z:=⟨_,c.blk.cell 17⟩;have ce:=c.blk.free 17
      have ac:Ah (Z9 (((((wr.setCell ⟨b,13,Ab⟩ (I Ab 0 0)).setCell ⟨b,14,Ab⟩ (I Ab 0 0)).setCell ⟨b,15,Ab⟩ (I Ab 0 0)).setCell ⟨b,16,Ab⟩ (I Ab 0 0)).setCell ⟨b,17,Ab⟩ (I Ab 0 0)) w.heap.size b (rn0 n) ⟨I la n.log.length lc,I Ab 0 0,[],g,p,f,0⟩):=
       (c.row (((((c.blk.set 13 _).set 14 _).set 15 _).set 16 _).set 17 _) (λk m=>(Ak _ _ _ _ m).trans ((Ak _ _ _ _ m).trans ((Ak _ _ _ _ m).trans ((Ak _ _ _ _ m).trans (Ak _ _ _ _ m)))))).fin a3 HC
      have l:w.heap.size<=b:=by have:=d.out;omega
      have a1:Ah (Ai w.heap.size w (((((wr.setCell ⟨b,13,Ab⟩ (I Ab 0 0)).setCell ⟨b,14,Ab⟩ (I Ab 0 0)).setCell ⟨b,15,Ab⟩ (I Ab 0 0)).setCell ⟨b,16,Ab⟩ (I Ab 0 0)).setCell ⟨b,17,Ab⟩ (I Ab 0 0))):=((((t.setCell (p:=⟨b,13,Ab⟩) l _).setCell (p:=⟨b,14,Ab⟩) l _).setCell (p:=⟨b,15,Ab⟩) l _).setCell (p:=⟨b,16,Ab⟩) l _).setCell (p:=⟨b,17,Ab⟩) l _;clear l
      go_wp2_with fail
      exact bodyPost_ret (v:=Ae (Ac ⟨b,0,Ab⟩)) (by simp [results,results37,go_sem]) rfl ⟨b,_,rfl,ac.out,rfl,a1.out⟩
   ·have co:(n.ro == 3)=false:=by simpa using r
    have a3:Ah (∀ y:Int,y∈([]:List Int)↔(n.ro=3/\1<=y/\y<=n.sz/\y≠n.id)):=λy=>⟨(λh=>by cases h),(λh=>absurd h.1 r)⟩
    clear r;obtain ⟨c0,e13⟩:∃ z,wr.cell? ⟨b,13,Ab⟩=Ac z:=⟨_,a.blk.cell 13⟩;have cr:=a.blk.free 13;obtain ⟨dj,e14⟩:∃ z,wr.cell? ⟨b,14,Ab⟩=Ac z:=⟨_,a.blk.cell 14⟩;have cc:=a.blk.free 14;obtain ⟨dg,cj⟩:∃ z,wr.cell? ⟨b,15,Ab⟩=Ac z:=⟨_,a.blk.cell 15⟩;have c2:=a.blk.free 15;obtain ⟨cp,e16⟩:∃ z,wr.cell? ⟨b,16,Ab⟩=Ac z:=⟨_,a.blk.cell 16⟩;have di:=a.blk.free 16;obtain ⟨c6,e17⟩:∃ z,wr.cell? ⟨b,17,Ab⟩=Ac z:=⟨_,a.blk.cell 17⟩;have ce:=a.blk.free 17
    have ac:Ah (Z9 (((((wr.setCell ⟨b,13,Ab⟩ (I Ab 0 0)).setCell ⟨b,14,Ab⟩ (I Ab 0 0)).setCell ⟨b,15,Ab⟩ (I Ab 0 0)).setCell ⟨b,16,Ab⟩ (I Ab 0 0)).setCell ⟨b,17,Ab⟩ (I Ab 0 0)) w.heap.size b (rn0 n) ⟨I la n.log.length lc,I Ab 0 0,[],g,p,λ_=>Ab,0⟩):=
     (a.row (((((a.blk.set 13 _).set 14 _).set 15 _).set 16 _).set 17 _) (λk m=>(Ak _ _ _ _ m).trans ((Ak _ _ _ _ m).trans ((Ak _ _ _ _ m).trans ((Ak _ _ _ _ m).trans (Ak _ _ _ _ m)))))).fin a3 HC
    have l:w.heap.size<=b:=by have:=d.out;omega
    have a1:Ah (Ai w.heap.size w (((((wr.setCell ⟨b,13,Ab⟩ (I Ab 0 0)).setCell ⟨b,14,Ab⟩ (I Ab 0 0)).setCell ⟨b,15,Ab⟩ (I Ab 0 0)).setCell ⟨b,16,Ab⟩ (I Ab 0 0)).setCell ⟨b,17,Ab⟩ (I Ab 0 0))):=((((HB.setCell (p:=⟨b,13,Ab⟩) l _).setCell (p:=⟨b,14,Ab⟩) l _).setCell (p:=⟨b,15,Ab⟩) l _).setCell (p:=⟨b,16,Ab⟩) l _).setCell (p:=⟨b,17,Ab⟩) l _;clear l
    go_wp2_with fail
    exact bodyPost_ret (v:=Ae (Ac ⟨b,0,Ab⟩)) (by simp [results,results37,go_sem]) rfl ⟨b,_,rfl,ac.out,rfl,a1.out⟩
end Go.Proofs.YtmmpoppgabadmaaGreat
