import Derived.Test.YtmmpoppgabadmaaGreatG43
import Derived.Test.YtmmpoppgabadmaaGreatG32
import Derived.Laws.MakeOwn
import Derived.Test.YtmmpoppgabadmaaGreatG15
set_option linter.unusedVariables false
set_option linter.unusedSimpArgs false
set_option maxRecDepth 100000
set_option maxHeartbeats 16000000
namespace Go.Proofs.YtmmpoppgabadmaaGreat
open Go.RowKit Go.Maps
def lA (l:List Int):Array Value:=(l.map (Value.int .i64)).toArray
theorem lA_set (l:List Int)(j:Nat)(v:Int):(lA l).setIfInBounds j (.int .i64 v)=lA (l.set j v):=by
 unfold lA;rw [List.setIfInBounds_toArray,List.map_set]
theorem Z29 (l:List Int):(lA l).size=l.length:=by simp [lA]
def Jt (v:List Int)(lf:Int->Bool)(id:Int)(N:Nat):List Int:=(List.range N).map fun (i:Nat)=>if lf ((i:Int)+1)=true∨(i:Int)+1=id then 0 else v.getD i 0
theorem Z2i (v:List Int)(lf:Int->Bool)(id:Int)(N:Nat):(Jt v lf id N).length=N:=by simp [Jt]
theorem Z1k (v:List Int)(lf:Int->Bool)(id:Int)(N:Nat)(h:∀ y:Int,1<=y->y<=N->y≠id->lf y=true):Jt v lf id N=List.replicate N 0:=by
 unfold Jt;refine List.ext_getElem (by simp) fun i h1 h2=>?_
 simp only [List.length_map,List.length_range] at h1;simp only [List.getElem_map,List.getElem_range,List.getElem_replicate];rw [if_pos];by_cases e:(i:Int)+1=id
 ·exact .inr e
 ·exact .inl (h _ (by omega) (by omega) e)
theorem Z2f (v:List Int)(lf:Int->Bool)(id:Int)(N:Nat)(hv:v.length=N)(hi:v.getD (id-1).toNat 0=0)(hid:1<=id)(h:∀ y:Int,lf y=false):Jt v lf id N=v:=by
 unfold Jt;refine List.ext_getElem (by simp [hv]) fun i h1 h2=>?_
 simp only [List.length_map,List.length_range] at h1;simp only [List.getElem_map,List.getElem_range];have e1:v.getD i 0=v[i]:=by rw [List.getD_eq_getElem?_getD,List.getElem?_eq_getElem h2];rfl
 by_cases e:(i:Int)+1=id
 ·rw [if_pos (.inr e),<-e1]
  rw [show (id-1).toNat=i by omega] at hi;exact hi.symm
 ·rw [if_neg (by rintro (h9 | h9);rw [h] at h9;cases h9;exact e h9)]
  exact e1
theorem mixL_step (v:List Int)(lf:Int->Bool)(id:Int)(N:Nat)(y:Int)(h1:1<=y)(h2:y<=N)(h3:y≠id):Jt v (fun z=>lf z && !(z == y)) id N=(Jt v lf id N).set (y-1).toNat (v.getD (y-1).toNat 0):=by
 unfold Jt;refine List.ext_getElem (by simp) fun i hi1 hi2=>?_
 simp only [List.length_map,List.length_range] at hi1;rw [List.getElem_set];simp only [List.getElem_map,List.getElem_range];by_cases e:(y-1).toNat=i
 ·rw [if_pos e]
  have e2:(i:Int)+1=y:=by omega
  rw [e2];simp only [beq_self_eq_true,Bool.not_true,Bool.and_false,Bool.false_eq_true,false_or,h3,if_false];rw [e]
 ·rw [if_neg e]
  have e2:(((i:Int)+1) == y)=false:=by rw [beq_eq_false_iff_ne];omega
  simp only [e2,Bool.not_false,Bool.and_true]
theorem gC_inI:∀ l:List Int,gC inC l=l.map (Value.int .i64)
 | []=>rfl
 | a :: l=>by show inC a ++ gC inC l=_;rw [gC_inI l];rfl
theorem ownG_lA {w:World}{B p:Nat}{l:List Int}(h:Blk w p (lA l) 3)(hB:B<=p)(hl:l.length<=1000):Zs inC 1 3 w B (.slice (some ⟨p,0,none⟩) l.length l.length) l:=by
 refine ⟨by rw [gC_inI];simp,.inr ⟨p,l.length,lA l,rfl,hB,h,Nat.le_refl _,by unfold maxLen;omega,by rw [Z29];omega,?_⟩⟩;rw [gC_inI];unfold lA;rw [List.toList_toArray,Nat.mul_one,List.take_of_length_le (by simp)]
theorem made_lA (N:Nat):madeCells #[Value.int .i64 0] N=lA (List.replicate N 0):=by
 unfold madeCells lA;apply Array.ext
 ·simp
 ·intro i h1 h2
  simp [Nat.mod_one]
theorem run_mkInts (u:World)(N:Nat)(hN:N<=7):(Instr.makeSlice 23 (.int .i64 (N:Int)) (.int .i64 (N:Int))).run Tryz.prog u=.ok (.slice (some ⟨u.heap.size,0,none⟩) N N) (u.alloc (.cells (lA (List.replicate N 0)) 3)):=by
 obtain ⟨i0,hi,hz0,hz1,hz2⟩:=info_parts (show (Tryz.prog.info? 3).map (fun i=>(i.zero,i.size,i.bytes))=some (some (.int .i64 0),1,8) by kernel_rfl);have h9:=run_make (P:=Tryz.prog) u 23 3 i0 _ Tryz.underlying23 hi hz0 .i64 .i64 (N:Int) (N:Int) (by omega) (Int.le_refl _) (by rw [hz2];omega) (by omega);rw [h9,hz1];simp only [Int.toNat_natCast,Nat.mul_one];have:(Value.int IntKind.i64 0).cells=#[Value.int .i64 0]:=rfl;rw [this,made_lA]
end Go.Proofs.YtmmpoppgabadmaaGreat
namespace Go.Proofs.YtmmpoppgabadmaaGreat
open Go.RowKit Go.Maps
theorem gr_le {l:List Int}(h:l.Pairwise (· < ·))(hb:∀ y∈l,1<=y/\y<=7):l.length<=1000:=by
 have h7:∀(l:List Int) (lo:Int),l.Pairwise (· < ·)->(∀ y∈l,lo<y/\y<=7)->lo<=7->(l.length:Int)<=7-lo:=by
  intro l
  induction l with
  | nil=>intro lo _ _ h;simp;omega
  | cons a l ih=>
   intro lo hp hy hlo;have ha:=hy a (by simp);have:=ih a (List.Pairwise.of_cons hp) (fun y hy'=>⟨List.rel_of_pairwise_cons hp hy',(hy y (by simp [hy'])).2⟩) ha.2;simp only [List.length_cons];omega
 have:=h7 l 0 h (fun y hy=>⟨by have:=(hb y hy).1;omega,(hb y hy).2⟩) (by omega);omega
theorem IM.madeAt {γ:Type}{vl:γ->Value}{w:World}{k:Nat}(h:k=w.heap.size):IM vl (w.alloc (.map #[] 0)) k (fun _=>(none:Option γ)):=by subst h;exact IM.made w
theorem coreOf_any (n:Nd)(a12 a13 a14 a15 a16 a17:Option Addr)(c12 c13 c14 c15 c16 c17:Nat)(w:World)(h12:Es w (.slice a12 n.log.length c12) n.log)(hll:n.log.length<=1048576)(h13:Ix w (.slice a13 n.gr.length c13) n.gr)(h14:Ix w (.slice a14 n.nx.length c14) n.nx)(h15:Ix w (.slice a15 n.mt.length c15) n.mt)(h16:Ix w (.slice a16 n.se.length c16) n.se)(h17:Ix w (.slice a17 n.st.length c17) n.st)(hc:CI n) :
  Calls Tryz.prog 37 #[.agg #[.int .i64 n.id,.int .i64 n.sz,.int .i64 n.el,.int .i64 n.bt,.int .i64 n.tm,.int .i64 n.vo,.int .i64 n.ro,.int .i64 n.ld,.int .i64 n.cm,.int .i64 n.nw,.int .i64 n.dl,.int .i64 n.hd,.slice a12 n.log.length c12,.slice a13 n.gr.length c13,.slice a14 n.nx.length c14,.slice a15 n.mt.length c15,.slice a16 n.se.length c16,.slice a17 n.st.length c17]] w fun e w'=>∃ b x,e=.returned (.pointer (some ⟨b,0,none⟩))/\Zo w' w.heap.size b (rn0 n) x/\x.L = []/\Below w.heap.size w w':=by
 have hmm:=@run_makeMap Tryz.prog;have HE:Hid (Es w (.slice a12 n.log.length c12) n.log):=h12;have HG:Hid (Ix w (.slice a13 n.gr.length c13) n.gr):=h13;have HX:Hid (Ix w (.slice a14 n.nx.length c14) n.nx/\Ix w (.slice a15 n.mt.length c15) n.mt/\Ix w (.slice a16 n.se.length c16) n.se/\Ix w (.slice a17 n.st.length c17) n.st):=⟨h14,h15,h16,h17⟩;have HC:Hid _:=hc;have HLn:Hid (n.gr.length<=1000):=gr_le hc.gr1 (fun y hy=>⟨(hc.gr2 y hy).1,by have:=(hc.gr2 y hy).2;have:=hc.sz1;omega⟩);have HLl:Hid (n.log.length<=1048576):=hll;obtain ⟨W,hW⟩:∃ W,W=(((w.alloc (.cells #[.int .i64 n.id,.int .i64 n.sz,.int .i64 n.el,.int .i64 n.bt,.int .i64 n.tm,.int .i64 n.vo,.int .i64 n.ro,.int .i64 n.ld,.int .i64 n.cm,.int .i64 n.nw,.int .i64 n.dl,.int .i64 n.hd,.slice a12 n.log.length c12,.slice a13 n.gr.length c13,.slice a14 n.nx.length c14,.slice a15 n.mt.length c15,.slice a16 n.se.length c16,.slice a17 n.st.length c17] 36)).alloc (.map #[] 0)).alloc (.map #[] 0)).alloc (.cells #[.int .i64 n.id,.int .i64 n.sz,.int .i64 n.el,.int .i64 n.bt,.int .i64 n.tm,.int .i64 n.vo,.int .i64 n.ro,.int .i64 n.ld,.int .i64 n.cm,.int .i64 n.nw,.int .i64 n.dl,.int .i64 n.hd,.slice a12 n.log.length c12,.slice a13 n.gr.length c13,.slice a14 n.nx.length c14,.slice a15 n.mt.length c15,.slice a16 n.se.length c16,.slice a17 n.st.length c17,.map (some (w.heap.size+1)),.map (some (w.heap.size+1+1)),.int .i64 0,.int .i64 0,.int .i64 0,.slice none 0 0] 80):=⟨_,rfl⟩;have HW:Hid _:=hW;have HB0:Hid (Blk (w.alloc (.cells #[.int .i64 n.id,.int .i64 n.sz,.int .i64 n.el,.int .i64 n.bt,.int .i64 n.tm,.int .i64 n.vo,.int .i64 n.ro,.int .i64 n.ld,.int .i64 n.cm,.int .i64 n.nw,.int .i64 n.dl,.int .i64 n.hd,.slice a12 n.log.length c12,.slice a13 n.gr.length c13,.slice a14 n.nx.length c14,.slice a15 n.mt.length c15,.slice a16 n.se.length c16,.slice a17 n.st.length c17] 36)) w.heap.size #[.int .i64 n.id,.int .i64 n.sz,.int .i64 n.el,.int .i64 n.bt,.int .i64 n.tm,.int .i64 n.vo,.int .i64 n.ro,.int .i64 n.ld,.int .i64 n.cm,.int .i64 n.nw,.int .i64 n.dl,.int .i64 n.hd,.slice a12 n.log.length c12,.slice a13 n.gr.length c13,.slice a14 n.nx.length c14,.slice a15 n.mt.length c15,.slice a16 n.se.length c16,.slice a17 n.st.length c17] 36):=Blk.new _ _ _;have HBb:Hid (Blk W (w.heap.size+1+1+1) #[.int .i64 n.id,.int .i64 n.sz,.int .i64 n.el,.int .i64 n.bt,.int .i64 n.tm,.int .i64 n.vo,.int .i64 n.ro,.int .i64 n.ld,.int .i64 n.cm,.int .i64 n.nw,.int .i64 n.dl,.int .i64 n.hd,.slice a12 n.log.length c12,.slice a13 n.gr.length c13,.slice a14 n.nx.length c14,.slice a15 n.mt.length c15,.slice a16 n.se.length c16,.slice a17 n.st.length c17,.map (some (w.heap.size+1)),.map (some (w.heap.size+1+1)),.int .i64 0,.int .i64 0,.int .i64 0,.slice none 0 0] 80):=by unfold Hid;rw [hW];exact Blk.new' _ _ _ (by simp)
 have HBn:Hid (Blk W w.heap.size #[.int .i64 n.id,.int .i64 n.sz,.int .i64 n.el,.int .i64 n.bt,.int .i64 n.tm,.int .i64 n.vo,.int .i64 n.ro,.int .i64 n.ld,.int .i64 n.cm,.int .i64 n.nw,.int .i64 n.dl,.int .i64 n.hd,.slice a12 n.log.length c12,.slice a13 n.gr.length c13,.slice a14 n.nx.length c14,.slice a15 n.mt.length c15,.slice a16 n.se.length c16,.slice a17 n.st.length c17] 36):=by unfold Hid;rw [hW];exact (((Blk.new _ _ _).alloc _).alloc _).alloc _
 have HGm:Hid (IM unV W (w.heap.size+1) (grF [])):=by
  have e:grF []=fun _=>none:=by funext y;simp [grF]
  unfold Hid;rw [hW,e];exact ((IM.madeAt (by simp)).alloc _).alloc _
 have HPm:Hid (IM ptV W (w.heap.size+1+1) (fun _=>none)):=by
  unfold Hid;rw [hW];exact (IM.madeAt (by simp)).alloc _
 have HBw:Hid (Below w.heap.size w W):=by
  unfold Hid;rw [hW];exact ((((Below.refl _ _).alloc (Nat.le_refl _) _).alloc (by simp) _).alloc (by simp;omega) _).alloc (by simp;omega) _
 have HCl:Hid (Calls Tryz.prog 80 #[.slice a12 n.log.length c12] W fun e w'=>∃ v',e=.returned v'/\Zv w' W.heap.size v' n.log/\Below W.heap.size W w'):=cloneE_any _ _ W (h12.below HBw.out) hll;have HWs:Hid (W.heap.size=w.heap.size+4):=by unfold Hid;rw [hW];simp
 clear h12 h13 h14 h15 h16 h17 hc hll hW;go_enter Tryz.func37,Tryz.ntmps37
 go_upto_region 2 with (first
   |(have hBA:=HB0;refine Zw 36 (.tmp 1) rfl ?_;clear hBA;refine Zk rfl 36 (.tmp 1) rfl w.heap.size rfl HB0.out Tryz.underlying36 rfl sizeNd rfl ?_))
 rw [<-HW.out];clear HW HB0;generalize hb:w.heap.size+1+1+1=b at *;generalize hp:w.heap.size+1+1=p at *;generalize hg:w.heap.size+1=g at *;have HOrd:Hid (w.heap.size<g/\g<p/\p<b):=by unfold Hid;omega
 clear hb hp hg;have e12:W.cell? ⟨w.heap.size,12,none⟩=some (.slice a12 n.log.length c12):=HBn.out.cell 12
 go_upto_region 3 with (first
   |(go_at_call 80;refine Calls.mono HCl.out ?_;rintro e w3 ⟨v3,rfl,ho3,hb3⟩;obtain ⟨la,lc,rfl⟩:=ho3.shape;have HO3:Hid (Zv w3 W.heap.size (.slice la n.log.length lc) n.log):=ho3;have HB3:Hid _:=hb3;have d12:w3.cell? ⟨b,12,none⟩=some (.slice a12 n.log.length c12):=(HBb.out.below hb3 HBb.out.lt).cell 12;have f12:w3.frozen? ⟨b,12,none⟩=false:=(HBb.out.below hb3 HBb.out.lt).free 12;clear ho3 hb3))
 have HK4:Hid (PreK (w3.setCell ⟨b,12,none⟩ (.slice la n.log.length lc)) w.heap.size b #[.int .i64 n.id,.int .i64 n.sz,.int .i64 n.el,.int .i64 n.bt,.int .i64 n.tm,.int .i64 n.vo,.int .i64 n.ro,.int .i64 n.ld,.int .i64 n.cm,.int .i64 n.nw,.int .i64 n.dl,.int .i64 n.hd,.slice la n.log.length lc,.slice a13 n.gr.length c13,.slice a14 n.nx.length c14,.slice a15 n.mt.length c15,.slice a16 n.se.length c16,.slice a17 n.st.length c17,.map (some g),.map (some p),.int .i64 0,.int .i64 0,.int .i64 0,.slice none 0 0] n (.slice la n.log.length lc) g p [] (fun _=>none) []):=by
  have hB3:=HBb.out.below HB3.out HBb.out.lt;have h9:=HOrd.out;have h8:=HWs.out;have h3:PreK w3 w.heap.size b #[.int .i64 n.id,.int .i64 n.sz,.int .i64 n.el,.int .i64 n.bt,.int .i64 n.tm,.int .i64 n.vo,.int .i64 n.ro,.int .i64 n.ld,.int .i64 n.cm,.int .i64 n.nw,.int .i64 n.dl,.int .i64 n.hd,.slice a12 n.log.length c12,.slice a13 n.gr.length c13,.slice a14 n.nx.length c14,.slice a15 n.mt.length c15,.slice a16 n.se.length c16,.slice a17 n.st.length c17,.map (some g),.map (some p),.int .i64 0,.int .i64 0,.int .i64 0,.slice none 0 0] n (.slice la n.log.length lc) g p [] (fun _=>none) []:=⟨hB3,by omega,HO3.out.le (by omega),HGm.out.keep (HB3.out.block _ HGm.out.lt),by omega,HPm.out.keep (HB3.out.block _ HPm.out.lt),by omega,by omega,(fun y q e=>by cases e),(fun y z q e=>by cases e),(fun y=>by simp)⟩;exact h3.row (hB3.set 12 _) (fun k hk=>Below.heap_setCell _ _ _ _ hk)
 have HN4:Hid (Blk (w3.setCell ⟨b,12,none⟩ (.slice la n.log.length lc)) w.heap.size #[.int .i64 n.id,.int .i64 n.sz,.int .i64 n.el,.int .i64 n.bt,.int .i64 n.tm,.int .i64 n.vo,.int .i64 n.ro,.int .i64 n.ld,.int .i64 n.cm,.int .i64 n.nw,.int .i64 n.dl,.int .i64 n.hd,.slice a12 n.log.length c12,.slice a13 n.gr.length c13,.slice a14 n.nx.length c14,.slice a15 n.mt.length c15,.slice a16 n.se.length c16,.slice a17 n.st.length c17] 36):=(HBn.out.below HB3.out HBn.out.lt).set_other _ (show w.heap.size≠b by have:=HOrd.out;omega);have HB4:Hid (Below w.heap.size w (w3.setCell ⟨b,12,none⟩ (.slice la n.log.length lc))):=(HBw.out.trans (HB3.out.mono HBw.out.size)).setCell (p:=⟨b,12,none⟩) (show w.heap.size<=b by have:=HOrd.out;omega) _;generalize w3.setCell ⟨b,12,none⟩ (.slice la n.log.length lc)=w4 at *;clear e12 d12 f12 HCl HBb HBn HGm HPm HO3 HB3;have HIg:Hid (∀ z,Below w.heap.size w z->Ix z (.slice a13 n.gr.length c13) n.gr):=fun z hz=>HG.out.below hz
 have e13:w4.cell? ⟨w.heap.size,13,none⟩=some (.slice a13 n.gr.length c13):=HN4.out.cell 13;clear HG
 go_wp2_with fail
 clear e13
 go_loopw [5,24] (fun _ iv wr=>∃ k:Nat,k<=n.gr.length/\iv=.int .i64 (k:Int)/\PreK wr w.heap.size b #[.int .i64 n.id,.int .i64 n.sz,.int .i64 n.el,.int .i64 n.bt,.int .i64 n.tm,.int .i64 n.vo,.int .i64 n.ro,.int .i64 n.ld,.int .i64 n.cm,.int .i64 n.nw,.int .i64 n.dl,.int .i64 n.hd,.slice la n.log.length lc,.slice a13 n.gr.length c13,.slice a14 n.nx.length c14,.slice a15 n.mt.length c15,.slice a16 n.se.length c16,.slice a17 n.st.length c17,.map (some g),.map (some p),.int .i64 0,.int .i64 0,.int .i64 0,.slice none 0 0] n (.slice la n.log.length lc) g p (n.gr.take k) (fun _=>none) []/\Blk wr w.heap.size #[.int .i64 n.id,.int .i64 n.sz,.int .i64 n.el,.int .i64 n.bt,.int .i64 n.tm,.int .i64 n.vo,.int .i64 n.ro,.int .i64 n.ld,.int .i64 n.cm,.int .i64 n.nw,.int .i64 n.dl,.int .i64 n.hd,.slice a12 n.log.length c12,.slice a13 n.gr.length c13,.slice a14 n.nx.length c14,.slice a15 n.mt.length c15,.slice a16 n.se.length c16,.slice a17 n.st.length c17] 36/\Below w.heap.size w wr) (fun _ iv _=>n.gr.length-(RowKit.intOf iv).toNat)
 case atStart=>exact ⟨0,Nat.zero_le _,rfl,HK4.out,HN4.out,HB4.out⟩
 case round=>
  obtain ⟨k,hk,rfl,hK,hN,hB⟩:=hrel;have HK:Hid _:=hK;have HN:Hid (Blk wr w.heap.size _ 36):=hN;have HB:Hid _:=hB;have HIx:=HIg.out wr hB;clear hK hN hB;by_cases hlt2:k<n.gr.length
  ·obtain ⟨gb,off,rfl,Xa⟩:=ix_at HIx k hlt2
   have HIx2:Hid _:=HIx;have h1d:decide ((k:Int)<(n.gr.length:Int))=true:=decide_eq_true (by omega);have h1:(k:Int)<(n.gr.length:Int):=by omega
   have hyb:=HC.out.gr2 _ (List.getElem_mem hlt2);have hz1:=HC.out.sz1;have hw3:=wf3 (x:=n.gr[k]) (by omega) (by omega);have hln:=HLn.out;have hw1:IntKind.i64.wrap ((k:Int)+1)=(k:Int)+1:=by rw [IntKind.wrap_i64];omega
   have HTk:Hid (n.gr.take (k+1)=n.gr.take k ++ [n.gr[k]]):=List.take_succ_eq_append_getElem hlt2
   have HNd:Hid ((n.gr.take k).Nodup/\(n.gr.take k).length<1000000):=⟨(HC.out.gr1.imp (fun h=>by omega)).sublist (List.take_sublist _ _),by
    have h9:=HLn.out;rw [List.length_take];omega⟩
   have e18:wr.cell? ⟨b,18,none⟩=some (.map (some g)):=HK.out.blk.cell 18;clear HIx hyb hz1;generalize hy:n.gr[k]=y at *;clear hy
   go_wp2_with (first
    |(at_mapUpdate;go_loud (refine wpl_imput (γ:=Unit) _ rfl _ _ _ 77 rfl 121 Tryz.underlying77 g rfl HK.out.gm (n.gr.take k) HNd.out.1 (grF_some _) HNd.out.2 y hw3 () rfl rfl ?_;intro w1 hi1 hg1;have hk1:=HK.out.gput hg1 hi1;rw [<-HTk.out] at hk1;have HK1:Hid _:=hk1;clear hk1;have HN1:Hid _:=HN.out.keep (hg1.block _ HN.out.lt (fun e=>by injection e with e;have:=HOrd.out;omega));have HB1:Hid (Below w.heap.size w w1):=HB.out.grown hg1 HB.out.size (fun k e=>by injection e with e;have:=HOrd.out;omega);clear hi1 hg1)))
   go_roundw
   case rel=>exact ⟨k+1,by omega,by go_num,HK1.out,HN1.out,HB1.out⟩
   case measure=>simp [RowKit.intOf];omega
  ·obtain rfl:k=n.gr.length:=by omega
   have h1d:decide ((n.gr.length:Int)<(n.gr.length:Int))=false:=decide_eq_false (by omega);have hk9:=HK.out;rw [List.take_length] at hk9;have HK9:Hid _:=hk9;have e6:wr.cell? ⟨w.heap.size,6,none⟩=some (.int .i64 n.ro):=HN.out.cell 6;clear hk9 HIx;by_cases hro:n.ro=3
   ·have hrb:(n.ro == 3)=true:=by simpa using hro
    obtain ⟨wo,hwo⟩:∃ z,z=wr:=⟨_,rfl⟩;subst hwo;have z0:=HC.out.sz0;have z1:=HC.out.sz1;obtain ⟨N,hN⟩:∃ N:Nat,n.sz=(N:Int):=⟨n.sz.toNat,by omega⟩;have hN2:n.sz.toNat=N:=by omega
    have hn3:3<=N:=by omega
    have hn7:N<=7:=by omega
    have HFl:Hid ((oth n.id N).length=N-1):=by have h9:=oth_full n.id n.sz HC.out.id0 HC.out.id1;rw [hN2] at h9;exact h9
    have HMem:Hid (∀ y,y∈oth n.id N↔(1<=y/\y<=(N:Int)/\y≠n.id)):=fun y=>oth_mem n.id y N
    have HNdo:Hid ((oth n.id N).Nodup):=Z2u n.id N;have HI:Hid (∀ i (hi:i<(oth n.id N).length),(oth n.id N)[i]=(kI n.id i:Int)+1):=oth_get n.id HC.out.id0 N;have HRo:Hid (∀ y:Int,y∈(oth n.id N)↔(n.ro=3/\1<=y/\y<=n.sz/\y≠n.id)):=fun y=>by rw [HMem.out y,hN];exact ⟨(fun h=>⟨hro,h⟩),(fun h=>h.2)⟩
    have HLd:Hid (n.nx.length=N/\n.mt.length=N/\n.se.length=N/\n.st.length=N):=by have h9:=(HC.out.ld hro).1;rw [hN2] at h9;exact h9
    have HPr:Hid (∀(z:World) (K:Nat),K<N->Below w.heap.size w z->Calls Tryz.prog 82 #[.agg #[.int .i64 n.id,.int .i64 n.sz,.int .i64 n.el,.int .i64 n.bt,.int .i64 n.tm,.int .i64 n.vo,.int .i64 n.ro,.int .i64 n.ld,.int .i64 n.cm,.int .i64 n.nw,.int .i64 n.dl,.int .i64 n.hd,.slice a12 n.log.length c12,.slice a13 n.gr.length c13,.slice a14 n.nx.length c14,.slice a15 n.mt.length c15,.slice a16 n.se.length c16,.slice a17 n.st.length c17],.int .i64 ((K:Int)+1)] z fun e w'=>e=.returned (.agg (pgC n ((K:Int)+1)))/\Below z.heap.size z w'):=fun z K hK hz=>by
     obtain ⟨l1,l2,l3,l4⟩:=HLd.out;obtain ⟨x1,x2,x3,x4⟩:=HX.out;have h9:=Z18 n.id n.sz n.el n.bt n.tm n.vo n.ro n.ld n.cm n.nw n.dl n.hd a12 a13 a14 a15 a16 a17 c12 c13 c14 c15 c16 c17 n.log n.gr n.nx n.mt n.se n.st z K (x1.below hz) (x2.below hz) (x3.below hz) (x4.below hz) (by omega) (by omega) (by omega) (by omega) (by omega);refine h9.mono ?_;rintro e w' ⟨rfl,hb⟩;refine ⟨?_,hb⟩;unfold pgC;rw [show ((K:Int)+1-1).toNat=K by omega];simp only [List.getD_eq_getElem?_getD,List.getElem?_eq_getElem (show K<n.nx.length by omega),List.getElem?_eq_getElem (show K<n.mt.length by omega),List.getElem?_eq_getElem (show K<n.se.length by omega),List.getElem?_eq_getElem (show K<n.st.length by omega),Option.getD_some]
    have HOt:Hid (Calls Tryz.prog 81 #[.pointer (some ⟨b,0,none⟩)] wo fun e w'=>∃ a c,e=.returned (.slice a (N-1) c)/\Zs inC 1 3 w' wo.heap.size (.slice a (N-1) c) (oth n.id N)/\Below wo.heap.size wo w'):=others_of b n.id N wo (HK9.out.blk.cell 0) (by rw [<-hN];exact HK9.out.blk.cell 1) HK9.out.blk.lt HC.out.id0 (by rw [<-hN];exact HC.out.id1) (by omega) (by omega);have HNz:Hid (n.sz=(N:Int)):=hN;clear hro z0 z1 hN hN2
    go_wp2_with (first
     |(go_at_call 81;refine Calls.mono HOt.out ?_;rintro e w5 ⟨oa,oc,rfl,ho1,hb1⟩;have HO5:Hid (Zs inC 1 3 w5 wo.heap.size (.slice oa (N-1) oc) (oth n.id N)):=ho1;have HB5:Hid _:=hb1;clear ho1 hb1))
    clear e6
    go_loopw [7,8,41] (fun _ _ iv wr=>∃(i:Nat) (f:Int->Option Nat),i<=N-1/\iv=.int .i64 (i:Int)/\PreK wr w.heap.size b #[.int .i64 n.id,.int .i64 n.sz,.int .i64 n.el,.int .i64 n.bt,.int .i64 n.tm,.int .i64 n.vo,.int .i64 n.ro,.int .i64 n.ld,.int .i64 n.cm,.int .i64 n.nw,.int .i64 n.dl,.int .i64 n.hd,.slice la n.log.length lc,.slice a13 n.gr.length c13,.slice a14 n.nx.length c14,.slice a15 n.mt.length c15,.slice a16 n.se.length c16,.slice a17 n.st.length c17,.map (some g),.map (some p),.int .i64 0,.int .i64 0,.int .i64 0,.slice none 0 0] n (.slice la n.log.length lc) g p n.gr f ((oth n.id N).take i)/\Blk wr w.heap.size #[.int .i64 n.id,.int .i64 n.sz,.int .i64 n.el,.int .i64 n.bt,.int .i64 n.tm,.int .i64 n.vo,.int .i64 n.ro,.int .i64 n.ld,.int .i64 n.cm,.int .i64 n.nw,.int .i64 n.dl,.int .i64 n.hd,.slice a12 n.log.length c12,.slice a13 n.gr.length c13,.slice a14 n.nx.length c14,.slice a15 n.mt.length c15,.slice a16 n.se.length c16,.slice a17 n.st.length c17] 36/\Below w.heap.size w wr/\Zs inC 1 3 wr wo.heap.size (.slice oa (N-1) oc) (oth n.id N)) (fun _ _ iv _=>N-(RowKit.intOf iv).toNat)
    case atStart=>exact ⟨0,_,Nat.zero_le _,rfl,HK9.out.below HB5.out,HN.out.below HB5.out HN.out.lt,HB.out.trans (HB5.out.mono HB.out.size),HO5.out⟩
    case round=>
     obtain ⟨i,f,hi,rfl,hKq,hNq,hBq,hOq⟩:=hrel;have HKq:Hid _:=hKq;have HNq:Hid (Blk wr w.heap.size _ 36):=hNq;have HBq:Hid _:=hBq;have HOq:Hid (Zs inC 1 3 wr wo.heap.size (.slice oa (N-1) oc) (oth n.id N)):=hOq;clear hKq hNq hBq hOq;by_cases hlt3:i<N-1
     ·have hiL:i<(oth n.id N).length:=by rw [HFl.out];omega
      obtain ⟨gb,off,rfl,Xa⟩:=in_at HOq.out (by rw [HFl.out];omega) i hiL;have hey:=HI.out i hiL;have hmy:=(HMem.out _).1 (List.getElem_mem hiL)
      have HNy:Hid ((kI n.id i:Int)+1 ∉ (oth n.id N).take i):=by
       rw [<-hey];intro hm;obtain ⟨j,hj,e⟩:=List.mem_iff_getElem.1 hm;rw [List.getElem_take] at e;have h9:=(List.getElem_inj HNdo.out).1 e;rw [List.length_take] at hj;omega
      have HTk:Hid ((oth n.id N).take (i+1)=(oth n.id N).take i ++ [(kI n.id i:Int)+1]):=by unfold Hid;rw [List.take_succ_eq_append_getElem hiL,hey]
      have HTn:Hid (((oth n.id N).take i).Nodup/\((oth n.id N).take i).length<1000000):=⟨HNdo.out.sublist (List.take_sublist _ _),by rw [List.length_take];omega⟩;rw [hey] at hmy Xa;clear hey hiL;generalize kI n.id i=K at *;have hKN:K<N:=by omega
      have hw3:=wf3 (x:=(K:Int)+1) (by omega) (by omega);have h1d:decide ((i:Int)<((N-1:Nat):Int))=true:=decide_eq_true (by omega);have h1:(i:Int)<((N-1:Nat):Int):=by omega
      have hw1:IntKind.i64.wrap ((i:Int)+1)=(i:Int)+1:=by rw [IntKind.wrap_i64];omega
      have HPc:=HPr.out wr K hKN HBq.out;have HPh:Hid _:=HPc;clear HPc hmy
      go_wp2_with (first
       |(have hBA:=HNq;refine Zw 36 (.tmp 1) rfl ?_;clear hBA;refine Zk rfl 36 (.tmp 1) rfl w.heap.size rfl HNq.out Tryz.underlying36 rfl sizeNd rfl ?_)
       |(go_at_call 82;go_loud (refine Calls.mono HPh.out ?_;rintro e w6 ⟨rfl,hb6⟩;have HB6:Hid _:=hb6;clear hb6 Xa))
       |(refine Y2 124 (.tmp 8) _ rfl ?_;go_loud (refine Zz rfl 124 (.tmp 8) _ rfl w6.heap.size rfl rfl rfl infoPg rfl rfl (by unfold pgC;simp [Value.oneCell']) ?_;have HQ7:Hid (Blk (w6.alloc (.cells (pgC n ((K:Int)+1)) 124)) w6.heap.size (pgC n ((K:Int)+1)) 124):=Blk.new _ _ _;have HB7:Hid (Below wr.heap.size wr (w6.alloc (.cells (pgC n ((K:Int)+1)) 124))):=HB6.out.alloc HB6.out.size _;have hz6:=HB6.out.size;generalize w6.alloc (.cells (pgC n ((K:Int)+1)) 124)=w7 at *;have HK7:Hid _:=HKq.out.below HB7.out;have e19:w7.cell? ⟨b,19,none⟩=some (.map (some p)):=HK7.out.blk.cell 19))
       |(at_mapUpdate;go_loud (refine wpl_imput (γ:=Nat) (vl:=ptV) _ rfl _ _ _ 78 rfl 126 Tryz.underlying78 p rfl HK7.out.pm ((oth n.id N).take i) HTn.out.1 HK7.out.pk HTn.out.2 ((K:Int)+1) hw3 w6.heap.size rfl rfl ?_;intro w8 hi8 hg8;have hk8:=HKq.out.put HB7.out HQ7.out hz6 HBq.out.size hg8 hi8 HNy.out;rw [<-HTk.out] at hk8;have HK8:Hid _:=hk8;clear hk8;have hn7:=HNq.out.below HB7.out HNq.out.lt;have HN8:Hid _:=hn7.keep (hg8.block _ hn7.lt (fun e=>by injection e with e;have:=HOrd.out;omega));have HB8:Hid (Below w.heap.size w w8):=(HBq.out.trans (HB7.out.mono HBq.out.size)).grown hg8 (HBq.out.trans (HB7.out.mono HBq.out.size)).size (fun k e=>by injection e with e;have:=HOrd.out;omega);have ho7:=HOq.out.below HB7.out;have HO8:Hid _:=ho7.block (w':=w8) fun k e=>hg8.block k (ho7.lts k e).2 (by intro e2;injection e2 with e2;subst e2;obtain ⟨cur,s,hk⟩:=own_ty ho7 e;obtain ⟨pe,pc,hpo⟩:=HK7.out.pm.obj;exact hmap hk hpo);clear hn7 ho7 hi8 hg8)))
      go_roundw
      case rel=>exact ⟨i+1,_,by omega,by go_num,HK8.out,HN8.out,HB8.out,HO8.out⟩
      case measure=>simp [RowKit.intOf];omega
     ·obtain rfl:i=N-1:=by omega
      have h2d:decide (((N-1:Nat):Int)<((N-1:Nat):Int))=false:=decide_eq_false (by omega);have hk8:=HKq.out;rw [List.take_of_length_le (by rw [HFl.out];omega)] at hk8;have HK8:Hid _:=hk8;clear hk8;obtain ⟨z13,e13⟩:∃ z,wr.cell? ⟨b,13,none⟩=some z:=⟨_,HK8.out.blk.cell 13⟩;have f13:wr.frozen? ⟨b,13,none⟩=false:=HK8.out.blk.free 13;obtain ⟨z14,e14⟩:∃ z,wr.cell? ⟨b,14,none⟩=some z:=⟨_,HK8.out.blk.cell 14⟩;have f14:wr.frozen? ⟨b,14,none⟩=false:=HK8.out.blk.free 14;obtain ⟨z15,e15⟩:∃ z,wr.cell? ⟨b,15,none⟩=some z:=⟨_,HK8.out.blk.cell 15⟩;have f15:wr.frozen? ⟨b,15,none⟩=false:=HK8.out.blk.free 15;obtain ⟨z16,e16⟩:∃ z,wr.cell? ⟨b,16,none⟩=some z:=⟨_,HK8.out.blk.cell 16⟩;have f16:wr.frozen? ⟨b,16,none⟩=false:=HK8.out.blk.free 16;obtain ⟨z17,e17⟩:∃ z,wr.cell? ⟨b,17,none⟩=some z:=⟨_,HK8.out.blk.cell 17⟩;have f17:wr.frozen? ⟨b,17,none⟩=false:=HK8.out.blk.free 17
      have HFin:Hid (Zo (((((wr.setCell ⟨b,13,none⟩ (.slice none 0 0)).setCell ⟨b,14,none⟩ (.slice none 0 0)).setCell ⟨b,15,none⟩ (.slice none 0 0)).setCell ⟨b,16,none⟩ (.slice none 0 0)).setCell ⟨b,17,none⟩ (.slice none 0 0)) w.heap.size b (rn0 n) ⟨.slice la n.log.length lc,.slice none 0 0,[],g,p,f,0⟩):=
       (HK8.out.row (((((HK8.out.blk.set 13 _).set 14 _).set 15 _).set 16 _).set 17 _) (fun k hk=>(Below.heap_setCell _ _ _ _ hk).trans ((Below.heap_setCell _ _ _ _ hk).trans ((Below.heap_setCell _ _ _ _ hk).trans ((Below.heap_setCell _ _ _ _ hk).trans (Below.heap_setCell _ _ _ _ hk)))))).fin HRo.out HC.out
      have hob:w.heap.size<=b:=by have:=HOrd.out;omega
      have HBe:Hid (Below w.heap.size w (((((wr.setCell ⟨b,13,none⟩ (.slice none 0 0)).setCell ⟨b,14,none⟩ (.slice none 0 0)).setCell ⟨b,15,none⟩ (.slice none 0 0)).setCell ⟨b,16,none⟩ (.slice none 0 0)).setCell ⟨b,17,none⟩ (.slice none 0 0))):=((((HBq.out.setCell (p:=⟨b,13,none⟩) hob _).setCell (p:=⟨b,14,none⟩) hob _).setCell (p:=⟨b,15,none⟩) hob _).setCell (p:=⟨b,16,none⟩) hob _).setCell (p:=⟨b,17,none⟩) hob _;clear hob
      go_wp2_with fail
      exact bodyPost_ret (v:=.pointer (some ⟨b,0,none⟩)) (by simp [results,Tryz.results37,go_sem]) rfl ⟨b,_,rfl,HFin.out,rfl,HBe.out⟩
   ·have hrb:(n.ro == 3)=false:=by simpa using hro
    have HRo:Hid (∀ y:Int,y∈([]:List Int)↔(n.ro=3/\1<=y/\y<=n.sz/\y≠n.id)):=fun y=>⟨(fun h=>by cases h),(fun h=>absurd h.1 hro)⟩
    clear hro;obtain ⟨z13,e13⟩:∃ z,wr.cell? ⟨b,13,none⟩=some z:=⟨_,HK9.out.blk.cell 13⟩;have f13:wr.frozen? ⟨b,13,none⟩=false:=HK9.out.blk.free 13;obtain ⟨z14,e14⟩:∃ z,wr.cell? ⟨b,14,none⟩=some z:=⟨_,HK9.out.blk.cell 14⟩;have f14:wr.frozen? ⟨b,14,none⟩=false:=HK9.out.blk.free 14;obtain ⟨z15,e15⟩:∃ z,wr.cell? ⟨b,15,none⟩=some z:=⟨_,HK9.out.blk.cell 15⟩;have f15:wr.frozen? ⟨b,15,none⟩=false:=HK9.out.blk.free 15;obtain ⟨z16,e16⟩:∃ z,wr.cell? ⟨b,16,none⟩=some z:=⟨_,HK9.out.blk.cell 16⟩;have f16:wr.frozen? ⟨b,16,none⟩=false:=HK9.out.blk.free 16;obtain ⟨z17,e17⟩:∃ z,wr.cell? ⟨b,17,none⟩=some z:=⟨_,HK9.out.blk.cell 17⟩;have f17:wr.frozen? ⟨b,17,none⟩=false:=HK9.out.blk.free 17
    have HFin:Hid (Zo (((((wr.setCell ⟨b,13,none⟩ (.slice none 0 0)).setCell ⟨b,14,none⟩ (.slice none 0 0)).setCell ⟨b,15,none⟩ (.slice none 0 0)).setCell ⟨b,16,none⟩ (.slice none 0 0)).setCell ⟨b,17,none⟩ (.slice none 0 0)) w.heap.size b (rn0 n) ⟨.slice la n.log.length lc,.slice none 0 0,[],g,p,fun _=>none,0⟩):=
     (HK9.out.row (((((HK9.out.blk.set 13 _).set 14 _).set 15 _).set 16 _).set 17 _) (fun k hk=>(Below.heap_setCell _ _ _ _ hk).trans ((Below.heap_setCell _ _ _ _ hk).trans ((Below.heap_setCell _ _ _ _ hk).trans ((Below.heap_setCell _ _ _ _ hk).trans (Below.heap_setCell _ _ _ _ hk)))))).fin HRo.out HC.out
    have hob:w.heap.size<=b:=by have:=HOrd.out;omega
    have HBe:Hid (Below w.heap.size w (((((wr.setCell ⟨b,13,none⟩ (.slice none 0 0)).setCell ⟨b,14,none⟩ (.slice none 0 0)).setCell ⟨b,15,none⟩ (.slice none 0 0)).setCell ⟨b,16,none⟩ (.slice none 0 0)).setCell ⟨b,17,none⟩ (.slice none 0 0))):=((((HB.out.setCell (p:=⟨b,13,none⟩) hob _).setCell (p:=⟨b,14,none⟩) hob _).setCell (p:=⟨b,15,none⟩) hob _).setCell (p:=⟨b,16,none⟩) hob _).setCell (p:=⟨b,17,none⟩) hob _;clear hob
    go_wp2_with fail
    exact bodyPost_ret (v:=.pointer (some ⟨b,0,none⟩)) (by simp [results,Tryz.results37,go_sem]) rfl ⟨b,_,rfl,HFin.out,rfl,HBe.out⟩
end Go.Proofs.YtmmpoppgabadmaaGreat
