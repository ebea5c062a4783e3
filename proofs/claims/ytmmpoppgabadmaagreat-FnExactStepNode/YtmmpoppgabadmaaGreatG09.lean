import Derived.Test.YtmmpoppgabadmaaGreatG03
import Derived.Deep.QuietTactic
import Derived.BigQuiet
import Derived.Laws.BytesArg
set_option linter.unusedVariables false
set_option linter.unusedSimpArgs false
set_option maxRecDepth 100000
set_option maxHeartbeats 16000000
namespace Go.Proofs.YtmmpoppgabadmaaGreat
open Go.RowKit
theorem Z5r (w:World)(e:Ent):Z25 (w.alloc (.cells #[.int .i64 e.t,.int .i64 e.cl,.int .i64 e.sq,.int .i64 e.op,.string e.k,.string e.v,.string e.o] 118)) w.heap.size 0 e:=by
 refine ⟨?_,?_,?_,?_,?_,?_,?_⟩ <;> simp
theorem Z2p (v:Value)(l:List Ent)(w:World)(hv:Es w v l)(hll:l.length<=1000000) :
  Calls Tryz.prog 102 #[v] w fun e w'=>∃ v',e=.returned v'/\Zd w' w.heap.size v' l/\Below w.heap.size w w':=by
 obtain ⟨hm,hf,a,cap,rfl,hc⟩:=hv;unfold maxLen at hm;go_enter Tryz.func102,Tryz.ntmps102;go_wp2
 go_loopw [3,4] (fun s i wr=>∃ k:Nat,k<=l.length/\i=.int .i64 k/\Zd wr w.heap.size s (l.take k)/\Below w.heap.size w wr) (fun _ i _=>l.length-(intOf i).toNat)
 case atStart=>exact ⟨0,Nat.zero_le _,rfl,Zd.made w w.heap.size (Nat.le_refl _),(Below.refl _ _).alloc (Nat.le_refl _) _⟩
 case round=>
  obtain ⟨k,hk,rfl,ho,hB⟩:=hrel;have hz:=hB.size;by_cases hlt:k<l.length
  ·obtain ⟨b,off,rfl,hj⟩:=hc k hlt
   have hfk:=hf l[k] (List.getElem_mem hlt);obtain ⟨c0,c1,c2,c3,c4,c5,c6⟩:=(hj k hlt).below hB;obtain ⟨a3,cap3,rfl⟩:=ho.shape;have hlen:(l.take k).length=k:=by rw [List.length_take];omega
   have HT:Hid (l.take (k+1)=l.take k ++ [l[k]]):=List.take_succ_eq_append_getElem hlt;have HO:Hid (Zd wr w.heap.size (.slice a3 (l.take k).length cap3) (l.take k)):=ho;have HBB:Hid _:=hB;clear hc hj hf ho hB;generalize l[k]=e at *
   go_wp2_with (at_builtin;refine Z4q rfl (.tmp 12) (.tmp 17) rfl e hfk (HO.out.below ((Below.refl _ _).alloc (Nat.le_refl _) _)) rfl wr.heap.size 1 (Z5r wr e) rfl (by rw [hlen];omega) (by simp;omega) ?_;intro v' w' ho' hg;have hb':=growE hg (HO.out.below ((Below.refl _ _).alloc (Nat.le_refl _) _)) (by simp;omega))
   go_roundw
   case rel=>exact ⟨k+1,by omega,by go_num,by rw [HT.out];exact ho',(HBB.out.alloc hz _).trans hb'⟩
   case measure=>simp [intOf];omega
  ·go_wp2
   go_ret;rw [List.take_of_length_le (by omega)] at ho;exact ⟨_,rfl,ho,hB⟩
theorem Z0z (v:Value)(l:List Int)(w:World)(hv:Ix w v l)(hll:l.length<=100000) :
  Calls Tryz.prog 104 #[v] w fun e w'=>∃ v',e=.returned v'/\Z6 inC 1 3 w' w.heap.size v' l/\Below w.heap.size w w':=by
 obtain ⟨hm,a,cap,rfl,hc⟩:=hv;go_enter Tryz.func104,Tryz.ntmps104;go_wp2
 go_loopw [3,4] (fun s i wr=>∃ k:Nat,k<=l.length/\i=.int .i64 k/\Z6 inC 1 3 wr w.heap.size s (l.take k)/\Below w.heap.size w wr) (fun _ i _=>l.length-(intOf i).toNat)
 case atStart=>exact ⟨0,Nat.zero_le _,rfl,Z6.made _ _ _ _ _ (Nat.le_refl _),(Below.refl _ _).alloc (Nat.le_refl _) _⟩
 case round=>
  obtain ⟨k,hk,rfl,ho,hB⟩:=hrel;have hz:=hB.size;by_cases hlt:k<l.length
  ·obtain ⟨b,off,rfl,hj⟩:=hc k hlt
   have c0:wr.cell? ⟨b,off+k,none⟩=some (.int .i64 l[k]):=(hB.cell (p:=⟨b,off+k,none⟩) (Yd (hj k hlt))).trans (hj k hlt);have hki:(k:Int)<(l.length:Int):=by omega
   have HT:Hid (l.take (k+1)=l.take k ++ [l[k]]):=List.take_succ_eq_append_getElem hlt;have HO:Hid (Z6 inC 1 3 wr w.heap.size _ (l.take k)):=ho;have HB:Hid _:=hB;have hlen:(l.take k).length<=100000:=by rw [List.length_take];omega
   have HLn:Hid ((l.take k).length<=100000):=hlen;have hk9:k<=100000:=by omega
   clear hc hj ho hB hlen;generalize l[k]=e at *
   go_wp2_with (at_builtin;refine Xr Z1d rfl (.tmp 12) (.tmp 17) rfl e (HO.out.below ((Below.refl _ _).alloc (Nat.le_refl _) _)) rfl (wr.heap.size) 1 (Blk.new _ _ _).range rfl (by have:=HLn.out;omega) (by simp;omega) ?_;intro v2 w2 ho2 hg2;have HO2:Hid (Z6 inC 1 3 w2 w.heap.size v2 (l.take k ++ [e])):=ho2;have HB2:Hid (Below w.heap.size w w2):=(HB.out.alloc hz _).trans (growG hg2 (HO.out.below ((Below.refl _ _).alloc (Nat.le_refl _) _)) (by simp;omega));clear ho2 hg2)
   go_roundw
   case rel=>exact ⟨k+1,by omega,by go_num,by rw [HT.out];exact HO2.out,HB2.out⟩
   case measure=>simp [intOf];omega
  ·obtain rfl:k=l.length:=by omega
   rw [List.take_length] at ho;go_wp2;go_ret;exact ⟨_,rfl,ho,hB⟩
theorem OwnXG.setq {α:Type}{cs:α->List Value}{m:Nat}{T t:TypeId}{w:World}{B q:Nat}{v:Value}{l:List α}{C:Array Value}(h:Z6 cs m T w B v l)(hb:Blk w q C t)(hne:T≠t)(i:Nat)(y:Value):Z6 cs m T (w.setCell ⟨q,i,none⟩ y) B v l:=h.block fun k e=>Below.heap_setCell _ _ _ _ (Zm h hb hne k e)
theorem OwnXE.setq {t:TypeId}{w:World}{B q:Nat}{v:Value}{l:List Ent}{C:Array Value}(h:Zd w B v l)(hb:Blk w q C t)(hne:118≠t)(i:Nat)(y:Value):Zd (w.setCell ⟨q,i,none⟩ y) B v l:=h.block fun k e=>Below.heap_setCell _ _ _ _ (Yp h hb hne k e)
structure NdAt (w:World) (n:Nd) (v12 v13 v14 v15 v16 v17:Value):Prop where
 log:Es w v12 n.log
 gr:Ix w v13 n.gr
 nx:Ix w v14 n.nx
 mt:Ix w v15 n.mt
 se:Ix w v16 n.se
 st:Ix w v17 n.st
theorem NdAt.below {w w':World}{n:Nd}{v12 v13 v14 v15 v16 v17:Value}(h:NdAt w n v12 v13 v14 v15 v16 v17)(hb:Below w.heap.size w w'):NdAt w' n v12 v13 v14 v15 v16 v17:=⟨h.log.below hb,h.gr.below hb,h.nx.below hb,h.mt.below hb,h.se.below hb,h.st.below hb⟩
theorem l4copy_any (n:Nd)(v12 v13 v14 v15 v16 v17:Value)(w:World)(h:NdAt w n v12 v13 v14 v15 v16 v17)(hl:n.log.length<=4096)(l13:n.gr.length<=100000)(l14:n.nx.length<=100000)(l15:n.mt.length<=100000)(l16:n.se.length<=100000)(l17:n.st.length<=100000) :
  Calls Tryz.prog 64 #[.agg #[.int .i64 n.id,.int .i64 n.sz,.int .i64 n.el,.int .i64 n.bt,.int .i64 n.tm,.int .i64 n.vo,.int .i64 n.ro,.int .i64 n.ld,.int .i64 n.cm,.int .i64 n.nw,.int .i64 n.dl,.int .i64 n.hd,v12,v13,v14,v15,v16,v17]] w fun e w'=>∃ u12 u13 u14 u15 u16 u17,e=.returned (.agg #[.int .i64 n.id,.int .i64 n.sz,.int .i64 n.el,.int .i64 n.bt,.int .i64 n.tm,.int .i64 n.vo,.int .i64 n.ro,.int .i64 n.ld,.int .i64 n.cm,.int .i64 n.nw,.int .i64 n.dl,.int .i64 n.hd,u12,u13,u14,u15,u16,u17])/\Zd w' w.heap.size u12 n.log/\Z6 inC 1 3 w' w.heap.size u13 n.gr/\Z6 inC 1 3 w' w.heap.size u14 n.nx/\Z6 inC 1 3 w' w.heap.size u15 n.mt/\Z6 inC 1 3 w' w.heap.size u16 n.se/\Z6 inC 1 3 w' w.heap.size u17 n.st/\[u13,u14,u15,u16,u17].Pairwise Zz/\Below w.heap.size w w':=by
 have H12:Hid (∀ z,Below w.heap.size w z->Calls Tryz.prog 102 #[v12] z fun e w'=>∃ v',e=.returned v'/\Zd w' z.heap.size v' n.log/\Below z.heap.size z w'):=fun z hz=>Z2p v12 n.log z (h.below hz).log (by omega)
 have H13:Hid (∀ z,Below w.heap.size w z->Calls Tryz.prog 104 #[v13] z fun e w'=>∃ v',e=.returned v'/\Z6 inC 1 3 w' z.heap.size v' n.gr/\Below z.heap.size z w'):=fun z hz=>Z0z v13 n.gr z (h.below hz).gr l13
 have H14:Hid (∀ z,Below w.heap.size w z->Calls Tryz.prog 104 #[v14] z fun e w'=>∃ v',e=.returned v'/\Z6 inC 1 3 w' z.heap.size v' n.nx/\Below z.heap.size z w'):=fun z hz=>Z0z v14 n.nx z (h.below hz).nx l14
 have H15:Hid (∀ z,Below w.heap.size w z->Calls Tryz.prog 104 #[v15] z fun e w'=>∃ v',e=.returned v'/\Z6 inC 1 3 w' z.heap.size v' n.mt/\Below z.heap.size z w'):=fun z hz=>Z0z v15 n.mt z (h.below hz).mt l15
 have H16:Hid (∀ z,Below w.heap.size w z->Calls Tryz.prog 104 #[v16] z fun e w'=>∃ v',e=.returned v'/\Z6 inC 1 3 w' z.heap.size v' n.se/\Below z.heap.size z w'):=fun z hz=>Z0z v16 n.se z (h.below hz).se l16
 have H17:Hid (∀ z,Below w.heap.size w z->Calls Tryz.prog 104 #[v17] z fun e w'=>∃ v',e=.returned v'/\Z6 inC 1 3 w' z.heap.size v' n.st/\Below z.heap.size z w'):=fun z hz=>Z0z v17 n.st z (h.below hz).st l17
 obtain ⟨-,-,a12,c12,rfl,-⟩:=h.log;obtain ⟨-,a13,c13,rfl,-⟩:=h.gr;obtain ⟨-,a14,c14,rfl,-⟩:=h.nx;obtain ⟨-,a15,c15,rfl,-⟩:=h.mt;obtain ⟨-,a16,c16,rfl,-⟩:=h.se;obtain ⟨-,a17,c17,rfl,-⟩:=h.st;clear h;have BN0:Hid (Blk ((w.alloc (.cells #[.int .i64 n.id,.int .i64 n.sz,.int .i64 n.el,.int .i64 n.bt,.int .i64 n.tm,.int .i64 n.vo,.int .i64 n.ro,.int .i64 n.ld,.int .i64 n.cm,.int .i64 n.nw,.int .i64 n.dl,.int .i64 n.hd,.slice a12 n.log.length c12,.slice a13 n.gr.length c13,.slice a14 n.nx.length c14,.slice a15 n.mt.length c15,.slice a16 n.se.length c16,.slice a17 n.st.length c17] 36)).alloc (.cells #[.int .i64 0,.int .i64 0,.int .i64 0,.int .i64 0,.int .i64 0,.int .i64 0,.int .i64 0,.int .i64 0,.int .i64 0,.int .i64 0,.int .i64 0,.int .i64 0,.slice none 0 0,.slice none 0 0,.slice none 0 0,.slice none 0 0,.slice none 0 0,.slice none 0 0] 36)) w.heap.size #[.int .i64 n.id,.int .i64 n.sz,.int .i64 n.el,.int .i64 n.bt,.int .i64 n.tm,.int .i64 n.vo,.int .i64 n.ro,.int .i64 n.ld,.int .i64 n.cm,.int .i64 n.nw,.int .i64 n.dl,.int .i64 n.hd,.slice a12 n.log.length c12,.slice a13 n.gr.length c13,.slice a14 n.nx.length c14,.slice a15 n.mt.length c15,.slice a16 n.se.length c16,.slice a17 n.st.length c17] 36):=(Blk.new _ _ _).alloc _;have BR0:Hid (Blk ((w.alloc (.cells #[.int .i64 n.id,.int .i64 n.sz,.int .i64 n.el,.int .i64 n.bt,.int .i64 n.tm,.int .i64 n.vo,.int .i64 n.ro,.int .i64 n.ld,.int .i64 n.cm,.int .i64 n.nw,.int .i64 n.dl,.int .i64 n.hd,.slice a12 n.log.length c12,.slice a13 n.gr.length c13,.slice a14 n.nx.length c14,.slice a15 n.mt.length c15,.slice a16 n.se.length c16,.slice a17 n.st.length c17] 36)).alloc (.cells #[.int .i64 0,.int .i64 0,.int .i64 0,.int .i64 0,.int .i64 0,.int .i64 0,.int .i64 0,.int .i64 0,.int .i64 0,.int .i64 0,.int .i64 0,.int .i64 0,.slice none 0 0,.slice none 0 0,.slice none 0 0,.slice none 0 0,.slice none 0 0,.slice none 0 0] 36)) (w.heap.size+1) #[.int .i64 0,.int .i64 0,.int .i64 0,.int .i64 0,.int .i64 0,.int .i64 0,.int .i64 0,.int .i64 0,.int .i64 0,.int .i64 0,.int .i64 0,.int .i64 0,.slice none 0 0,.slice none 0 0,.slice none 0 0,.slice none 0 0,.slice none 0 0,.slice none 0 0] 36):=Blk.new' _ _ _ (by simp);have HB0:Hid (Below w.heap.size w ((w.alloc (.cells #[.int .i64 n.id,.int .i64 n.sz,.int .i64 n.el,.int .i64 n.bt,.int .i64 n.tm,.int .i64 n.vo,.int .i64 n.ro,.int .i64 n.ld,.int .i64 n.cm,.int .i64 n.nw,.int .i64 n.dl,.int .i64 n.hd,.slice a12 n.log.length c12,.slice a13 n.gr.length c13,.slice a14 n.nx.length c14,.slice a15 n.mt.length c15,.slice a16 n.se.length c16,.slice a17 n.st.length c17] 36)).alloc (.cells #[.int .i64 0,.int .i64 0,.int .i64 0,.int .i64 0,.int .i64 0,.int .i64 0,.int .i64 0,.int .i64 0,.int .i64 0,.int .i64 0,.int .i64 0,.int .i64 0,.slice none 0 0,.slice none 0 0,.slice none 0 0,.slice none 0 0,.slice none 0 0,.slice none 0 0] 36))):=((Below.refl _ _).alloc (Nat.le_refl _) _).alloc (by simp) _;go_enter Tryz.func64,Tryz.ntmps64
 go_upto_region 1 with fail
 generalize (w.alloc (.cells #[.int .i64 n.id,.int .i64 n.sz,.int .i64 n.el,.int .i64 n.bt,.int .i64 n.tm,.int .i64 n.vo,.int .i64 n.ro,.int .i64 n.ld,.int .i64 n.cm,.int .i64 n.nw,.int .i64 n.dl,.int .i64 n.hd,.slice a12 n.log.length c12,.slice a13 n.gr.length c13,.slice a14 n.nx.length c14,.slice a15 n.mt.length c15,.slice a16 n.se.length c16,.slice a17 n.st.length c17] 36)).alloc (.cells #[.int .i64 0,.int .i64 0,.int .i64 0,.int .i64 0,.int .i64 0,.int .i64 0,.int .i64 0,.int .i64 0,.int .i64 0,.int .i64 0,.int .i64 0,.int .i64 0,.slice none 0 0,.slice none 0 0,.slice none 0 0,.slice none 0 0,.slice none 0 0,.slice none 0 0] 36)=z11 at *;have BN11:Hid (Blk z11 w.heap.size _ 36):=BN0.out;have BR11:Hid (Blk z11 (w.heap.size+1) _ 36):=BR0.out;have HB11:Hid (Below w.heap.size w z11):=HB0.out;have e12:z11.cell? ⟨w.heap.size,12,none⟩=some (.slice a12 n.log.length c12):=BN11.out.cell 12;clear BN0 BR0 HB0;have G12:Hid True:=trivial;have G13:Hid True:=trivial;have G14:Hid True:=trivial;have G15:Hid True:=trivial;have G16:Hid True:=trivial;have G17:Hid True:=trivial;have G18:Hid True:=trivial;have G19:Hid True:=trivial
 go_wp2_with (first
  |(have hG:=G12;go_at_call 102;clear hG G12;refine (H12.out _ HB11.out).mono ?_;rintro e w12 ⟨v12,rfl,ho,hb⟩;obtain ⟨b12,d12,rfl⟩:=ho.shape;have hzz:w.heap.size+2<=z11.heap.size:=(by have:=BR11.out.lt;omega);have BNw:Blk w12 w.heap.size #[.int .i64 n.id,.int .i64 n.sz,.int .i64 n.el,.int .i64 n.bt,.int .i64 n.tm,.int .i64 n.vo,.int .i64 n.ro,.int .i64 n.ld,.int .i64 n.cm,.int .i64 n.nw,.int .i64 n.dl,.int .i64 n.hd,.slice a12 n.log.length c12,.slice a13 n.gr.length c13,.slice a14 n.nx.length c14,.slice a15 n.mt.length c15,.slice a16 n.se.length c16,.slice a17 n.st.length c17] 36:=BN11.out.below hb (by omega);have BRw:Blk w12 (w.heap.size+1) #[.int .i64 0,.int .i64 0,.int .i64 0,.int .i64 0,.int .i64 0,.int .i64 0,.int .i64 0,.int .i64 0,.int .i64 0,.int .i64 0,.int .i64 0,.int .i64 0,.slice none 0 0,.slice none 0 0,.slice none 0 0,.slice none 0 0,.slice none 0 0,.slice none 0 0] 36:=BR11.out.below hb (by omega);have x12:w12.cell? ⟨w.heap.size,12,none⟩=some (.slice a12 n.log.length c12):=BNw.cell 12;have y12:w12.frozen? ⟨w.heap.size,12,none⟩=false:=BNw.free 12;obtain ⟨z12,hz12⟩:∃ z,z=(w12.setCell ⟨w.heap.size,12,none⟩ (.slice b12 n.log.length d12)):=⟨_,rfl⟩;have BN12:Hid (Blk z12 w.heap.size #[.int .i64 n.id,.int .i64 n.sz,.int .i64 n.el,.int .i64 n.bt,.int .i64 n.tm,.int .i64 n.vo,.int .i64 n.ro,.int .i64 n.ld,.int .i64 n.cm,.int .i64 n.nw,.int .i64 n.dl,.int .i64 n.hd,.slice b12 n.log.length d12,.slice a13 n.gr.length c13,.slice a14 n.nx.length c14,.slice a15 n.mt.length c15,.slice a16 n.se.length c16,.slice a17 n.st.length c17] 36):=(by rw [hz12];exact BNw.set 12 _);have BR12:Hid (Blk z12 (w.heap.size+1) #[.int .i64 0,.int .i64 0,.int .i64 0,.int .i64 0,.int .i64 0,.int .i64 0,.int .i64 0,.int .i64 0,.int .i64 0,.int .i64 0,.int .i64 0,.int .i64 0,.slice none 0 0,.slice none 0 0,.slice none 0 0,.slice none 0 0,.slice none 0 0,.slice none 0 0] 36):=(by rw [hz12];exact BRw.set_other _ (by simp));have HB12:Hid (Below w.heap.size w z12):=(by rw [hz12];exact (HB11.out.trans (hb.mono (by omega))).setCell (p:=⟨w.heap.size,12,none⟩) (Nat.le_refl _) _);have hzs12:z11.heap.size<=z12.heap.size:=(by rw [hz12];simp [World.setCell];exact hb.size);have HR12_12:Hid (Zd z12 z11.heap.size (.slice b12 n.log.length d12) n.log):=(by rw [hz12];exact OwnXE.setq ho BNw (by decide) _ _);have e13:(w12.setCell ⟨w.heap.size,12,none⟩ (.slice b12 n.log.length d12)).cell? ⟨w.heap.size,13,none⟩=some (.slice a13 n.gr.length c13):=(by rw [<-hz12];exact BN12.out.cell 13);clear ho hb BNw BRw hzz;have Hz12:Hid _:=hz12;clear hz12)
  |(have hG:=G13;go_at_call 104;clear hG G13;refine (H13.out _ (by rw [<-Hz12.out];exact HB12.out)).mono ?_;rintro e w13 ⟨v13,rfl,ho,hb⟩;rw [<-Hz12.out] at ho hb;obtain ⟨b13,d13,rfl⟩:=ho.shape;have hzz:w.heap.size+2<=z12.heap.size:=(by have:=BR12.out.lt;omega);have BNw:Blk w13 w.heap.size #[.int .i64 n.id,.int .i64 n.sz,.int .i64 n.el,.int .i64 n.bt,.int .i64 n.tm,.int .i64 n.vo,.int .i64 n.ro,.int .i64 n.ld,.int .i64 n.cm,.int .i64 n.nw,.int .i64 n.dl,.int .i64 n.hd,.slice b12 n.log.length d12,.slice a13 n.gr.length c13,.slice a14 n.nx.length c14,.slice a15 n.mt.length c15,.slice a16 n.se.length c16,.slice a17 n.st.length c17] 36:=BN12.out.below hb (by omega);have BRw:Blk w13 (w.heap.size+1) #[.int .i64 0,.int .i64 0,.int .i64 0,.int .i64 0,.int .i64 0,.int .i64 0,.int .i64 0,.int .i64 0,.int .i64 0,.int .i64 0,.int .i64 0,.int .i64 0,.slice none 0 0,.slice none 0 0,.slice none 0 0,.slice none 0 0,.slice none 0 0,.slice none 0 0] 36:=BR12.out.below hb (by omega);have x13:w13.cell? ⟨w.heap.size,13,none⟩=some (.slice a13 n.gr.length c13):=BNw.cell 13;have y13:w13.frozen? ⟨w.heap.size,13,none⟩=false:=BNw.free 13;obtain ⟨z13,hz13⟩:∃ z,z=(w13.setCell ⟨w.heap.size,13,none⟩ (.slice b13 n.gr.length d13)):=⟨_,rfl⟩;have BN13:Hid (Blk z13 w.heap.size #[.int .i64 n.id,.int .i64 n.sz,.int .i64 n.el,.int .i64 n.bt,.int .i64 n.tm,.int .i64 n.vo,.int .i64 n.ro,.int .i64 n.ld,.int .i64 n.cm,.int .i64 n.nw,.int .i64 n.dl,.int .i64 n.hd,.slice b12 n.log.length d12,.slice b13 n.gr.length d13,.slice a14 n.nx.length c14,.slice a15 n.mt.length c15,.slice a16 n.se.length c16,.slice a17 n.st.length c17] 36):=(by rw [hz13];exact BNw.set 13 _);have BR13:Hid (Blk z13 (w.heap.size+1) #[.int .i64 0,.int .i64 0,.int .i64 0,.int .i64 0,.int .i64 0,.int .i64 0,.int .i64 0,.int .i64 0,.int .i64 0,.int .i64 0,.int .i64 0,.int .i64 0,.slice none 0 0,.slice none 0 0,.slice none 0 0,.slice none 0 0,.slice none 0 0,.slice none 0 0] 36):=(by rw [hz13];exact BRw.set_other _ (by simp));have HB13:Hid (Below w.heap.size w z13):=(by rw [hz13];exact (HB12.out.trans (hb.mono (by omega))).setCell (p:=⟨w.heap.size,13,none⟩) (Nat.le_refl _) _);have hzs13:z12.heap.size<=z13.heap.size:=(by rw [hz13];simp [World.setCell];exact hb.size);have HR12_13:Hid (Zd z13 z11.heap.size (.slice b12 n.log.length d12) n.log):=(by rw [hz13];exact OwnXE.setq (HR12_12.out.below hb) BNw (by decide) _ _);have HR13_13:Hid (Z6 inC 1 3 z13 z12.heap.size (.slice b13 n.gr.length d13) n.gr):=(by rw [hz13];exact OwnXG.setq ho BNw (by decide) _ _);have e14:(w13.setCell ⟨w.heap.size,13,none⟩ (.slice b13 n.gr.length d13)).cell? ⟨w.heap.size,14,none⟩=some (.slice a14 n.nx.length c14):=(by rw [<-hz13];exact BN13.out.cell 14);clear ho hb BNw BRw hzz;have Hz13:Hid _:=hz13;clear hz13)
  |(have hG:=G14;go_at_call 104;clear hG G14;refine (H14.out _ (by rw [<-Hz13.out];exact HB13.out)).mono ?_;rintro e w14 ⟨v14,rfl,ho,hb⟩;rw [<-Hz13.out] at ho hb;obtain ⟨b14,d14,rfl⟩:=ho.shape;have hzz:w.heap.size+2<=z13.heap.size:=(by have:=BR13.out.lt;omega);have BNw:Blk w14 w.heap.size #[.int .i64 n.id,.int .i64 n.sz,.int .i64 n.el,.int .i64 n.bt,.int .i64 n.tm,.int .i64 n.vo,.int .i64 n.ro,.int .i64 n.ld,.int .i64 n.cm,.int .i64 n.nw,.int .i64 n.dl,.int .i64 n.hd,.slice b12 n.log.length d12,.slice b13 n.gr.length d13,.slice a14 n.nx.length c14,.slice a15 n.mt.length c15,.slice a16 n.se.length c16,.slice a17 n.st.length c17] 36:=BN13.out.below hb (by omega);have BRw:Blk w14 (w.heap.size+1) #[.int .i64 0,.int .i64 0,.int .i64 0,.int .i64 0,.int .i64 0,.int .i64 0,.int .i64 0,.int .i64 0,.int .i64 0,.int .i64 0,.int .i64 0,.int .i64 0,.slice none 0 0,.slice none 0 0,.slice none 0 0,.slice none 0 0,.slice none 0 0,.slice none 0 0] 36:=BR13.out.below hb (by omega);have x14:w14.cell? ⟨w.heap.size,14,none⟩=some (.slice a14 n.nx.length c14):=BNw.cell 14;have y14:w14.frozen? ⟨w.heap.size,14,none⟩=false:=BNw.free 14;obtain ⟨z14,hz14⟩:∃ z,z=(w14.setCell ⟨w.heap.size,14,none⟩ (.slice b14 n.nx.length d14)):=⟨_,rfl⟩;have BN14:Hid (Blk z14 w.heap.size #[.int .i64 n.id,.int .i64 n.sz,.int .i64 n.el,.int .i64 n.bt,.int .i64 n.tm,.int .i64 n.vo,.int .i64 n.ro,.int .i64 n.ld,.int .i64 n.cm,.int .i64 n.nw,.int .i64 n.dl,.int .i64 n.hd,.slice b12 n.log.length d12,.slice b13 n.gr.length d13,.slice b14 n.nx.length d14,.slice a15 n.mt.length c15,.slice a16 n.se.length c16,.slice a17 n.st.length c17] 36):=(by rw [hz14];exact BNw.set 14 _);have BR14:Hid (Blk z14 (w.heap.size+1) #[.int .i64 0,.int .i64 0,.int .i64 0,.int .i64 0,.int .i64 0,.int .i64 0,.int .i64 0,.int .i64 0,.int .i64 0,.int .i64 0,.int .i64 0,.int .i64 0,.slice none 0 0,.slice none 0 0,.slice none 0 0,.slice none 0 0,.slice none 0 0,.slice none 0 0] 36):=(by rw [hz14];exact BRw.set_other _ (by simp));have HB14:Hid (Below w.heap.size w z14):=(by rw [hz14];exact (HB13.out.trans (hb.mono (by omega))).setCell (p:=⟨w.heap.size,14,none⟩) (Nat.le_refl _) _);have hzs14:z13.heap.size<=z14.heap.size:=(by rw [hz14];simp [World.setCell];exact hb.size);have HR12_14:Hid (Zd z14 z11.heap.size (.slice b12 n.log.length d12) n.log):=(by rw [hz14];exact OwnXE.setq (HR12_13.out.below hb) BNw (by decide) _ _);have HR13_14:Hid (Z6 inC 1 3 z14 z12.heap.size (.slice b13 n.gr.length d13) n.gr):=(by rw [hz14];exact OwnXG.setq (HR13_13.out.below hb) BNw (by decide) _ _);have HR14_14:Hid (Z6 inC 1 3 z14 z13.heap.size (.slice b14 n.nx.length d14) n.nx):=(by rw [hz14];exact OwnXG.setq ho BNw (by decide) _ _);have e15:(w14.setCell ⟨w.heap.size,14,none⟩ (.slice b14 n.nx.length d14)).cell? ⟨w.heap.size,15,none⟩=some (.slice a15 n.mt.length c15):=(by rw [<-hz14];exact BN14.out.cell 15);clear ho hb BNw BRw hzz;have Hz14:Hid _:=hz14;clear hz14)
  |(have hG:=G15;go_at_call 104;clear hG G15;refine (H15.out _ (by rw [<-Hz14.out];exact HB14.out)).mono ?_;rintro e w15 ⟨v15,rfl,ho,hb⟩;rw [<-Hz14.out] at ho hb;obtain ⟨b15,d15,rfl⟩:=ho.shape;have hzz:w.heap.size+2<=z14.heap.size:=(by have:=BR14.out.lt;omega);have BNw:Blk w15 w.heap.size #[.int .i64 n.id,.int .i64 n.sz,.int .i64 n.el,.int .i64 n.bt,.int .i64 n.tm,.int .i64 n.vo,.int .i64 n.ro,.int .i64 n.ld,.int .i64 n.cm,.int .i64 n.nw,.int .i64 n.dl,.int .i64 n.hd,.slice b12 n.log.length d12,.slice b13 n.gr.length d13,.slice b14 n.nx.length d14,.slice a15 n.mt.length c15,.slice a16 n.se.length c16,.slice a17 n.st.length c17] 36:=BN14.out.below hb (by omega);have BRw:Blk w15 (w.heap.size+1) #[.int .i64 0,.int .i64 0,.int .i64 0,.int .i64 0,.int .i64 0,.int .i64 0,.int .i64 0,.int .i64 0,.int .i64 0,.int .i64 0,.int .i64 0,.int .i64 0,.slice none 0 0,.slice none 0 0,.slice none 0 0,.slice none 0 0,.slice none 0 0,.slice none 0 0] 36:=BR14.out.below hb (by omega);have x15:w15.cell? ⟨w.heap.size,15,none⟩=some (.slice a15 n.mt.length c15):=BNw.cell 15;have y15:w15.frozen? ⟨w.heap.size,15,none⟩=false:=BNw.free 15;obtain ⟨z15,hz15⟩:∃ z,z=(w15.setCell ⟨w.heap.size,15,none⟩ (.slice b15 n.mt.length d15)):=⟨_,rfl⟩;have BN15:Hid (Blk z15 w.heap.size #[.int .i64 n.id,.int .i64 n.sz,.int .i64 n.el,.int .i64 n.bt,.int .i64 n.tm,.int .i64 n.vo,.int .i64 n.ro,.int .i64 n.ld,.int .i64 n.cm,.int .i64 n.nw,.int .i64 n.dl,.int .i64 n.hd,.slice b12 n.log.length d12,.slice b13 n.gr.length d13,.slice b14 n.nx.length d14,.slice b15 n.mt.length d15,.slice a16 n.se.length c16,.slice a17 n.st.length c17] 36):=(by rw [hz15];exact BNw.set 15 _);have BR15:Hid (Blk z15 (w.heap.size+1) #[.int .i64 0,.int .i64 0,.int .i64 0,.int .i64 0,.int .i64 0,.int .i64 0,.int .i64 0,.int .i64 0,.int .i64 0,.int .i64 0,.int .i64 0,.int .i64 0,.slice none 0 0,.slice none 0 0,.slice none 0 0,.slice none 0 0,.slice none 0 0,.slice none 0 0] 36):=(by rw [hz15];exact BRw.set_other _ (by simp));have HB15:Hid (Below w.heap.size w z15):=(by rw [hz15];exact (HB14.out.trans (hb.mono (by omega))).setCell (p:=⟨w.heap.size,15,none⟩) (Nat.le_refl _) _);have hzs15:z14.heap.size<=z15.heap.size:=(by rw [hz15];simp [World.setCell];exact hb.size);have HR12_15:Hid (Zd z15 z11.heap.size (.slice b12 n.log.length d12) n.log):=(by rw [hz15];exact OwnXE.setq (HR12_14.out.below hb) BNw (by decide) _ _);have HR13_15:Hid (Z6 inC 1 3 z15 z12.heap.size (.slice b13 n.gr.length d13) n.gr):=(by rw [hz15];exact OwnXG.setq (HR13_14.out.below hb) BNw (by decide) _ _);have HR14_15:Hid (Z6 inC 1 3 z15 z13.heap.size (.slice b14 n.nx.length d14) n.nx):=(by rw [hz15];exact OwnXG.setq (HR14_14.out.below hb) BNw (by decide) _ _);have HR15_15:Hid (Z6 inC 1 3 z15 z14.heap.size (.slice b15 n.mt.length d15) n.mt):=(by rw [hz15];exact OwnXG.setq ho BNw (by decide) _ _);have e16:(w15.setCell ⟨w.heap.size,15,none⟩ (.slice b15 n.mt.length d15)).cell? ⟨w.heap.size,16,none⟩=some (.slice a16 n.se.length c16):=(by rw [<-hz15];exact BN15.out.cell 16);clear ho hb BNw BRw hzz;have Hz15:Hid _:=hz15;clear hz15)
  |(have hG:=G16;go_at_call 104;clear hG G16;refine (H16.out _ (by rw [<-Hz15.out];exact HB15.out)).mono ?_;rintro e w16 ⟨v16,rfl,ho,hb⟩;rw [<-Hz15.out] at ho hb;obtain ⟨b16,d16,rfl⟩:=ho.shape;have hzz:w.heap.size+2<=z15.heap.size:=(by have:=BR15.out.lt;omega);have BNw:Blk w16 w.heap.size #[.int .i64 n.id,.int .i64 n.sz,.int .i64 n.el,.int .i64 n.bt,.int .i64 n.tm,.int .i64 n.vo,.int .i64 n.ro,.int .i64 n.ld,.int .i64 n.cm,.int .i64 n.nw,.int .i64 n.dl,.int .i64 n.hd,.slice b12 n.log.length d12,.slice b13 n.gr.length d13,.slice b14 n.nx.length d14,.slice b15 n.mt.length d15,.slice a16 n.se.length c16,.slice a17 n.st.length c17] 36:=BN15.out.below hb (by omega);have BRw:Blk w16 (w.heap.size+1) #[.int .i64 0,.int .i64 0,.int .i64 0,.int .i64 0,.int .i64 0,.int .i64 0,.int .i64 0,.int .i64 0,.int .i64 0,.int .i64 0,.int .i64 0,.int .i64 0,.slice none 0 0,.slice none 0 0,.slice none 0 0,.slice none 0 0,.slice none 0 0,.slice none 0 0] 36:=BR15.out.below hb (by omega);have x16:w16.cell? ⟨w.heap.size,16,none⟩=some (.slice a16 n.se.length c16):=BNw.cell 16;have y16:w16.frozen? ⟨w.heap.size,16,none⟩=false:=BNw.free 16;obtain ⟨z16,hz16⟩:∃ z,z=(w16.setCell ⟨w.heap.size,16,none⟩ (.slice b16 n.se.length d16)):=⟨_,rfl⟩;have BN16:Hid (Blk z16 w.heap.size #[.int .i64 n.id,.int .i64 n.sz,.int .i64 n.el,.int .i64 n.bt,.int .i64 n.tm,.int .i64 n.vo,.int .i64 n.ro,.int .i64 n.ld,.int .i64 n.cm,.int .i64 n.nw,.int .i64 n.dl,.int .i64 n.hd,.slice b12 n.log.length d12,.slice b13 n.gr.length d13,.slice b14 n.nx.length d14,.slice b15 n.mt.length d15,.slice b16 n.se.length d16,.slice a17 n.st.length c17] 36):=(by rw [hz16];exact BNw.set 16 _);have BR16:Hid (Blk z16 (w.heap.size+1) #[.int .i64 0,.int .i64 0,.int .i64 0,.int .i64 0,.int .i64 0,.int .i64 0,.int .i64 0,.int .i64 0,.int .i64 0,.int .i64 0,.int .i64 0,.int .i64 0,.slice none 0 0,.slice none 0 0,.slice none 0 0,.slice none 0 0,.slice none 0 0,.slice none 0 0] 36):=(by rw [hz16];exact BRw.set_other _ (by simp));have HB16:Hid (Below w.heap.size w z16):=(by rw [hz16];exact (HB15.out.trans (hb.mono (by omega))).setCell (p:=⟨w.heap.size,16,none⟩) (Nat.le_refl _) _);have hzs16:z15.heap.size<=z16.heap.size:=(by rw [hz16];simp [World.setCell];exact hb.size);have HR12_16:Hid (Zd z16 z11.heap.size (.slice b12 n.log.length d12) n.log):=(by rw [hz16];exact OwnXE.setq (HR12_15.out.below hb) BNw (by decide) _ _);have HR13_16:Hid (Z6 inC 1 3 z16 z12.heap.size (.slice b13 n.gr.length d13) n.gr):=(by rw [hz16];exact OwnXG.setq (HR13_15.out.below hb) BNw (by decide) _ _);have HR14_16:Hid (Z6 inC 1 3 z16 z13.heap.size (.slice b14 n.nx.length d14) n.nx):=(by rw [hz16];exact OwnXG.setq (HR14_15.out.below hb) BNw (by decide) _ _);have HR15_16:Hid (Z6 inC 1 3 z16 z14.heap.size (.slice b15 n.mt.length d15) n.mt):=(by rw [hz16];exact OwnXG.setq (HR15_15.out.below hb) BNw (by decide) _ _);have HR16_16:Hid (Z6 inC 1 3 z16 z15.heap.size (.slice b16 n.se.length d16) n.se):=(by rw [hz16];exact OwnXG.setq ho BNw (by decide) _ _);have e17:(w16.setCell ⟨w.heap.size,16,none⟩ (.slice b16 n.se.length d16)).cell? ⟨w.heap.size,17,none⟩=some (.slice a17 n.st.length c17):=(by rw [<-hz16];exact BN16.out.cell 17);clear ho hb BNw BRw hzz;have Hz16:Hid _:=hz16;clear hz16)
  |(have hG:=G17;go_at_call 104;clear hG G17;refine (H17.out _ (by rw [<-Hz16.out];exact HB16.out)).mono ?_;rintro e w17 ⟨v17,rfl,ho,hb⟩;rw [<-Hz16.out] at ho hb;obtain ⟨b17,d17,rfl⟩:=ho.shape;have hzz:w.heap.size+2<=z16.heap.size:=(by have:=BR16.out.lt;omega);have BNw:Blk w17 w.heap.size #[.int .i64 n.id,.int .i64 n.sz,.int .i64 n.el,.int .i64 n.bt,.int .i64 n.tm,.int .i64 n.vo,.int .i64 n.ro,.int .i64 n.ld,.int .i64 n.cm,.int .i64 n.nw,.int .i64 n.dl,.int .i64 n.hd,.slice b12 n.log.length d12,.slice b13 n.gr.length d13,.slice b14 n.nx.length d14,.slice b15 n.mt.length d15,.slice b16 n.se.length d16,.slice a17 n.st.length c17] 36:=BN16.out.below hb (by omega);have BRw:Blk w17 (w.heap.size+1) #[.int .i64 0,.int .i64 0,.int .i64 0,.int .i64 0,.int .i64 0,.int .i64 0,.int .i64 0,.int .i64 0,.int .i64 0,.int .i64 0,.int .i64 0,.int .i64 0,.slice none 0 0,.slice none 0 0,.slice none 0 0,.slice none 0 0,.slice none 0 0,.slice none 0 0] 36:=BR16.out.below hb (by omega);have x17:w17.cell? ⟨w.heap.size,17,none⟩=some (.slice a17 n.st.length c17):=BNw.cell 17;have y17:w17.frozen? ⟨w.heap.size,17,none⟩=false:=BNw.free 17;obtain ⟨z17,hz17⟩:∃ z,z=(w17.setCell ⟨w.heap.size,17,none⟩ (.slice b17 n.st.length d17)):=⟨_,rfl⟩;have BN17:Hid (Blk z17 w.heap.size #[.int .i64 n.id,.int .i64 n.sz,.int .i64 n.el,.int .i64 n.bt,.int .i64 n.tm,.int .i64 n.vo,.int .i64 n.ro,.int .i64 n.ld,.int .i64 n.cm,.int .i64 n.nw,.int .i64 n.dl,.int .i64 n.hd,.slice b12 n.log.length d12,.slice b13 n.gr.length d13,.slice b14 n.nx.length d14,.slice b15 n.mt.length d15,.slice b16 n.se.length d16,.slice b17 n.st.length d17] 36):=(by rw [hz17];exact BNw.set 17 _);have BR17:Hid (Blk z17 (w.heap.size+1) #[.int .i64 0,.int .i64 0,.int .i64 0,.int .i64 0,.int .i64 0,.int .i64 0,.int .i64 0,.int .i64 0,.int .i64 0,.int .i64 0,.int .i64 0,.int .i64 0,.slice none 0 0,.slice none 0 0,.slice none 0 0,.slice none 0 0,.slice none 0 0,.slice none 0 0] 36):=(by rw [hz17];exact BRw.set_other _ (by simp));have HB17:Hid (Below w.heap.size w z17):=(by rw [hz17];exact (HB16.out.trans (hb.mono (by omega))).setCell (p:=⟨w.heap.size,17,none⟩) (Nat.le_refl _) _);have hzs17:z16.heap.size<=z17.heap.size:=(by rw [hz17];simp [World.setCell];exact hb.size);have HR12_17:Hid (Zd z17 z11.heap.size (.slice b12 n.log.length d12) n.log):=(by rw [hz17];exact OwnXE.setq (HR12_16.out.below hb) BNw (by decide) _ _);have HR13_17:Hid (Z6 inC 1 3 z17 z12.heap.size (.slice b13 n.gr.length d13) n.gr):=(by rw [hz17];exact OwnXG.setq (HR13_16.out.below hb) BNw (by decide) _ _);have HR14_17:Hid (Z6 inC 1 3 z17 z13.heap.size (.slice b14 n.nx.length d14) n.nx):=(by rw [hz17];exact OwnXG.setq (HR14_16.out.below hb) BNw (by decide) _ _);have HR15_17:Hid (Z6 inC 1 3 z17 z14.heap.size (.slice b15 n.mt.length d15) n.mt):=(by rw [hz17];exact OwnXG.setq (HR15_16.out.below hb) BNw (by decide) _ _);have HR16_17:Hid (Z6 inC 1 3 z17 z15.heap.size (.slice b16 n.se.length d16) n.se):=(by rw [hz17];exact OwnXG.setq (HR16_16.out.below hb) BNw (by decide) _ _);have HR17_17:Hid (Z6 inC 1 3 z17 z16.heap.size (.slice b17 n.st.length d17) n.st):=(by rw [hz17];exact OwnXG.setq ho BNw (by decide) _ _);clear ho hb BNw BRw hzz;have Hz17:Hid _:=hz17;clear hz17)
  |(have hBA:=G18;refine Z7 36 (.tmp 1) rfl ?_;clear hBA;rw [<-Hz17.out];refine Z3 rfl 36 (.tmp 1) rfl w.heap.size rfl BN17.out Tryz.underlying36 rfl J6 rfl ?_;clear G18)
  |(have hBA:=G19;refine Xl 36 (.tmp 2) _ rfl ?_;clear hBA;refine Yu rfl 36 (.tmp 2) _ rfl (w.heap.size+1) rfl rfl BR17.out J6 rfl rfl (by simp [Value.oneCell']) ?_;clear G19))
 have HBw:Hid (Below w.heap.size w (z17.setRow (w.heap.size+1) #[.int .i64 n.id,.int .i64 n.sz,.int .i64 n.el,.int .i64 n.bt,.int .i64 n.tm,.int .i64 n.vo,.int .i64 n.ro,.int .i64 n.ld,.int .i64 n.cm,.int .i64 n.nw,.int .i64 n.dl,.int .i64 n.hd,.slice b12 n.log.length d12,.slice b13 n.gr.length d13,.slice b14 n.nx.length d14,.slice b15 n.mt.length d15,.slice b16 n.se.length d16,.slice b17 n.st.length d17])):=Xa HB17.out (by omega) _;have hq:=fun (k:Nat) (hk:k≠w.heap.size+1)=>setRow_other z17 (w.heap.size+1) k #[.int .i64 n.id,.int .i64 n.sz,.int .i64 n.el,.int .i64 n.bt,.int .i64 n.tm,.int .i64 n.vo,.int .i64 n.ro,.int .i64 n.ld,.int .i64 n.cm,.int .i64 n.nw,.int .i64 n.dl,.int .i64 n.hd,.slice b12 n.log.length d12,.slice b13 n.gr.length d13,.slice b14 n.nx.length d14,.slice b15 n.mt.length d15,.slice b16 n.se.length d16,.slice b17 n.st.length d17] hk
 have hs11:w.heap.size<=z11.heap.size:=HB11.out.size;have hs12:w.heap.size<=z12.heap.size:=HB12.out.size;have hs13:w.heap.size<=z13.heap.size:=HB13.out.size;have hs14:w.heap.size<=z14.heap.size:=HB14.out.size;have hs15:w.heap.size<=z15.heap.size:=HB15.out.size;have hs16:w.heap.size<=z16.heap.size:=HB16.out.size;have hs17:w.heap.size<=z17.heap.size:=HB17.out.size;refine bodyPost_ret (Xd (s:=2) (ty:=36) (b:=w.heap.size+1) Tryz.results64 (by rfl) (BR17.out.row #[.int .i64 n.id,.int .i64 n.sz,.int .i64 n.el,.int .i64 n.bt,.int .i64 n.tm,.int .i64 n.vo,.int .i64 n.ro,.int .i64 n.ld,.int .i64 n.cm,.int .i64 n.nw,.int .i64 n.dl,.int .i64 n.hd,.slice b12 n.log.length d12,.slice b13 n.gr.length d13,.slice b14 n.nx.length d14,.slice b15 n.mt.length d15,.slice b16 n.se.length d16,.slice b17 n.st.length d17]) Tryz.underlying36 rfl J6 rfl) rfl ⟨_,_,_,_,_,_,rfl,(HR12_17.out.block fun k e=>hq k (Yp HR12_17.out BR17.out (by decide) k e)).le hs11,(HR13_17.out.block fun k e=>hq k (Zm HR13_17.out BR17.out (by decide) k e)).le hs12,(HR14_17.out.block fun k e=>hq k (Zm HR14_17.out BR17.out (by decide) k e)).le hs13,(HR15_17.out.block fun k e=>hq k (Zm HR15_17.out BR17.out (by decide) k e)).le hs14,(HR16_17.out.block fun k e=>hq k (Zm HR16_17.out BR17.out (by decide) k e)).le hs15,(HR17_17.out.block fun k e=>hq k (Zm HR17_17.out BR17.out (by decide) k e)).le hs16,?_,HBw.out⟩;have p13_14:Zz (.slice b13 n.gr.length d13) (.slice b14 n.nx.length d14):=fun k e1 e2=>by have h1:=(HR13_13.out.lts k e1).2;have h2:=(HR14_17.out.lts k e2).1;omega
 have p13_15:Zz (.slice b13 n.gr.length d13) (.slice b15 n.mt.length d15):=fun k e1 e2=>by have h1:=(HR13_13.out.lts k e1).2;have h2:=(HR15_17.out.lts k e2).1;omega
 have p13_16:Zz (.slice b13 n.gr.length d13) (.slice b16 n.se.length d16):=fun k e1 e2=>by have h1:=(HR13_13.out.lts k e1).2;have h2:=(HR16_17.out.lts k e2).1;omega
 have p13_17:Zz (.slice b13 n.gr.length d13) (.slice b17 n.st.length d17):=fun k e1 e2=>by have h1:=(HR13_13.out.lts k e1).2;have h2:=(HR17_17.out.lts k e2).1;omega
 have p14_15:Zz (.slice b14 n.nx.length d14) (.slice b15 n.mt.length d15):=fun k e1 e2=>by have h1:=(HR14_14.out.lts k e1).2;have h2:=(HR15_17.out.lts k e2).1;omega
 have p14_16:Zz (.slice b14 n.nx.length d14) (.slice b16 n.se.length d16):=fun k e1 e2=>by have h1:=(HR14_14.out.lts k e1).2;have h2:=(HR16_17.out.lts k e2).1;omega
 have p14_17:Zz (.slice b14 n.nx.length d14) (.slice b17 n.st.length d17):=fun k e1 e2=>by have h1:=(HR14_14.out.lts k e1).2;have h2:=(HR17_17.out.lts k e2).1;omega
 have p15_16:Zz (.slice b15 n.mt.length d15) (.slice b16 n.se.length d16):=fun k e1 e2=>by have h1:=(HR15_15.out.lts k e1).2;have h2:=(HR16_17.out.lts k e2).1;omega
 have p15_17:Zz (.slice b15 n.mt.length d15) (.slice b17 n.st.length d17):=fun k e1 e2=>by have h1:=(HR15_15.out.lts k e1).2;have h2:=(HR17_17.out.lts k e2).1;omega
 have p16_17:Zz (.slice b16 n.se.length d16) (.slice b17 n.st.length d17):=fun k e1 e2=>by have h1:=(HR16_16.out.lts k e1).2;have h2:=(HR17_17.out.lts k e2).1;omega
 simp only [List.pairwise_cons,List.mem_cons,List.not_mem_nil,or_false,forall_eq_or_imp,forall_eq,false_imp_iff,implies_true,and_true,List.Pairwise.nil];exact ⟨⟨p13_14,p13_15,p13_16,p13_17⟩,⟨p14_15,p14_16,p14_17⟩,⟨p15_16,p15_17⟩,p16_17⟩
theorem ix_at {w:World}{a:Option Addr}{n c:Nat}{l:List Int}(h:Ix w (.slice a n c) l)(i:Nat)(hi:i<l.length):∃ b off,a=some ⟨b,off,none⟩/\w.cell? ⟨b,off+i,none⟩=some (.int .i64 l[i]):=by
 obtain ⟨-,a',c',e,hc⟩:=h;simp only [Value.slice.injEq] at e;obtain ⟨rfl,-,rfl⟩:=e;obtain ⟨b,off,rfl,hj⟩:=hc i hi;exact ⟨b,off,rfl,hj i hi⟩
theorem holdK_le (n:Nd)(p:Int):∀ k,Z10 n p k<=k
 | 0=>Nat.le_refl _
 | k+1=>by
  have:=holdK_le n p k;rw [Z10];split <;> omega
theorem l4agreed_any (n:Nd)(p N:Nat)(la ma:Option Addr)(lc mc:Nat)(v13 v14 v16 v17:Value)(w:World)(hl:Es w (.slice la n.log.length lc) n.log)(hm:Ix w (.slice ma n.mt.length mc) n.mt)(h13:Z0b v13)(h14:Z0b v14)(h16:Z0b v16)(h17:Z0b v17)(hln:n.log.length<=100000)(hp0:1<=p)(hp1:p<=n.log.length)(hN:n.sz=N)(hNm:n.mt.length=N)(hN7:N<=7)(hodd:n.sz%2=1) :
  Calls Tryz.prog 152 #[.agg #[.int .i64 n.id,.int .i64 n.sz,.int .i64 n.el,.int .i64 n.bt,.int .i64 n.tm,.int .i64 n.vo,.int .i64 n.ro,.int .i64 n.ld,.int .i64 n.cm,.int .i64 n.nw,.int .i64 n.dl,.int .i64 n.hd,.slice la n.log.length lc,v13,v14,.slice ma n.mt.length mc,v16,v17],.int .i64 (p:Int)] w fun e w'=>e=.returned (.bool (Xu n p))/\Below w.heap.size w w':=by
 obtain ⟨a13,n13,c13,rfl⟩:=h13;obtain ⟨a14,n14,c14,rfl⟩:=h14;obtain ⟨a16,n16,c16,rfl⟩:=h16;obtain ⟨a17,n17,c17,rfl⟩:=h17;obtain ⟨q,rfl⟩:∃ q,p=q+1:=⟨p-1,by omega⟩;obtain ⟨W,hW⟩:∃ W,W=w.alloc (.cells #[.int .i64 n.id,.int .i64 n.sz,.int .i64 n.el,.int .i64 n.bt,.int .i64 n.tm,.int .i64 n.vo,.int .i64 n.ro,.int .i64 n.ld,.int .i64 n.cm,.int .i64 n.nw,.int .i64 n.dl,.int .i64 n.hd,.slice la n.log.length lc,.slice a13 n13 c13,.slice a14 n14 c14,.slice ma n.mt.length mc,.slice a16 n16 c16,.slice a17 n17 c17] 36):=⟨_,rfl⟩;have hBW:Hid (Below w.heap.size w W):=by rw [hW];exact (Below.refl _ _).alloc (Nat.le_refl _) _
 have hWz:W.heap.size=w.heap.size+1:=by rw [hW];simp
 have BN:Hid (Blk W w.heap.size #[.int .i64 n.id,.int .i64 n.sz,.int .i64 n.el,.int .i64 n.bt,.int .i64 n.tm,.int .i64 n.vo,.int .i64 n.ro,.int .i64 n.ld,.int .i64 n.cm,.int .i64 n.nw,.int .i64 n.dl,.int .i64 n.hd,.slice la n.log.length lc,.slice a13 n13 c13,.slice a14 n14 c14,.slice ma n.mt.length mc,.slice a16 n16 c16,.slice a17 n17 c17] 36):=by rw [hW];exact Blk.new _ _ _
 have HM:Hid (∀ c:Nat,c<=8->∀ z,Calls Tryz.prog 100 #[.int .i64 (c:Int),.int .i64 (N:Int)] z fun e w'=>e=.returned (.bool (Xe (c:Int) (N:Int)))/\w'=z):=fun c hc z=>by
  have h9:=J8 (c:Int) (N:Int) (by rw [<-hN];exact hodd) (by omega) (by omega) z;rw [maj_same (by rw [<-hN];exact hodd)] at h9;exact h9
 have hl':=hl.below hBW.out;have hm':=hm.below hBW.out;have x12:W.cell? ⟨w.heap.size,12,none⟩=some (.slice la n.log.length lc):=BN.out.cell 12;have x15:W.cell? ⟨w.heap.size,15,none⟩=some (.slice ma n.mt.length mc):=BN.out.cell 15;have x1:W.cell? ⟨w.heap.size,1,none⟩=some (.int .i64 (N:Int)):=by rw [<-hN];exact BN.out.cell 1
 have x0:W.cell? ⟨w.heap.size,0,none⟩=some (.int .i64 n.id):=BN.out.cell 0;have x4:W.cell? ⟨w.heap.size,4,none⟩=some (.int .i64 n.tm):=BN.out.cell 4
 have HA:Hid (Xu n (q+1)=(Xe (((Z10 n ((q:Int)+1) N+1:Nat)):Int) (N:Int) && ((n.log[q]'(by omega)).t == n.tm))):=by
  unfold Hid Xu Yb;rw [hN,if_neg (by omega),List.getElem?_eq_getElem (by omega)];simp only [Nat.add_sub_cancel,Option.map_some,Option.getD_some,Int.toNat_natCast];rw [show (1+((Z10 n ((q+1:Nat):Int) N:Nat):Int))=((Z10 n ((q:Int)+1) N+1:Nat):Int) by push_cast;omega];rfl
 obtain ⟨lb,lo,rfl,ct⟩:=Z1q hl' q (by omega);have HIx:Hid (Ix W (.slice ma n.mt.length mc) n.mt):=hm';have HH:Hid (∀ k,Z10 n ((q:Int)+1) (k+1)=Z10 n ((q:Int)+1) k+if (k:Int)+1≠n.id/\(q:Int)+1<=n.mt.getD k 0 then 1 else 0):=fun k=>rfl
 have HHl:Hid (∀ k,Z10 n ((q:Int)+1) k<=k):=holdK_le _ _;have HH0:Hid (Z10 n ((q:Int)+1) 0=0):=rfl;have hql:(q:Int)<(n.log.length:Int):=by omega
 have hwq:IntKind.i64.wrap ((q:Int)+1-1)=(q:Int):=by rw [IntKind.wrap_i64];omega
 have HNm:Hid (n.mt.length=N):=hNm;generalize Xu n (q+1)=A at *;generalize (n.log[q]'(by omega)).t=T1 at *;generalize hgH:Z10 n ((q:Int)+1)=hK at *;clear hl hm hl' hm' BN hgH hNm hN hodd;go_enter Tryz.func152,Tryz.ntmps152;go_wp2;rw [<-hW];clear hW
 go_loopw [5,6] (fun cv jv wr=>∃ k:Nat,k<=N/\jv=.int .i64 ((k:Int)+1)/\cv=.int .i64 ((hK k+1:Nat):Int)/\wr=W) (fun _ jv _=>N+1-(intOf jv).toNat)
 case atStart=>exact ⟨0,Nat.zero_le _,rfl,by rw [HH0.out];rfl,rfl⟩
 case round=>
  obtain ⟨k,hk,rfl,rfl,hwr⟩:=hrel;have hwr2:=hwr.symm;subst hwr2;have hck:=HHl.out k;have hst:=HH.out k;by_cases hlt:k<N
  ·have hle:((k:Int)+1)<=(N:Int):=by omega
   have hwk:IntKind.i64.wrap ((k:Int)+1-1)=(k:Int):=by rw [IntKind.wrap_i64];omega
   have hwc:IntKind.i64.wrap (((hK k+1:Nat):Int)+1)=((hK k+1+1:Nat):Int):=by rw [IntKind.wrap_i64];push_cast;omega
   have hkm:(k:Int)<(n.mt.length:Int):=by rw [HNm.out];omega
   obtain ⟨mb,mo,rfl,cm⟩:=ix_at HIx.out k (by omega);have hgd:n.mt.getD k 0=n.mt[k]'(by omega):=by rw [List.getD_eq_getElem?_getD,List.getElem?_eq_getElem (by omega)];rfl
   rw [hgd] at hst;clear hgd;generalize (n.mt[k]'(by omega))=MK at *;by_cases hj:(k:Int)+1=n.id
   ·have hjb:(((k:Int)+1) != n.id)=false:=by simpa using hj
    rw [if_neg (fun h=>h.1 hj)] at hst;have HN:Hid (hK (k+1)=hK k):=by rw [hst];rfl
    clear hst hj
    go_wp2_with fail
    go_roundw
    case rel=>exact ⟨k+1,by omega,by go_num,by rw [HN.out],trivial⟩
    case measure=>simp [intOf];omega
   ·have hjb:(((k:Int)+1) != n.id)=true:=by simpa using hj
    by_cases hg:(q:Int)+1<=MK
    ·rw [if_pos ⟨hj,hg⟩] at hst
     have HN:Hid (hK (k+1)=hK k+1):=hst;have hgb:decide ((q:Int)+1<=MK)=true:=decide_eq_true hg;clear hst hj
     go_wp2_with fail
     go_roundw
     case rel=>exact ⟨k+1,by omega,by go_num,by rw [HN.out];go_num,trivial⟩
     case measure=>simp [intOf];omega
    ·rw [if_neg (fun h=>hg h.2)] at hst
     have HN:Hid (hK (k+1)=hK k):=by rw [hst];rfl
     have hgb:decide ((q:Int)+1<=MK)=false:=decide_eq_false hg;clear hst hj
     go_wp2_with fail
     go_roundw
     case rel=>exact ⟨k+1,by omega,by go_num,by rw [HN.out],trivial⟩
     case measure=>simp [intOf];omega
  ·obtain rfl:k=N:=by omega
   have hle:¬((k:Int)+1)<=(k:Int):=by omega
   have HMk:=HM.out (hK k+1) (by omega);have HMk2:Hid _:=HMk;clear hst HH HMk HM;generalize hK k+1=c at *
   go_upto_region 7 with fail
   cases hmj:Xe (c:Int) (k:Int)
   ·rw [hmj] at HA HMk2
    go_quiet ((go_at_call 100;exact Calls.quiet_of_same (HMk2.out _)))
    go_wp2_with fail
    go_ret;exact ⟨by rw [HA.out];rfl,hBW.out.trans ⟨rfl,rfl,rfl,Nat.le_refl _,fun _ _=>rfl⟩⟩
   ·rw [hmj] at HA HMk2
    cases hte:(T1 == n.tm)
    ·rw [hte] at HA
     go_quiet ((go_at_call 100;exact Calls.quiet_of_same (HMk2.out _)))
     go_wp2_with fail
     go_ret;exact ⟨by rw [HA.out];rfl,hBW.out.trans ⟨rfl,rfl,rfl,Nat.le_refl _,fun _ _=>rfl⟩⟩
    ·rw [hte] at HA
     go_quiet ((go_at_call 100;exact Calls.quiet_of_same (HMk2.out _)))
     go_wp2_with fail
     go_ret;exact ⟨by rw [HA.out];rfl,hBW.out.trans ⟨rfl,rfl,rfl,Nat.le_refl _,fun _ _=>rfl⟩⟩
theorem Jd {w:World}{B:Nat}{v:Value}{l:List Int}(h:Z6 inC 1 3 w B v l)(J:Nat)(hJ:J<l.length):∃ g c,v=.slice (some ⟨g,0,none⟩) l.length c/\g<w.heap.size/\w.cell? ⟨g,J,none⟩=some (.int .i64 l[J])/\w.frozen? ⟨g,J,none⟩=false:=by
 obtain ⟨g,c,rfl⟩:=h.shape' (by omega);refine ⟨g,c,rfl,(h.lts g rfl).2,?_,World.ownsRow.frozenAt h J⟩;rw [World.ownsRow.cellAt h J (by omega),gC_in];simp [hJ]
theorem Z1y (ev:Value)(lt tm:Int)(l:List Ent)(w:World)(hv:Es w ev l)(hll:l.length<=1048576) :
  Calls Tryz.prog 69 #[ev,.int .i64 lt,.int .i64 tm] w fun r w'=>r=.returned (.bool (J0 tm lt l))/\Below w.heap.size w w':=by
 obtain ⟨hl,hf,a,cap,rfl,hc⟩:=hv;go_enter Tryz.func69,Tryz.ntmps69;go_wp2
 go_loopw [1,11] (fun t i wr=>∃(k:Nat) (x:Int),k<=l.length/\i=.int .i64 k/\t=.int .i64 x/\J0 tm lt l=J0 tm x (l.drop k)/\Below w.heap.size w wr) (fun _ i _=>l.length-(intOf i).toNat)
 case atStart=>exact ⟨0,lt,Nat.zero_le _,rfl,rfl,by simp,Below.refl _ _⟩
 case round=>
  obtain ⟨k,x,hk,rfl,rfl,hfl,hB⟩:=hrel;have HF:Hid (J0 tm lt l=J0 tm x (l.drop k)):=hfl;have hz:=hB.size;clear hfl;by_cases hlt:k<l.length
  ·obtain ⟨b,off,rfl,hj⟩:=hc k hlt
   obtain ⟨c0,c1,c2,c3,c4,c5,c6⟩:=(hj k hlt).below hB;have hfk:=hf l[k] (List.getElem_mem hlt);have HD:Hid (J0 tm x (l.drop k)=(entB l[k] && inB l[k].t x tm && J0 tm l[k].t (l.drop (k+1)))):=fitL_drop tm x l k hlt;clear hc hj;generalize l[k]=e at *
   go_wp2_with (first
    |(go_at_call 109;refine (entryFits_any e hfk _).mono ?_;rintro r w1 ⟨rfl,hb⟩;obtain ⟨hc1,hf1⟩:=Jw hb;have hz1:wr.heap.size<w1.heap.size:=(by have:=hb.size;simp at this;omega))
    |(go_at_call 70;refine (Z2 _ _ _ _).mono ?_;rintro r w' ⟨rfl,rfl⟩))
   ·go_ret
    exact ⟨Yg (by rw [HF.out,HD.out];go_light;simp_all),hB.trans (((Below.refl _ _).alloc (by omega) _).trans (hb.mono (by simp;omega)))⟩
   ·go_roundw
    case rel=>exact ⟨k+1,e.t,by omega,by go_num,rfl,by rw [HF.out,HD.out];go_light;simp_all,hB.trans (((Below.refl _ _).alloc (by omega) _).trans (hb.mono (by simp;omega)))⟩
    case measure=>simp [intOf];omega
   ·go_ret
    exact ⟨Yg (by rw [HF.out,HD.out];go_light;simp_all),hB.trans (((Below.refl _ _).alloc (by omega) _).trans (hb.mono (by simp;omega)))⟩
  ·have hd:l.drop k = []:=List.drop_of_length_le (by omega)
   go_wp2;go_ret;exact ⟨Yg (by rw [HF.out,hd];rfl),hB⟩
theorem Z43 {e:Ent}{low high:Int}(X:Bool)(h:entB e=false∨e.t<low∨high<e.t):(entB e && inB e.t low high && X)=false:=by
 rcases h with h | h
 ·rw [h];rfl
 ·rw [(Z0h _ _ _).2 h];simp
theorem fit_yes {e:Ent}{low high:Int}(X:Bool)(h:entB e=true)(h1:low<=e.t)(h2:e.t<=high):(entB e && inB e.t low high && X)=X:=by
 rw [h,(Zk _ _ _).2 ⟨h1,h2⟩];rfl
theorem prev_step (low:Int)(l:List Ent)(k:Nat)(h:k<l.length):(if k+1=0 then low else (l[k+1-1]?.map Ent.t).getD 0)=l[k].t:=by simp [h]
theorem Y8 (ev:Value)(low high:Int)(l:List Ent)(w:World)(hv:Es w ev l)(hll:l.length<=1048576) :
  Calls Tryz.prog 57 #[ev,.int .i64 low,.int .i64 high] w fun r w'=>r=.returned (.bool (J0 high low l))/\Below w.heap.size w w':=by
 obtain ⟨hl,hf,a,cap,rfl,hc⟩:=hv;go_enter Tryz.func57,Tryz.ntmps57;go_wp2
 go_loopw [7] (fun i wr=>∃ k:Nat,k<=l.length/\i=.int .i64 k/\J0 high low l=J0 high (if k=0 then low else (l[k-1]?.map Ent.t).getD 0) (l.drop k)/\Below w.heap.size w wr) (fun i _=>l.length-(intOf i).toNat)
 case atStart=>exact ⟨0,Nat.zero_le _,rfl,by simp,Below.refl _ _⟩
 case round=>
  obtain ⟨k,hk,rfl,hfl,hB⟩:=hrel;have HF:Hid (J0 high low l=J0 high (if k=0 then low else (l[k-1]?.map Ent.t).getD 0) (l.drop k)):=hfl;have hz:=hB.size;clear hfl;by_cases hlt:k<l.length
  ·obtain ⟨b,off,rfl,hj⟩:=hc k hlt
   have hfk:=hf l[k] (List.getElem_mem hlt);have HD:∀ x,Hid (J0 high x (l.drop k)=(entB l[k] && inB l[k].t x high && J0 high l[k].t (l.drop (k+1)))):=fun x=>fitL_drop high x l k hlt
   have HP:Hid ((if k+1=0 then low else (l[k+1-1]?.map Ent.t).getD 0)=l[k].t):=prev_step low l k hlt;by_cases h0:k=0
   ·subst h0
    obtain ⟨c0,c1,c2,c3,c4,c5,c6⟩:=(hj 0 hlt).below hB;have hlow:(if (0:Nat)=0 then low else (l[0-1]?.map Ent.t).getD 0)=low:=rfl;rw [hlow] at HF;clear hc hj hlow;simp only [Nat.zero_mul,Nat.add_zero] at c0 c1 c2 c3 c4 c5 c6;generalize l[0]=e at *
    go_wp2_with (go_at_call 97;refine (Z4j e hfk _).mono ?_;rintro r w1 ⟨rfl,hb⟩;obtain ⟨hc1,hf1⟩:=Jw hb;have hbl:=Yd c0)
    ·go_ret
     exact ⟨Yg (by rw [HF.out,(HD _).out,Z43];go_light;cases hE:entB e <;> simp_all <;> omega),hB.trans (hb.mono hz)⟩
    ·go_ret
     exact ⟨Yg (by rw [HF.out,(HD _).out,Z43];go_light;cases hE:entB e <;> simp_all <;> omega),hB.trans (hb.mono hz)⟩
    ·go_quiet (fail)
     go_wp2
     go_roundw
     case rel=>exact ⟨0+1,by omega,by go_num,by rw [HF.out,(HD _).out,HP.out,fit_yes] <;> (go_light;cases hE:entB e <;> simp_all <;> omega),hB.trans ((hb.mono hz).trans ⟨rfl,rfl,rfl,Nat.le_refl _,fun _ _=>rfl⟩)⟩
     case measure=>simp [intOf];omega
    ·go_ret
     exact ⟨Yg (by rw [HF.out,(HD _).out,Z43];go_light;cases hE:entB e <;> simp_all <;> omega),hB.trans (hb.mono hz)⟩
   ·obtain ⟨j,rfl⟩:∃ j,k=j+1:=⟨k-1,by omega⟩
    have hp:j<l.length:=by omega
    have hprev:(if j+1=0 then low else (l[j+1-1]?.map Ent.t).getD 0)=l[j].t:=prev_step low l j hp;rw [hprev] at HF;obtain ⟨c0,c1,c2,c3,c4,c5,c6⟩:=(hj (j+1) hlt).below hB;obtain ⟨p0,_⟩:=(hj j hp).below hB;have hbl:=Yd c0;clear hc hj hprev h0;generalize l[j]=pe at *;generalize l[j+1]=e at *
    go_wp2_with (go_at_call 97;refine (Z4j e hfk _).mono ?_;rintro r w1 ⟨rfl,hb⟩;obtain ⟨hc1,hf1⟩:=Jw hb)
    ·go_ret
     exact ⟨Yg (by rw [HF.out,(HD _).out,Z43];go_light;cases hE:entB e <;> simp_all <;> omega),hB.trans (hb.mono hz)⟩
    ·go_quiet (fail)
     go_wp2
     ·go_ret
      exact ⟨Yg (by rw [HF.out,(HD _).out,Z43];go_light;cases hE:entB e <;> simp_all <;> omega),hB.trans ((hb.mono hz).trans ⟨rfl,rfl,rfl,Nat.le_refl _,fun _ _=>rfl⟩)⟩
     ·go_roundw
      case rel=>exact ⟨j+1+1,by omega,by go_num,by rw [HF.out,(HD _).out,HP.out,fit_yes] <;> (go_light;cases hE:entB e <;> simp_all <;> omega),hB.trans ((hb.mono hz).trans ⟨rfl,rfl,rfl,Nat.le_refl _,fun _ _=>rfl⟩)⟩
      case measure=>simp [intOf];omega
    ·go_ret
     exact ⟨Yg (by rw [HF.out,(HD _).out,Z43];go_light;cases hE:entB e <;> simp_all <;> omega),hB.trans (hb.mono hz)⟩
  ·have hd:l.drop k = []:=List.drop_of_length_le (by omega)
   go_wp2;go_ret;exact ⟨Yg (by rw [HF.out,hd];rfl),hB⟩
def sizB (n:Int):Bool:=n == 3 || n == 5 || n == 7
theorem Z0d (n:Int)(w:World):Calls Tryz.prog 108 #[.int .i64 n] w fun e w'=>e=.returned (.bool (sizB n))/\w'=w:=by
 by_cases h3:n=3
 ·subst h3
  go_enter Tryz.func108,Tryz.ntmps108;go_wp2;go_ret;exact ⟨rfl,rfl⟩
 ·by_cases h5:n=5
  ·subst h5
   go_enter Tryz.func108,Tryz.ntmps108;go_wp2;go_ret;exact ⟨rfl,rfl⟩
  ·go_enter Tryz.func108,Tryz.ntmps108
   go_wp2;go_ret;exact ⟨by simp [sizB,h3,h5],rfl⟩
theorem Z1u (n:Int)(w:World):Calls Tryz.prog 98 #[.int .i64 n] w fun e w'=>e=.returned (.bool (sizB n))/\w'=w:=by
 by_cases h3:n=3
 ·subst h3
  go_enter Tryz.func98,Tryz.ntmps98;go_wp2;go_ret;exact ⟨rfl,rfl⟩
 ·by_cases h5:n=5
  ·subst h5
   go_enter Tryz.func98,Tryz.ntmps98;go_wp2;go_ret;exact ⟨rfl,rfl⟩
  ·go_enter Tryz.func98,Tryz.ntmps98
   go_wp2;go_ret;exact ⟨by simp [sizB,h3,h5],rfl⟩
def Zr (id sz el bt:Int):Bool:=sizB sz && (inB id 1 sz && (inB el 2 1000 && inB bt 1 el))
theorem Z2q (id sz el bt:Int)(w:World):Calls Tryz.prog 66 #[.int .i64 id,.int .i64 sz,.int .i64 el,.int .i64 bt] w fun e w'=>e=.returned (.bool (Zr id sz el bt))/\w'=w:=by
 have g1:True:=trivial;have g2:True:=trivial;cases h1:sizB sz
 ·have e:Zr id sz el bt=false:=by simp [Zr,h1]
  rw [e];go_enter Tryz.func66,Tryz.ntmps66
  go_wp2_with (go_at_call 108;refine (Z0d _ _).mono ?_;rintro e w1 ⟨rfl,hw⟩;obtain rfl:=hw.symm;rw [h1])
  go_ret;exact ⟨rfl,rfl⟩
 ·cases h2:inB id 1 sz
  ·have e:Zr id sz el bt=false:=by simp [Zr,h2]
   rw [e];go_enter Tryz.func66,Tryz.ntmps66
   go_wp2_with (first
    |(go_at_call 108;refine (Z0d _ _).mono ?_;rintro e w1 ⟨rfl,hw⟩;obtain rfl:=hw.symm;rw [h1])
    |(go_at_call 70;clear g1;refine (Z2 id 1 sz _).mono ?_;rintro e w1 ⟨rfl,hw⟩;obtain rfl:=hw.symm;rw [h2]))
   go_ret;exact ⟨rfl,rfl⟩
  ·cases h3:inB el 2 1000
   ·have e:Zr id sz el bt=false:=by simp [Zr,h3]
    rw [e];go_enter Tryz.func66,Tryz.ntmps66
    go_wp2_with (first
     |(go_at_call 108;refine (Z0d _ _).mono ?_;rintro e w1 ⟨rfl,hw⟩;obtain rfl:=hw.symm;rw [h1])
     |(go_at_call 70;clear g1;refine (Z2 id 1 sz _).mono ?_;rintro e w1 ⟨rfl,hw⟩;obtain rfl:=hw.symm;rw [h2])
     |(go_at_call 70;clear g2;refine (Z2 el 2 1000 _).mono ?_;rintro e w1 ⟨rfl,hw⟩;obtain rfl:=hw.symm;rw [h3]))
    go_ret;exact ⟨rfl,rfl⟩
   ·have e:Zr id sz el bt=inB bt 1 el:=by simp [Zr,h1,h2,h3]
    rw [e];go_enter Tryz.func66,Tryz.ntmps66
    go_wp2_with (first
     |(go_at_call 108;refine (Z0d _ _).mono ?_;rintro e w1 ⟨rfl,hw⟩;obtain rfl:=hw.symm;rw [h1])
     |(go_at_call 70;clear g1;refine (Z2 id 1 sz _).mono ?_;rintro e w1 ⟨rfl,hw⟩;obtain rfl:=hw.symm;rw [h2])
     |(go_at_call 70;clear g2;refine (Z2 el 2 1000 _).mono ?_;rintro e w1 ⟨rfl,hw⟩;obtain rfl:=hw.symm;rw [h3])
     |(go_at_call 70;refine (Z2 bt 1 el _).mono ?_;rintro e w1 ⟨rfl,hw⟩;obtain rfl:=hw.symm))
    go_ret;exact ⟨rfl,rfl⟩
theorem Ze (id sz el bt:Int)(w:World):Calls Tryz.prog 58 #[.int .i64 id,.int .i64 sz,.int .i64 el,.int .i64 bt] w fun e w'=>e=.returned (.bool (Zr id sz el bt))/\w'=w:=by
 have g1:True:=trivial;have g2:True:=trivial;cases h1:sizB sz
 ·have e:Zr id sz el bt=false:=by simp [Zr,h1]
  rw [e];go_enter Tryz.func58,Tryz.ntmps58
  go_wp2_with (go_at_call 98;refine (Z1u _ _).mono ?_;rintro e w1 ⟨rfl,hw⟩;obtain rfl:=hw.symm;rw [h1])
  go_ret;exact ⟨rfl,rfl⟩
 ·cases h2:inB id 1 sz
  ·have e:Zr id sz el bt=false:=by simp [Zr,h2]
   rw [e];go_enter Tryz.func58,Tryz.ntmps58
   go_wp2_with (first
    |(go_at_call 98;refine (Z1u _ _).mono ?_;rintro e w1 ⟨rfl,hw⟩;obtain rfl:=hw.symm;rw [h1])
    |(go_at_call 56;clear g1;refine (Z1 id 1 sz _).mono ?_;rintro e w1 ⟨rfl,hw⟩;obtain rfl:=hw.symm;rw [h2]))
   go_ret;exact ⟨rfl,rfl⟩
  ·cases h3:inB el 2 1000
   ·have e:Zr id sz el bt=false:=by simp [Zr,h3]
    rw [e];go_enter Tryz.func58,Tryz.ntmps58
    go_wp2_with (first
     |(go_at_call 98;refine (Z1u _ _).mono ?_;rintro e w1 ⟨rfl,hw⟩;obtain rfl:=hw.symm;rw [h1])
     |(go_at_call 56;clear g1;refine (Z1 id 1 sz _).mono ?_;rintro e w1 ⟨rfl,hw⟩;obtain rfl:=hw.symm;rw [h2])
     |(go_at_call 56;clear g2;refine (Z1 el 2 1000 _).mono ?_;rintro e w1 ⟨rfl,hw⟩;obtain rfl:=hw.symm;rw [h3]))
    go_ret;exact ⟨rfl,rfl⟩
   ·have e:Zr id sz el bt=inB bt 1 el:=by simp [Zr,h1,h2,h3]
    rw [e];go_enter Tryz.func58,Tryz.ntmps58
    go_wp2_with (first
     |(go_at_call 98;refine (Z1u _ _).mono ?_;rintro e w1 ⟨rfl,hw⟩;obtain rfl:=hw.symm;rw [h1])
     |(go_at_call 56;clear g1;refine (Z1 id 1 sz _).mono ?_;rintro e w1 ⟨rfl,hw⟩;obtain rfl:=hw.symm;rw [h2])
     |(go_at_call 56;clear g2;refine (Z1 el 2 1000 _).mono ?_;rintro e w1 ⟨rfl,hw⟩;obtain rfl:=hw.symm;rw [h3])
     |(go_at_call 56;refine (Z1 bt 1 el _).mono ?_;rintro e w1 ⟨rfl,hw⟩;obtain rfl:=hw.symm))
    go_ret;exact ⟨rfl,rfl⟩
def Yx (sz tm vo:Int):Bool:=inB tm 0 1073741824 && (inB vo 0 sz && (vo == 0 || decide (0<tm)))
theorem voteFits_any (i0 i1 i2 i3 i4 i5 i6 i7 i8 i9 i10 i11:Int)(a12 a13 a14 a15 a16 a17:Option Addr)(n12 cap12 n13 cap13 n14 cap14 n15 cap15 n16 cap16 n17 cap17:Nat)(w:World):Calls Tryz.prog 67 #[.agg #[.int .i64 i0,.int .i64 i1,.int .i64 i2,.int .i64 i3,.int .i64 i4,.int .i64 i5,.int .i64 i6,.int .i64 i7,.int .i64 i8,.int .i64 i9,.int .i64 i10,.int .i64 i11,.slice a12 n12 cap12,.slice a13 n13 cap13,.slice a14 n14 cap14,.slice a15 n15 cap15,.slice a16 n16 cap16,.slice a17 n17 cap17]] w fun e w'=>e=.returned (.bool (Yx i1 i4 i5))/\Below w.heap.size w w':=by
 have hb0:Hid (Below w.heap.size w (w.alloc (.cells #[.int .i64 i0,.int .i64 i1,.int .i64 i2,.int .i64 i3,.int .i64 i4,.int .i64 i5,.int .i64 i6,.int .i64 i7,.int .i64 i8,.int .i64 i9,.int .i64 i10,.int .i64 i11,.slice a12 n12 cap12,.slice a13 n13 cap13,.slice a14 n14 cap14,.slice a15 n15 cap15,.slice a16 n16 cap16,.slice a17 n17 cap17] 36))):=(Below.refl _ _).alloc (Nat.le_refl _) _;have g1:True:=trivial;cases h1:inB i4 0 1073741824
 ·have e:Yx i1 i4 i5=false:=by simp [Yx,h1]
  rw [e];go_enter Tryz.func67,Tryz.ntmps67
  go_wp2_with (go_at_call 70;clear g1;refine (Z2 i4 0 1073741824 _).mono ?_;rintro e w1 ⟨rfl,hw⟩;obtain rfl:=hw.symm;rw [h1])
  go_ret;exact ⟨rfl,hb0.out⟩
 ·cases h2:inB i5 0 i1
  ·have e:Yx i1 i4 i5=false:=by simp [Yx,h2]
   rw [e];go_enter Tryz.func67,Tryz.ntmps67
   go_wp2_with (first
    |(go_at_call 70;clear g1;refine (Z2 i4 0 1073741824 _).mono ?_;rintro e w1 ⟨rfl,hw⟩;obtain rfl:=hw.symm;rw [h1])
    |(go_at_call 70;refine (Z2 i5 0 i1 _).mono ?_;rintro e w1 ⟨rfl,hw⟩;obtain rfl:=hw.symm;rw [h2]))
   go_ret;exact ⟨rfl,hb0.out⟩
  ·by_cases h0:i5=0
   ·subst h0
    have e:Yx i1 i4 0=true:=by simp [Yx,h1,h2]
    rw [e];go_enter Tryz.func67,Tryz.ntmps67
    go_wp2_with (first
     |(go_at_call 70;clear g1;refine (Z2 i4 0 1073741824 _).mono ?_;rintro e w1 ⟨rfl,hw⟩;obtain rfl:=hw.symm;rw [h1])
     |(go_at_call 70;refine (Z2 0 0 i1 _).mono ?_;rintro e w1 ⟨rfl,hw⟩;obtain rfl:=hw.symm;rw [h2]))
    go_ret;exact ⟨rfl,hb0.out⟩
   ·have e:Yx i1 i4 i5=decide (0<i4):=by simp [Yx,h1,h2,h0]
    rw [e];go_enter Tryz.func67,Tryz.ntmps67
    go_wp2_with (first
     |(go_at_call 70;clear g1;refine (Z2 i4 0 1073741824 _).mono ?_;rintro e w1 ⟨rfl,hw⟩;obtain rfl:=hw.symm;rw [h1])
     |(go_at_call 70;refine (Z2 i5 0 i1 _).mono ?_;rintro e w1 ⟨rfl,hw⟩;obtain rfl:=hw.symm;rw [h2]))
    go_ret;exact ⟨by simp [h0],hb0.out⟩
def Y7 (el nw dl hd:Int):Bool:=inB nw 0 1099511627776 && (inB dl 0 (nw+2*el) && inB hd 0 nw)
theorem clockFits_any (i0 i1 i2 i3 i4 i5 i6 i7 i8 i9 i10 i11:Int)(a12 a13 a14 a15 a16 a17:Option Addr)(n12 cap12 n13 cap13 n14 cap14 n15 cap15 n16 cap16 n17 cap17:Nat)(w:World)(hel:0<=i2)(hel':i2<=1000):Calls Tryz.prog 71 #[.agg #[.int .i64 i0,.int .i64 i1,.int .i64 i2,.int .i64 i3,.int .i64 i4,.int .i64 i5,.int .i64 i6,.int .i64 i7,.int .i64 i8,.int .i64 i9,.int .i64 i10,.int .i64 i11,.slice a12 n12 cap12,.slice a13 n13 cap13,.slice a14 n14 cap14,.slice a15 n15 cap15,.slice a16 n16 cap16,.slice a17 n17 cap17]] w fun e w'=>e=.returned (.bool (Y7 i2 i9 i10 i11))/\Below w.heap.size w w':=by
 have hb0:Hid (Below w.heap.size w (w.alloc (.cells #[.int .i64 i0,.int .i64 i1,.int .i64 i2,.int .i64 i3,.int .i64 i4,.int .i64 i5,.int .i64 i6,.int .i64 i7,.int .i64 i8,.int .i64 i9,.int .i64 i10,.int .i64 i11,.slice a12 n12 cap12,.slice a13 n13 cap13,.slice a14 n14 cap14,.slice a15 n15 cap15,.slice a16 n16 cap16,.slice a17 n17 cap17] 36))):=(Below.refl _ _).alloc (Nat.le_refl _) _;have g1:True:=trivial;have g2:True:=trivial;cases h1:inB i9 0 1099511627776
 ·have e:Y7 i2 i9 i10 i11=false:=by simp [Y7,h1]
  rw [e];go_enter Tryz.func71,Tryz.ntmps71
  go_wp2_with (go_at_call 70;clear g1;refine (Z2 i9 0 1099511627776 _).mono ?_;rintro e w1 ⟨rfl,hw⟩;obtain rfl:=hw.symm;rw [h1])
  go_ret;exact ⟨rfl,hb0.out⟩
 ·have hn:=(Zk _ _ _).1 h1
  cases h2:inB i10 0 (i9+2*i2)
  ·have e:Y7 i2 i9 i10 i11=false:=by simp [Y7,h2]
   rw [e];go_enter Tryz.func71,Tryz.ntmps71
   go_wp2_with (first
    |(go_at_call 70;clear g1;refine (Z2 i9 0 1099511627776 _).mono ?_;rintro e w1 ⟨rfl,hw⟩;obtain rfl:=hw.symm;rw [h1])
    |(go_at_call 70;clear g2;refine (Z2 i10 0 (i9+2*i2) _).mono ?_;rintro e w1 ⟨rfl,hw⟩;obtain rfl:=hw.symm;rw [h2]))
   go_ret;exact ⟨rfl,hb0.out⟩
  ·have e:Y7 i2 i9 i10 i11=inB i11 0 i9:=by simp [Y7,h1,h2]
   rw [e];go_enter Tryz.func71,Tryz.ntmps71
   go_wp2_with (first
    |(go_at_call 70;clear g1;refine (Z2 i9 0 1099511627776 _).mono ?_;rintro e w1 ⟨rfl,hw⟩;obtain rfl:=hw.symm;rw [h1])
    |(go_at_call 70;clear g2;refine (Z2 i10 0 (i9+2*i2) _).mono ?_;rintro e w1 ⟨rfl,hw⟩;obtain rfl:=hw.symm;rw [h2])
    |(go_at_call 70;refine (Z2 i11 0 i9 _).mono ?_;rintro e w1 ⟨rfl,hw⟩;obtain rfl:=hw.symm))
   go_ret;exact ⟨rfl,hb0.out⟩
def Z2b (cl sq op k v o:Int):Int:=if Jk cl sq op k v o=0/\op=0 then 1 else Jk cl sq op k v o
theorem callFault_any (cl sq op:Int)(k v o:ByteArray)(hk:k.size<=maxLen)(hv:v.size<=maxLen)(ho:o.size<=maxLen)(w:World) :
  Calls Tryz.prog 136 #[.agg #[.int .i64 cl,.int .i64 sq,.int .i64 op,.string k,.string v,.string o]] w fun e w'=>
   e=.returned (.int .i64 (Z2b cl sq op k.size v.size o.size))/\Below w.heap.size w w':=by
 by_cases h0:Jk cl sq op k.size v.size o.size=0
 ·by_cases h1:op=0
  ·have e:Z2b cl sq op k.size v.size o.size=1:=by rw [Z2b,if_pos ⟨h0,h1⟩]
   rw [e];subst h1;go_enter Tryz.func136,Tryz.ntmps136
   go_wp2_with (go_at_call 144;refine (Jf cl sq 0 k v o hk hv ho _).mono ?_;rintro e w1 ⟨rfl,hb⟩;obtain ⟨hc,hf⟩:=Jw hb)
   go_ret;exact ⟨rfl,((Below.refl _ _).alloc (Nat.le_refl _) _).trans (hb.mono (by simp))⟩
  ·have e:Z2b cl sq op k.size v.size o.size=0:=by rw [Z2b,if_neg (fun h=>h1 h.2),h0]
   have n1:(op == 0)=false:=by simpa using h1
   rw [e];go_enter Tryz.func136,Tryz.ntmps136
   go_wp2_with (go_at_call 144;refine (Jf cl sq op k v o hk hv ho _).mono ?_;rintro e w1 ⟨rfl,hb⟩;obtain ⟨hc,hf⟩:=Jw hb)
   go_ret;exact ⟨rfl,((Below.refl _ _).alloc (Nat.le_refl _) _).trans (hb.mono (by simp))⟩
 ·have e:Z2b cl sq op k.size v.size o.size=Jk cl sq op k.size v.size o.size:=by rw [Z2b,if_neg (fun h=>h0 h.1)]
  rw [e];generalize hX:Jk cl sq op k.size v.size o.size=X at h0;have HX:Hid (Jk cl sq op k.size v.size o.size=X):=hX;have n0:(X == 0)=false:=by simpa using h0
  clear hX;go_enter Tryz.func136,Tryz.ntmps136
  go_wp2_with (go_at_call 144;refine (Jf cl sq op k v o hk hv ho _).mono ?_;rintro e w1 ⟨rfl,hb⟩;rw [HX.out];obtain ⟨hc,hf⟩:=Jw hb)
  go_ret;exact ⟨rfl,((Below.refl _ _).alloc (Nat.le_refl _) _).trans (hb.mono (by simp))⟩
theorem Je (w:World)(g j:Nat)(x:Value)(row:Option Nat)(hr:row=some g):w.grownBy (w.setCell ⟨g,j,none⟩ x) row:=
 ⟨rfl,rfl,rfl,by simp [World.setCell],fun k _ hk=>Below.heap_setCell _ _ _ _ (fun e=>hk (by rw [hr,e]))⟩
theorem Yk {w w1 w2:World}{row:Option Nat}(h:w.grownBy w1 row)(k:w1.grownBy w2 row):w.grownBy w2 row:=
 ⟨k.os.trans h.os,k.tape.trans h.tape,k.output.trans h.output,Nat.le_trans h.size k.size,fun i hi hne=>(k.block i (Nat.lt_of_lt_of_le hi h.size) hne).trans (h.block i hi hne)⟩
structure Y4 (lo hi:Nat) (w w':World):Prop where
 os:w'.os=w.os
 tape:w'.tape=w.tape
 output:w'.output=w.output
 size:w.heap.size<=w'.heap.size
 block:∀ k,k<w.heap.size->(k<lo∨hi<=k)->w'.heap[k]? = w.heap[k]?
theorem Y4.grown {w w':World}{q lo hi:Nat}(h:w.grownBy w' (some q))(h1:lo<=q)(h2:q<hi):Y4 lo hi w w':=
 ⟨h.os,h.tape,h.output,h.size,fun k hk hn=>h.block k hk (fun e=>by injection e with e;omega)⟩
theorem Y4.of_below {w w':World}(lo hi:Nat)(h:Below w.heap.size w w'):Y4 lo hi w w':=⟨h.os,h.tape,h.output,h.size,fun k hk _=>h.block k hk⟩
theorem Y4.trans {w w1 w2:World}{lo hi:Nat}(h:Y4 lo hi w w1)(k:Y4 lo hi w1 w2):Y4 lo hi w w2:=
 ⟨k.os.trans h.os,k.tape.trans h.tape,k.output.trans h.output,Nat.le_trans h.size k.size,fun i hi' hn=>(k.block i (Nat.lt_of_lt_of_le hi' h.size) hn).trans (h.block i hi' hn)⟩
theorem Y4.below {w w':World}{lo hi B:Nat}(h:Y4 lo hi w w')(hB:B<=lo)(hs:B<=w.heap.size):Below B w w':=
 ⟨h.os,h.tape,h.output,h.size,fun k hk=>h.block k (by omega) (by omega)⟩
def mtxA:Nat->Nat->ByteArray->ByteArray
 | 0,_,t=>t
 | f+1,m,t=>if m=0 then t else mtxA f (m / 10) (strOfNums [48+(m:Int)%10] ++ t)
def mtx (k:Nat):ByteArray:=if k=0 then ⟨#[109,48]⟩ else ⟨#[109]⟩ ++ mtxA k k ⟨#[]⟩
theorem mtxA_zero (f:Nat)(t:ByteArray):mtxA f 0 t=t:=by cases f <;> simp [mtxA]
theorem mtxA_step (f m:Nat)(t:ByteArray)(h:0<m)(hf:m<=f):∃ f',m / 10<=f'/\mtxA f m t=mtxA f' (m / 10) (strOfNums [48+(m:Int)%10] ++ t):=by
 cases f with
 | zero=>omega
 | succ f=>exact ⟨f,by omega,by rw [mtxA,if_neg (by omega)]⟩
theorem markText_is (k:Nat)(w:World)(hk:k<=1000000000) :
  Calls Tryz.prog 89 #[.int .i64 k] w fun r w'=>r=.returned (.string (mtx k))/\Below w.heap.size w w':=by
 by_cases h0:k=0
 ·subst h0
  go_enter Tryz.func89,Tryz.ntmps89;go_wp2;go_ret;exact ⟨rfl,Below.refl _ _⟩
 ·have hp:0<k:=by omega
  have hm:Hid (mtx k=⟨#[109]⟩ ++ mtxA k k ⟨#[]⟩):=by unfold mtx;exact if_neg h0
  go_enter Tryz.func89,Tryz.ntmps89;go_wp2
  go_loopw [0,3] (fun i s wr=>∃(m f:Nat) (t:ByteArray),i=.int .i64 m/\s=.string t/\t.size+m<=k/\m<=f/\mtxA k k ⟨#[]⟩=mtxA f m t/\Below w.heap.size w wr) (fun i _ _=>(intOf i).toNat)
  case atStart=>exact ⟨k,k,_,rfl,rfl,by simp [ByteArray.size],Nat.le_refl _,rfl,Below.refl _ _⟩
  case round=>
   obtain ⟨m,f,t,rfl,rfl,ht,hf,he,hB⟩:=hrel;have hz:=hB.size;by_cases hlt:0<m
   ·obtain ⟨f',hf',he'⟩:=mtxA_step f m t hlt hf
    have HE:Hid (mtxA k k ⟨#[]⟩=mtxA f' (m / 10) (strOfNums [48+(m:Int)%10] ++ t)):=he.trans he';clear he he';have hcv:=run_convert_bytes_arg (P:=Tryz.prog) (wr.alloc (.cells #[.int .u8 (48+(m:Int)%10)] 5)) 55 5 Tryz.underlying55 Tryz.underlying5 wr.heap.size 0 1 1 [48+(m:Int)%10] rfl;have hs1:¬(9223372036854775807<(strOfNums [48+(m:Int)%10]).size+t.size):=by rw [strOfNums_size];simp;omega
    go_wp2
    go_roundw
    case rel=>exact ⟨m / 10,f',_,by go_num,rfl,by rw [ByteArray.size_append,strOfNums_size];simp;omega,hf',HE.out,hB.trans ((Below.refl _ _).alloc hz _)⟩
    case measure=>simp [intOf];omega
   ·obtain rfl:m=0:=by omega
    rw [mtxA_zero] at he;have HE:Hid (mtxA k k ⟨#[]⟩=t):=he;clear he;have hs:¬(9223372036854775807<1+t.size):=by omega
    go_wp2;go_ret;exact ⟨by rw [hm.out,HE.out];rfl,hB⟩
theorem Ju (k:Int)(w:World)(h0:0<=k)(hk:k<=1000000000) :
  Calls Tryz.prog 89 #[.int .i64 k] w fun r w'=>r=.returned (.string (mtx k.toNat))/\Below w.heap.size w w':=by
 obtain ⟨k,rfl⟩:=Int.eq_ofNat_of_zero_le h0;exact markText_is k w (by omega)
theorem set_other {w:World}{b i j:Nat}{x:Value}(h:j≠i):(w.setCell ⟨b,j,none⟩ x).cell? ⟨b,i,none⟩=w.cell? ⟨b,i,none⟩:=
 World.cell?_setCell_other w _ _ _ (by intro e;injection e with _ h2 _;exact h h2)
theorem Z05 {w:World}{b i:Nat}{x:Value}(h:∃ y,w.cell? ⟨b,i,none⟩=some y):(w.setCell ⟨b,i,none⟩ x).cell? ⟨b,i,none⟩=some x:=by
 obtain ⟨y,hy⟩:=h;exact World.cell?_setCell_same w _ _ hy
structure MkG (cs:Nat->List Value) (m:Nat) (w:World) (q n k0 j t:Nat):Prop where
 room:w.there q 0 (n*m)
 old:∀ i,i<j->∀ s v,(cs (k0+m*i))[s]? = some v->w.cell? ⟨q,i*m+s,none⟩=some v
 new:∀ s v,s<t->(cs (k0+m*j))[s]? = some v->w.cell? ⟨q,j*m+s,none⟩=some v
theorem MkG.start {cs:Nat->List Value}{m:Nat}{w:World}{q n k0:Nat}(h:w.there q 0 (n*m)):MkG cs m w q n k0 0 0:=⟨h,fun i hi=>by omega,fun s v hs=>by omega⟩
theorem MkG.step {cs:Nat->List Value}{m:Nat}{w:World}{q n k0 j t:Nat}(h:MkG cs m w q n k0 j t)(hm:∀ k,(cs k).length=m)(hj:j<n)(ht:t<m)(x:Value)(hx:(cs (k0+m*j))[t]? = some x):MkG cs m (w.setCell ⟨q,j*m+t,none⟩ x) q n k0 j (t+1):=by
 refine ⟨Yf h.room _ _ _,fun i hi s v hs=>?_,fun s v hs hv=>?_⟩
 ·have hsm:s<m:=by rw [<-hm (k0+m*i)];exact (List.getElem?_eq_some_iff.1 hs).1
  have hle:i*m+m<=j*m:=by rw [<-Nat.succ_mul];exact Nat.mul_le_mul_right m hi
  rw [set_other (by omega)];exact h.old i hi s v hs
 ·by_cases e:s=t
  ·subst e
   rw [hx] at hv;injection hv with hv;subst hv;have hle:j*m+m<=n*m:=by rw [<-Nat.succ_mul];exact Nat.mul_le_mul_right m hj
   exact Z05 (Zv h.room (j*m+s) (by omega))
  ·rw [set_other (by omega)]
   exact h.new s v (by omega) hv
theorem MkG.below {cs:Nat->List Value}{m:Nat}{w w':World}{q n k0 j t:Nat}(h:MkG cs m w q n k0 j t)(hb:Below w.heap.size w w')(hq:q<w.heap.size):MkG cs m w' q n k0 j t:=
 ⟨Zq h.room (hb.block q hq),fun i hi s v hs=>(hb.cell (p:=⟨q,i*m+s,none⟩) hq).trans (h.old i hi s v hs),fun s v hs hv=>(hb.cell (p:=⟨q,j*m+s,none⟩) hq).trans (h.new s v hs hv)⟩
theorem MkG.next {cs:Nat->List Value}{m:Nat}{w:World}{q n k0 j:Nat}(h:MkG cs m w q n k0 j m)(hm:∀ k,(cs k).length=m):MkG cs m w q n k0 (j+1) 0:=by
 refine ⟨h.room,fun i hi s v hs=>?_,fun s v hs=>by omega⟩;by_cases e:i=j
 ·subst e
  exact h.new s v (by rw [<-hm (k0+m*i)];exact (List.getElem?_eq_some_iff.1 hs).1) hs
 ·exact h.old i (by omega) s v hs
theorem Z1r {w w':World}(row:Option Nat)(h:Below w.heap.size w w'):w.grownBy w' row:=⟨h.os,h.tape,h.output,h.size,fun k hk _=>h.block k hk⟩
end Go.Proofs.YtmmpoppgabadmaaGreat
