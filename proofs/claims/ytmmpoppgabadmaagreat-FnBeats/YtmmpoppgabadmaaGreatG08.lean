import Derived.Test.YtmmpoppgabadmaaGreatG02
import Derived.BigQuiet
import Derived.Deep.QuietTactic
import Derived.Laws.Cover3
set_option linter.unusedVariables false
set_option linter.unusedSimpArgs false
set_option maxRecDepth 100000
set_option maxHeartbeats 16000000
namespace Go.Proofs.YtmmpoppgabadmaaGreat
open Go.RowKit
theorem Z1d (w:World)(e:Ent):Jc (w.alloc (.cells #[.int .i64 e.t,.int .i64 e.cl,.int .i64 e.sq,.int .i64 e.op,.string e.k,.string e.v,.string e.o] 118)) w.heap.size 0 e:=by
 refine ⟨?_,?_,?_,?_,?_,?_,?_⟩ <;> simp
theorem Z09 (v:Value)(l:List Ent)(w:World)(hv:Es w v l)(hll:l.length<=1000000) :
  Calls Tryz.prog 102 #[v] w fun e w'=>∃ v',e=.returned v'/\Zp w' w.heap.size v' l/\Below w.heap.size w w':=by
 obtain ⟨hm,hf,a,cap,rfl,hc⟩:=hv;unfold maxLen at hm;go_enter Tryz.func102,Tryz.ntmps102;go_wp2
 go_loopw [3,4] (fun s i wr=>∃ k:Nat,k<=l.length/\i=.int .i64 k/\Zp wr w.heap.size s (l.take k)/\Below w.heap.size w wr) (fun _ i _=>l.length-(intOf i).toNat)
 case atStart=>exact ⟨0,Nat.zero_le _,rfl,Zp.made w w.heap.size (Nat.le_refl _),(Below.refl _ _).alloc (Nat.le_refl _) _⟩
 case round=>
  obtain ⟨k,hk,rfl,ho,hB⟩:=hrel;have hz:=hB.size;by_cases hlt:k<l.length
  ·obtain ⟨b,off,rfl,hj⟩:=hc k hlt
   have hfk:=hf l[k] (List.getElem_mem hlt);obtain ⟨c0,c1,c2,c3,c4,c5,c6⟩:=(hj k hlt).below hB;obtain ⟨a3,cap3,rfl⟩:=ho.shape;have hlen:(l.take k).length=k:=by rw [List.length_take];omega
   have HT:Hid (l.take (k+1)=l.take k ++ [l[k]]):=List.take_succ_eq_append_getElem hlt;have HO:Hid (Zp wr w.heap.size (.slice a3 (l.take k).length cap3) (l.take k)):=ho;have HBB:Hid _:=hB;clear hc hj hf ho hB;generalize l[k]=e at *
   go_wp2_with (at_builtin;refine Xs rfl (.tmp 12) (.tmp 17) rfl e hfk (HO.out.below ((Below.refl _ _).alloc (Nat.le_refl _) _)) rfl wr.heap.size 1 (Z1d wr e) rfl (by rw [hlen];omega) (by simp;omega) ?_;intro v' w' ho' hg;have hb':=growE hg (HO.out.below ((Below.refl _ _).alloc (Nat.le_refl _) _)) (by simp;omega))
   go_roundw
   case rel=>exact ⟨k+1,by omega,by go_num,by rw [HT.out];exact ho',(HBB.out.alloc hz _).trans hb'⟩
   case measure=>simp [intOf];omega
  ·go_wp2
   go_ret;rw [List.take_of_length_le (by omega)] at ho;exact ⟨_,rfl,ho,hB⟩
theorem Jy (v:Value)(l:List Int)(w:World)(hv:Ix w v l)(hll:l.length<=100000) :
  Calls Tryz.prog 104 #[v] w fun e w'=>∃ v',e=.returned v'/\Zg inC 1 3 w' w.heap.size v' l/\Below w.heap.size w w':=by
 obtain ⟨hm,a,cap,rfl,hc⟩:=hv;go_enter Tryz.func104,Tryz.ntmps104;go_wp2
 go_loopw [3,4] (fun s i wr=>∃ k:Nat,k<=l.length/\i=.int .i64 k/\Zg inC 1 3 wr w.heap.size s (l.take k)/\Below w.heap.size w wr) (fun _ i _=>l.length-(intOf i).toNat)
 case atStart=>exact ⟨0,Nat.zero_le _,rfl,Zg.made _ _ _ _ _ (Nat.le_refl _),(Below.refl _ _).alloc (Nat.le_refl _) _⟩
 case round=>
  obtain ⟨k,hk,rfl,ho,hB⟩:=hrel;have hz:=hB.size;by_cases hlt:k<l.length
  ·obtain ⟨b,off,rfl,hj⟩:=hc k hlt
   have c0:wr.cell? ⟨b,off+k,none⟩=some (.int .i64 l[k]):=(hB.cell (p:=⟨b,off+k,none⟩) (X7 (hj k hlt))).trans (hj k hlt);have hki:(k:Int)<(l.length:Int):=by omega
   have HT:Hid (l.take (k+1)=l.take k ++ [l[k]]):=List.take_succ_eq_append_getElem hlt;have HO:Hid (Zg inC 1 3 wr w.heap.size _ (l.take k)):=ho;have HB:Hid _:=hB;have hlen:(l.take k).length<=100000:=by rw [List.length_take];omega
   have HLn:Hid ((l.take k).length<=100000):=hlen;have hk9:k<=100000:=by omega
   clear hc hj ho hB hlen;generalize l[k]=e at *
   go_wp2_with (at_builtin;refine Xr Z0b rfl (.tmp 12) (.tmp 17) rfl e (HO.out.below ((Below.refl _ _).alloc (Nat.le_refl _) _)) rfl (wr.heap.size) 1 (Blk.new _ _ _).range rfl (by have:=HLn.out;omega) (by simp;omega) ?_;intro v2 w2 ho2 hg2;have HO2:Hid (Zg inC 1 3 w2 w.heap.size v2 (l.take k ++ [e])):=ho2;have HB2:Hid (Below w.heap.size w w2):=(HB.out.alloc hz _).trans (growG hg2 (HO.out.below ((Below.refl _ _).alloc (Nat.le_refl _) _)) (by simp;omega));clear ho2 hg2)
   go_roundw
   case rel=>exact ⟨k+1,by omega,by go_num,by rw [HT.out];exact HO2.out,HB2.out⟩
   case measure=>simp [intOf];omega
  ·obtain rfl:k=l.length:=by omega
   rw [List.take_length] at ho;go_wp2;go_ret;exact ⟨_,rfl,ho,hB⟩
theorem OwnXG.setq {α:Type}{cs:α->List Value}{m:Nat}{T t:TypeId}{w:World}{B q:Nat}{v:Value}{l:List α}{C:Array Value}(h:Zg cs m T w B v l)(hb:Blk w q C t)(hne:T≠t)(i:Nat)(y:Value):Zg cs m T (w.setCell ⟨q,i,none⟩ y) B v l:=h.block fun k e=>Below.heap_setCell _ _ _ _ (Zu h hb hne k e)
theorem OwnXE.setq {t:TypeId}{w:World}{B q:Nat}{v:Value}{l:List Ent}{C:Array Value}(h:Zp w B v l)(hb:Blk w q C t)(hne:118≠t)(i:Nat)(y:Value):Zp (w.setCell ⟨q,i,none⟩ y) B v l:=h.block fun k e=>Below.heap_setCell _ _ _ _ (Ym h hb hne k e)
structure NdAt (w:World) (n:Nd) (v12 v13 v14 v15 v16 v17:Value):Prop where
 log:Es w v12 n.log
 gr:Ix w v13 n.gr
 nx:Ix w v14 n.nx
 mt:Ix w v15 n.mt
 se:Ix w v16 n.se
 st:Ix w v17 n.st
theorem NdAt.below {w w':World}{n:Nd}{v12 v13 v14 v15 v16 v17:Value}(h:NdAt w n v12 v13 v14 v15 v16 v17)(hb:Below w.heap.size w w'):NdAt w' n v12 v13 v14 v15 v16 v17:=⟨h.log.below hb,h.gr.below hb,h.nx.below hb,h.mt.below hb,h.se.below hb,h.st.below hb⟩
theorem l4copy_any (n:Nd)(v12 v13 v14 v15 v16 v17:Value)(w:World)(h:NdAt w n v12 v13 v14 v15 v16 v17)(hl:n.log.length<=4096)(l13:n.gr.length<=100000)(l14:n.nx.length<=100000)(l15:n.mt.length<=100000)(l16:n.se.length<=100000)(l17:n.st.length<=100000) :
  Calls Tryz.prog 64 #[.agg #[.int .i64 n.id,.int .i64 n.sz,.int .i64 n.el,.int .i64 n.bt,.int .i64 n.tm,.int .i64 n.vo,.int .i64 n.ro,.int .i64 n.ld,.int .i64 n.cm,.int .i64 n.nw,.int .i64 n.dl,.int .i64 n.hd,v12,v13,v14,v15,v16,v17]] w fun e w'=>∃ u12 u13 u14 u15 u16 u17,e=.returned (.agg #[.int .i64 n.id,.int .i64 n.sz,.int .i64 n.el,.int .i64 n.bt,.int .i64 n.tm,.int .i64 n.vo,.int .i64 n.ro,.int .i64 n.ld,.int .i64 n.cm,.int .i64 n.nw,.int .i64 n.dl,.int .i64 n.hd,u12,u13,u14,u15,u16,u17])/\Zp w' w.heap.size u12 n.log/\Zg inC 1 3 w' w.heap.size u13 n.gr/\Zg inC 1 3 w' w.heap.size u14 n.nx/\Zg inC 1 3 w' w.heap.size u15 n.mt/\Zg inC 1 3 w' w.heap.size u16 n.se/\Zg inC 1 3 w' w.heap.size u17 n.st/\[u13,u14,u15,u16,u17].Pairwise Ya/\Below w.heap.size w w':=by
 have H12:Hid (∀ z,Below w.heap.size w z->Calls Tryz.prog 102 #[v12] z fun e w'=>∃ v',e=.returned v'/\Zp w' z.heap.size v' n.log/\Below z.heap.size z w'):=fun z hz=>Z09 v12 n.log z (h.below hz).log (by omega)
 have H13:Hid (∀ z,Below w.heap.size w z->Calls Tryz.prog 104 #[v13] z fun e w'=>∃ v',e=.returned v'/\Zg inC 1 3 w' z.heap.size v' n.gr/\Below z.heap.size z w'):=fun z hz=>Jy v13 n.gr z (h.below hz).gr l13
 have H14:Hid (∀ z,Below w.heap.size w z->Calls Tryz.prog 104 #[v14] z fun e w'=>∃ v',e=.returned v'/\Zg inC 1 3 w' z.heap.size v' n.nx/\Below z.heap.size z w'):=fun z hz=>Jy v14 n.nx z (h.below hz).nx l14
 have H15:Hid (∀ z,Below w.heap.size w z->Calls Tryz.prog 104 #[v15] z fun e w'=>∃ v',e=.returned v'/\Zg inC 1 3 w' z.heap.size v' n.mt/\Below z.heap.size z w'):=fun z hz=>Jy v15 n.mt z (h.below hz).mt l15
 have H16:Hid (∀ z,Below w.heap.size w z->Calls Tryz.prog 104 #[v16] z fun e w'=>∃ v',e=.returned v'/\Zg inC 1 3 w' z.heap.size v' n.se/\Below z.heap.size z w'):=fun z hz=>Jy v16 n.se z (h.below hz).se l16
 have H17:Hid (∀ z,Below w.heap.size w z->Calls Tryz.prog 104 #[v17] z fun e w'=>∃ v',e=.returned v'/\Zg inC 1 3 w' z.heap.size v' n.st/\Below z.heap.size z w'):=fun z hz=>Jy v17 n.st z (h.below hz).st l17
 obtain ⟨-,-,a12,c12,rfl,-⟩:=h.log;obtain ⟨-,a13,c13,rfl,-⟩:=h.gr;obtain ⟨-,a14,c14,rfl,-⟩:=h.nx;obtain ⟨-,a15,c15,rfl,-⟩:=h.mt;obtain ⟨-,a16,c16,rfl,-⟩:=h.se;obtain ⟨-,a17,c17,rfl,-⟩:=h.st;clear h;have BN0:Hid (Blk ((w.alloc (.cells #[.int .i64 n.id,.int .i64 n.sz,.int .i64 n.el,.int .i64 n.bt,.int .i64 n.tm,.int .i64 n.vo,.int .i64 n.ro,.int .i64 n.ld,.int .i64 n.cm,.int .i64 n.nw,.int .i64 n.dl,.int .i64 n.hd,.slice a12 n.log.length c12,.slice a13 n.gr.length c13,.slice a14 n.nx.length c14,.slice a15 n.mt.length c15,.slice a16 n.se.length c16,.slice a17 n.st.length c17] 36)).alloc (.cells #[.int .i64 0,.int .i64 0,.int .i64 0,.int .i64 0,.int .i64 0,.int .i64 0,.int .i64 0,.int .i64 0,.int .i64 0,.int .i64 0,.int .i64 0,.int .i64 0,.slice none 0 0,.slice none 0 0,.slice none 0 0,.slice none 0 0,.slice none 0 0,.slice none 0 0] 36)) w.heap.size #[.int .i64 n.id,.int .i64 n.sz,.int .i64 n.el,.int .i64 n.bt,.int .i64 n.tm,.int .i64 n.vo,.int .i64 n.ro,.int .i64 n.ld,.int .i64 n.cm,.int .i64 n.nw,.int .i64 n.dl,.int .i64 n.hd,.slice a12 n.log.length c12,.slice a13 n.gr.length c13,.slice a14 n.nx.length c14,.slice a15 n.mt.length c15,.slice a16 n.se.length c16,.slice a17 n.st.length c17] 36):=(Blk.new _ _ _).alloc _;have BR0:Hid (Blk ((w.alloc (.cells #[.int .i64 n.id,.int .i64 n.sz,.int .i64 n.el,.int .i64 n.bt,.int .i64 n.tm,.int .i64 n.vo,.int .i64 n.ro,.int .i64 n.ld,.int .i64 n.cm,.int .i64 n.nw,.int .i64 n.dl,.int .i64 n.hd,.slice a12 n.log.length c12,.slice a13 n.gr.length c13,.slice a14 n.nx.length c14,.slice a15 n.mt.length c15,.slice a16 n.se.length c16,.slice a17 n.st.length c17] 36)).alloc (.cells #[.int .i64 0,.int .i64 0,.int .i64 0,.int .i64 0,.int .i64 0,.int .i64 0,.int .i64 0,.int .i64 0,.int .i64 0,.int .i64 0,.int .i64 0,.int .i64 0,.slice none 0 0,.slice none 0 0,.slice none 0 0,.slice none 0 0,.slice none 0 0,.slice none 0 0] 36)) (w.heap.size+1) #[.int .i64 0,.int .i64 0,.int .i64 0,.int .i64 0,.int .i64 0,.int .i64 0,.int .i64 0,.int .i64 0,.int .i64 0,.int .i64 0,.int .i64 0,.int .i64 0,.slice none 0 0,.slice none 0 0,.slice none 0 0,.slice none 0 0,.slice none 0 0,.slice none 0 0] 36):=Blk.new' _ _ _ (by simp);have HB0:Hid (Below w.heap.size w ((w.alloc (.cells #[.int .i64 n.id,.int .i64 n.sz,.int .i64 n.el,.int .i64 n.bt,.int .i64 n.tm,.int .i64 n.vo,.int .i64 n.ro,.int .i64 n.ld,.int .i64 n.cm,.int .i64 n.nw,.int .i64 n.dl,.int .i64 n.hd,.slice a12 n.log.length c12,.slice a13 n.gr.length c13,.slice a14 n.nx.length c14,.slice a15 n.mt.length c15,.slice a16 n.se.length c16,.slice a17 n.st.length c17] 36)).alloc (.cells #[.int .i64 0,.int .i64 0,.int .i64 0,.int .i64 0,.int .i64 0,.int .i64 0,.int .i64 0,.int .i64 0,.int .i64 0,.int .i64 0,.int .i64 0,.int .i64 0,.slice none 0 0,.slice none 0 0,.slice none 0 0,.slice none 0 0,.slice none 0 0,.slice none 0 0] 36))):=((Below.refl _ _).alloc (Nat.le_refl _) _).alloc (by simp) _;go_enter Tryz.func64,Tryz.ntmps64
 go_upto_region 1 with fail
 generalize (w.alloc (.cells #[.int .i64 n.id,.int .i64 n.sz,.int .i64 n.el,.int .i64 n.bt,.int .i64 n.tm,.int .i64 n.vo,.int .i64 n.ro,.int .i64 n.ld,.int .i64 n.cm,.int .i64 n.nw,.int .i64 n.dl,.int .i64 n.hd,.slice a12 n.log.length c12,.slice a13 n.gr.length c13,.slice a14 n.nx.length c14,.slice a15 n.mt.length c15,.slice a16 n.se.length c16,.slice a17 n.st.length c17] 36)).alloc (.cells #[.int .i64 0,.int .i64 0,.int .i64 0,.int .i64 0,.int .i64 0,.int .i64 0,.int .i64 0,.int .i64 0,.int .i64 0,.int .i64 0,.int .i64 0,.int .i64 0,.slice none 0 0,.slice none 0 0,.slice none 0 0,.slice none 0 0,.slice none 0 0,.slice none 0 0] 36)=z11 at *;have BN11:Hid (Blk z11 w.heap.size _ 36):=BN0.out;have BR11:Hid (Blk z11 (w.heap.size+1) _ 36):=BR0.out;have HB11:Hid (Below w.heap.size w z11):=HB0.out;have e12:z11.cell? ⟨w.heap.size,12,none⟩=some (.slice a12 n.log.length c12):=BN11.out.cell 12;clear BN0 BR0 HB0;have G12:Hid True:=trivial;have G13:Hid True:=trivial;have G14:Hid True:=trivial;have G15:Hid True:=trivial;have G16:Hid True:=trivial;have G17:Hid True:=trivial;have G18:Hid True:=trivial;have G19:Hid True:=trivial
 go_wp2_with (first
  |(have hG:=G12;go_at_call 102;clear hG G12;refine (H12.out _ HB11.out).mono ?_;rintro e w12 ⟨v12,rfl,ho,hb⟩;obtain ⟨b12,d12,rfl⟩:=ho.shape;have hzz:w.heap.size+2<=z11.heap.size:=(by have:=BR11.out.lt;omega);have BNw:Blk w12 w.heap.size #[.int .i64 n.id,.int .i64 n.sz,.int .i64 n.el,.int .i64 n.bt,.int .i64 n.tm,.int .i64 n.vo,.int .i64 n.ro,.int .i64 n.ld,.int .i64 n.cm,.int .i64 n.nw,.int .i64 n.dl,.int .i64 n.hd,.slice a12 n.log.length c12,.slice a13 n.gr.length c13,.slice a14 n.nx.length c14,.slice a15 n.mt.length c15,.slice a16 n.se.length c16,.slice a17 n.st.length c17] 36:=BN11.out.below hb (by omega);have BRw:Blk w12 (w.heap.size+1) #[.int .i64 0,.int .i64 0,.int .i64 0,.int .i64 0,.int .i64 0,.int .i64 0,.int .i64 0,.int .i64 0,.int .i64 0,.int .i64 0,.int .i64 0,.int .i64 0,.slice none 0 0,.slice none 0 0,.slice none 0 0,.slice none 0 0,.slice none 0 0,.slice none 0 0] 36:=BR11.out.below hb (by omega);have x12:w12.cell? ⟨w.heap.size,12,none⟩=some (.slice a12 n.log.length c12):=BNw.cell 12;have y12:w12.frozen? ⟨w.heap.size,12,none⟩=false:=BNw.free 12;obtain ⟨z12,hz12⟩:∃ z,z=(w12.setCell ⟨w.heap.size,12,none⟩ (.slice b12 n.log.length d12)):=⟨_,rfl⟩;have BN12:Hid (Blk z12 w.heap.size #[.int .i64 n.id,.int .i64 n.sz,.int .i64 n.el,.int .i64 n.bt,.int .i64 n.tm,.int .i64 n.vo,.int .i64 n.ro,.int .i64 n.ld,.int .i64 n.cm,.int .i64 n.nw,.int .i64 n.dl,.int .i64 n.hd,.slice b12 n.log.length d12,.slice a13 n.gr.length c13,.slice a14 n.nx.length c14,.slice a15 n.mt.length c15,.slice a16 n.se.length c16,.slice a17 n.st.length c17] 36):=(by rw [hz12];exact BNw.set 12 _);have BR12:Hid (Blk z12 (w.heap.size+1) #[.int .i64 0,.int .i64 0,.int .i64 0,.int .i64 0,.int .i64 0,.int .i64 0,.int .i64 0,.int .i64 0,.int .i64 0,.int .i64 0,.int .i64 0,.int .i64 0,.slice none 0 0,.slice none 0 0,.slice none 0 0,.slice none 0 0,.slice none 0 0,.slice none 0 0] 36):=(by rw [hz12];exact BRw.set_other _ (by simp));have HB12:Hid (Below w.heap.size w z12):=(by rw [hz12];exact (HB11.out.trans (hb.mono (by omega))).setCell (p:=⟨w.heap.size,12,none⟩) (Nat.le_refl _) _);have hzs12:z11.heap.size<=z12.heap.size:=(by rw [hz12];simp [World.setCell];exact hb.size);have HR12_12:Hid (Zp z12 z11.heap.size (.slice b12 n.log.length d12) n.log):=(by rw [hz12];exact OwnXE.setq ho BNw (by decide) _ _);have e13:(w12.setCell ⟨w.heap.size,12,none⟩ (.slice b12 n.log.length d12)).cell? ⟨w.heap.size,13,none⟩=some (.slice a13 n.gr.length c13):=(by rw [<-hz12];exact BN12.out.cell 13);clear ho hb BNw BRw hzz;have Hz12:Hid (z12=(w12.setCell ⟨w.heap.size,12,none⟩ (.slice b12 n.log.length d12))):=hz12;clear hz12)
  |(have hG:=G13;go_at_call 104;clear hG G13;refine (H13.out _ (by rw [<-Hz12.out];exact HB12.out)).mono ?_;rintro e w13 ⟨v13,rfl,ho,hb⟩;rw [<-Hz12.out] at ho hb;obtain ⟨b13,d13,rfl⟩:=ho.shape;have hzz:w.heap.size+2<=z12.heap.size:=(by have:=BR12.out.lt;omega);have BNw:Blk w13 w.heap.size #[.int .i64 n.id,.int .i64 n.sz,.int .i64 n.el,.int .i64 n.bt,.int .i64 n.tm,.int .i64 n.vo,.int .i64 n.ro,.int .i64 n.ld,.int .i64 n.cm,.int .i64 n.nw,.int .i64 n.dl,.int .i64 n.hd,.slice b12 n.log.length d12,.slice a13 n.gr.length c13,.slice a14 n.nx.length c14,.slice a15 n.mt.length c15,.slice a16 n.se.length c16,.slice a17 n.st.length c17] 36:=BN12.out.below hb (by omega);have BRw:Blk w13 (w.heap.size+1) #[.int .i64 0,.int .i64 0,.int .i64 0,.int .i64 0,.int .i64 0,.int .i64 0,.int .i64 0,.int .i64 0,.int .i64 0,.int .i64 0,.int .i64 0,.int .i64 0,.slice none 0 0,.slice none 0 0,.slice none 0 0,.slice none 0 0,.slice none 0 0,.slice none 0 0] 36:=BR12.out.below hb (by omega);have x13:w13.cell? ⟨w.heap.size,13,none⟩=some (.slice a13 n.gr.length c13):=BNw.cell 13;have y13:w13.frozen? ⟨w.heap.size,13,none⟩=false:=BNw.free 13;obtain ⟨z13,hz13⟩:∃ z,z=(w13.setCell ⟨w.heap.size,13,none⟩ (.slice b13 n.gr.length d13)):=⟨_,rfl⟩;have BN13:Hid (Blk z13 w.heap.size #[.int .i64 n.id,.int .i64 n.sz,.int .i64 n.el,.int .i64 n.bt,.int .i64 n.tm,.int .i64 n.vo,.int .i64 n.ro,.int .i64 n.ld,.int .i64 n.cm,.int .i64 n.nw,.int .i64 n.dl,.int .i64 n.hd,.slice b12 n.log.length d12,.slice b13 n.gr.length d13,.slice a14 n.nx.length c14,.slice a15 n.mt.length c15,.slice a16 n.se.length c16,.slice a17 n.st.length c17] 36):=(by rw [hz13];exact BNw.set 13 _);have BR13:Hid (Blk z13 (w.heap.size+1) #[.int .i64 0,.int .i64 0,.int .i64 0,.int .i64 0,.int .i64 0,.int .i64 0,.int .i64 0,.int .i64 0,.int .i64 0,.int .i64 0,.int .i64 0,.int .i64 0,.slice none 0 0,.slice none 0 0,.slice none 0 0,.slice none 0 0,.slice none 0 0,.slice none 0 0] 36):=(by rw [hz13];exact BRw.set_other _ (by simp));have HB13:Hid (Below w.heap.size w z13):=(by rw [hz13];exact (HB12.out.trans (hb.mono (by omega))).setCell (p:=⟨w.heap.size,13,none⟩) (Nat.le_refl _) _);have hzs13:z12.heap.size<=z13.heap.size:=(by rw [hz13];simp [World.setCell];exact hb.size);have HR12_13:Hid (Zp z13 z11.heap.size (.slice b12 n.log.length d12) n.log):=(by rw [hz13];exact OwnXE.setq (HR12_12.out.below hb) BNw (by decide) _ _);have HR13_13:Hid (Zg inC 1 3 z13 z12.heap.size (.slice b13 n.gr.length d13) n.gr):=(by rw [hz13];exact OwnXG.setq ho BNw (by decide) _ _);have e14:(w13.setCell ⟨w.heap.size,13,none⟩ (.slice b13 n.gr.length d13)).cell? ⟨w.heap.size,14,none⟩=some (.slice a14 n.nx.length c14):=(by rw [<-hz13];exact BN13.out.cell 14);clear ho hb BNw BRw hzz;have Hz13:Hid (z13=(w13.setCell ⟨w.heap.size,13,none⟩ (.slice b13 n.gr.length d13))):=hz13;clear hz13)
  |(have hG:=G14;go_at_call 104;clear hG G14;refine (H14.out _ (by rw [<-Hz13.out];exact HB13.out)).mono ?_;rintro e w14 ⟨v14,rfl,ho,hb⟩;rw [<-Hz13.out] at ho hb;obtain ⟨b14,d14,rfl⟩:=ho.shape;have hzz:w.heap.size+2<=z13.heap.size:=(by have:=BR13.out.lt;omega);have BNw:Blk w14 w.heap.size #[.int .i64 n.id,.int .i64 n.sz,.int .i64 n.el,.int .i64 n.bt,.int .i64 n.tm,.int .i64 n.vo,.int .i64 n.ro,.int .i64 n.ld,.int .i64 n.cm,.int .i64 n.nw,.int .i64 n.dl,.int .i64 n.hd,.slice b12 n.log.length d12,.slice b13 n.gr.length d13,.slice a14 n.nx.length c14,.slice a15 n.mt.length c15,.slice a16 n.se.length c16,.slice a17 n.st.length c17] 36:=BN13.out.below hb (by omega);have BRw:Blk w14 (w.heap.size+1) #[.int .i64 0,.int .i64 0,.int .i64 0,.int .i64 0,.int .i64 0,.int .i64 0,.int .i64 0,.int .i64 0,.int .i64 0,.int .i64 0,.int .i64 0,.int .i64 0,.slice none 0 0,.slice none 0 0,.slice none 0 0,.slice none 0 0,.slice none 0 0,.slice none 0 0] 36:=BR13.out.below hb (by omega);have x14:w14.cell? ⟨w.heap.size,14,none⟩=some (.slice a14 n.nx.length c14):=BNw.cell 14;have y14:w14.frozen? ⟨w.heap.size,14,none⟩=false:=BNw.free 14;obtain ⟨z14,hz14⟩:∃ z,z=(w14.setCell ⟨w.heap.size,14,none⟩ (.slice b14 n.nx.length d14)):=⟨_,rfl⟩;have BN14:Hid (Blk z14 w.heap.size #[.int .i64 n.id,.int .i64 n.sz,.int .i64 n.el,.int .i64 n.bt,.int .i64 n.tm,.int .i64 n.vo,.int .i64 n.ro,.int .i64 n.ld,.int .i64 n.cm,.int .i64 n.nw,.int .i64 n.dl,.int .i64 n.hd,.slice b12 n.log.length d12,.slice b13 n.gr.length d13,.slice b14 n.nx.length d14,.slice a15 n.mt.length c15,.slice a16 n.se.length c16,.slice a17 n.st.length c17] 36):=(by rw [hz14];exact BNw.set 14 _);have BR14:Hid (Blk z14 (w.heap.size+1) #[.int .i64 0,.int .i64 0,.int .i64 0,.int .i64 0,.int .i64 0,.int .i64 0,.int .i64 0,.int .i64 0,.int .i64 0,.int .i64 0,.int .i64 0,.int .i64 0,.slice none 0 0,.slice none 0 0,.slice none 0 0,.slice none 0 0,.slice none 0 0,.slice none 0 0] 36):=(by rw [hz14];exact BRw.set_other _ (by simp));have HB14:Hid (Below w.heap.size w z14):=(by rw [hz14];exact (HB13.out.trans (hb.mono (by omega))).setCell (p:=⟨w.heap.size,14,none⟩) (Nat.le_refl _) _);have hzs14:z13.heap.size<=z14.heap.size:=(by rw [hz14];simp [World.setCell];exact hb.size);have HR12_14:Hid (Zp z14 z11.heap.size (.slice b12 n.log.length d12) n.log):=(by rw [hz14];exact OwnXE.setq (HR12_13.out.below hb) BNw (by decide) _ _);have HR13_14:Hid (Zg inC 1 3 z14 z12.heap.size (.slice b13 n.gr.length d13) n.gr):=(by rw [hz14];exact OwnXG.setq (HR13_13.out.below hb) BNw (by decide) _ _);have HR14_14:Hid (Zg inC 1 3 z14 z13.heap.size (.slice b14 n.nx.length d14) n.nx):=(by rw [hz14];exact OwnXG.setq ho BNw (by decide) _ _);have e15:(w14.setCell ⟨w.heap.size,14,none⟩ (.slice b14 n.nx.length d14)).cell? ⟨w.heap.size,15,none⟩=some (.slice a15 n.mt.length c15):=(by rw [<-hz14];exact BN14.out.cell 15);clear ho hb BNw BRw hzz;have Hz14:Hid (z14=(w14.setCell ⟨w.heap.size,14,none⟩ (.slice b14 n.nx.length d14))):=hz14;clear hz14)
  |(have hG:=G15;go_at_call 104;clear hG G15;refine (H15.out _ (by rw [<-Hz14.out];exact HB14.out)).mono ?_;rintro e w15 ⟨v15,rfl,ho,hb⟩;rw [<-Hz14.out] at ho hb;obtain ⟨b15,d15,rfl⟩:=ho.shape;have hzz:w.heap.size+2<=z14.heap.size:=(by have:=BR14.out.lt;omega);have BNw:Blk w15 w.heap.size #[.int .i64 n.id,.int .i64 n.sz,.int .i64 n.el,.int .i64 n.bt,.int .i64 n.tm,.int .i64 n.vo,.int .i64 n.ro,.int .i64 n.ld,.int .i64 n.cm,.int .i64 n.nw,.int .i64 n.dl,.int .i64 n.hd,.slice b12 n.log.length d12,.slice b13 n.gr.length d13,.slice b14 n.nx.length d14,.slice a15 n.mt.length c15,.slice a16 n.se.length c16,.slice a17 n.st.length c17] 36:=BN14.out.below hb (by omega);have BRw:Blk w15 (w.heap.size+1) #[.int .i64 0,.int .i64 0,.int .i64 0,.int .i64 0,.int .i64 0,.int .i64 0,.int .i64 0,.int .i64 0,.int .i64 0,.int .i64 0,.int .i64 0,.int .i64 0,.slice none 0 0,.slice none 0 0,.slice none 0 0,.slice none 0 0,.slice none 0 0,.slice none 0 0] 36:=BR14.out.below hb (by omega);have x15:w15.cell? ⟨w.heap.size,15,none⟩=some (.slice a15 n.mt.length c15):=BNw.cell 15;have y15:w15.frozen? ⟨w.heap.size,15,none⟩=false:=BNw.free 15;obtain ⟨z15,hz15⟩:∃ z,z=(w15.setCell ⟨w.heap.size,15,none⟩ (.slice b15 n.mt.length d15)):=⟨_,rfl⟩;have BN15:Hid (Blk z15 w.heap.size #[.int .i64 n.id,.int .i64 n.sz,.int .i64 n.el,.int .i64 n.bt,.int .i64 n.tm,.int .i64 n.vo,.int .i64 n.ro,.int .i64 n.ld,.int .i64 n.cm,.int .i64 n.nw,.int .i64 n.dl,.int .i64 n.hd,.slice b12 n.log.length d12,.slice b13 n.gr.length d13,.slice b14 n.nx.length d14,.slice b15 n.mt.length d15,.slice a16 n.se.length c16,.slice a17 n.st.length c17] 36):=(by rw [hz15];exact BNw.set 15 _);have BR15:Hid (Blk z15 (w.heap.size+1) #[.int .i64 0,.int .i64 0,.int .i64 0,.int .i64 0,.int .i64 0,.int .i64 0,.int .i64 0,.int .i64 0,.int .i64 0,.int .i64 0,.int .i64 0,.int .i64 0,.slice none 0 0,.slice none 0 0,.slice none 0 0,.slice none 0 0,.slice none 0 0,.slice none 0 0] 36):=(by rw [hz15];exact BRw.set_other _ (by simp));have HB15:Hid (Below w.heap.size w z15):=(by rw [hz15];exact (HB14.out.trans (hb.mono (by omega))).setCell (p:=⟨w.heap.size,15,none⟩) (Nat.le_refl _) _);have hzs15:z14.heap.size<=z15.heap.size:=(by rw [hz15];simp [World.setCell];exact hb.size);have HR12_15:Hid (Zp z15 z11.heap.size (.slice b12 n.log.length d12) n.log):=(by rw [hz15];exact OwnXE.setq (HR12_14.out.below hb) BNw (by decide) _ _);have HR13_15:Hid (Zg inC 1 3 z15 z12.heap.size (.slice b13 n.gr.length d13) n.gr):=(by rw [hz15];exact OwnXG.setq (HR13_14.out.below hb) BNw (by decide) _ _);have HR14_15:Hid (Zg inC 1 3 z15 z13.heap.size (.slice b14 n.nx.length d14) n.nx):=(by rw [hz15];exact OwnXG.setq (HR14_14.out.below hb) BNw (by decide) _ _);have HR15_15:Hid (Zg inC 1 3 z15 z14.heap.size (.slice b15 n.mt.length d15) n.mt):=(by rw [hz15];exact OwnXG.setq ho BNw (by decide) _ _);have e16:(w15.setCell ⟨w.heap.size,15,none⟩ (.slice b15 n.mt.length d15)).cell? ⟨w.heap.size,16,none⟩=some (.slice a16 n.se.length c16):=(by rw [<-hz15];exact BN15.out.cell 16);clear ho hb BNw BRw hzz;have Hz15:Hid (z15=(w15.setCell ⟨w.heap.size,15,none⟩ (.slice b15 n.mt.length d15))):=hz15;clear hz15)
  |(have hG:=G16;go_at_call 104;clear hG G16;refine (H16.out _ (by rw [<-Hz15.out];exact HB15.out)).mono ?_;rintro e w16 ⟨v16,rfl,ho,hb⟩;rw [<-Hz15.out] at ho hb;obtain ⟨b16,d16,rfl⟩:=ho.shape;have hzz:w.heap.size+2<=z15.heap.size:=(by have:=BR15.out.lt;omega);have BNw:Blk w16 w.heap.size #[.int .i64 n.id,.int .i64 n.sz,.int .i64 n.el,.int .i64 n.bt,.int .i64 n.tm,.int .i64 n.vo,.int .i64 n.ro,.int .i64 n.ld,.int .i64 n.cm,.int .i64 n.nw,.int .i64 n.dl,.int .i64 n.hd,.slice b12 n.log.length d12,.slice b13 n.gr.length d13,.slice b14 n.nx.length d14,.slice b15 n.mt.length d15,.slice a16 n.se.length c16,.slice a17 n.st.length c17] 36:=BN15.out.below hb (by omega);have BRw:Blk w16 (w.heap.size+1) #[.int .i64 0,.int .i64 0,.int .i64 0,.int .i64 0,.int .i64 0,.int .i64 0,.int .i64 0,.int .i64 0,.int .i64 0,.int .i64 0,.int .i64 0,.int .i64 0,.slice none 0 0,.slice none 0 0,.slice none 0 0,.slice none 0 0,.slice none 0 0,.slice none 0 0] 36:=BR15.out.below hb (by omega);have x16:w16.cell? ⟨w.heap.size,16,none⟩=some (.slice a16 n.se.length c16):=BNw.cell 16;have y16:w16.frozen? ⟨w.heap.size,16,none⟩=false:=BNw.free 16;obtain ⟨z16,hz16⟩:∃ z,z=(w16.setCell ⟨w.heap.size,16,none⟩ (.slice b16 n.se.length d16)):=⟨_,rfl⟩;have BN16:Hid (Blk z16 w.heap.size #[.int .i64 n.id,.int .i64 n.sz,.int .i64 n.el,.int .i64 n.bt,.int .i64 n.tm,.int .i64 n.vo,.int .i64 n.ro,.int .i64 n.ld,.int .i64 n.cm,.int .i64 n.nw,.int .i64 n.dl,.int .i64 n.hd,.slice b12 n.log.length d12,.slice b13 n.gr.length d13,.slice b14 n.nx.length d14,.slice b15 n.mt.length d15,.slice b16 n.se.length d16,.slice a17 n.st.length c17] 36):=(by rw [hz16];exact BNw.set 16 _);have BR16:Hid (Blk z16 (w.heap.size+1) #[.int .i64 0,.int .i64 0,.int .i64 0,.int .i64 0,.int .i64 0,.int .i64 0,.int .i64 0,.int .i64 0,.int .i64 0,.int .i64 0,.int .i64 0,.int .i64 0,.slice none 0 0,.slice none 0 0,.slice none 0 0,.slice none 0 0,.slice none 0 0,.slice none 0 0] 36):=(by rw [hz16];exact BRw.set_other _ (by simp));have HB16:Hid (Below w.heap.size w z16):=(by rw [hz16];exact (HB15.out.trans (hb.mono (by omega))).setCell (p:=⟨w.heap.size,16,none⟩) (Nat.le_refl _) _);have hzs16:z15.heap.size<=z16.heap.size:=(by rw [hz16];simp [World.setCell];exact hb.size);have HR12_16:Hid (Zp z16 z11.heap.size (.slice b12 n.log.length d12) n.log):=(by rw [hz16];exact OwnXE.setq (HR12_15.out.below hb) BNw (by decide) _ _);have HR13_16:Hid (Zg inC 1 3 z16 z12.heap.size (.slice b13 n.gr.length d13) n.gr):=(by rw [hz16];exact OwnXG.setq (HR13_15.out.below hb) BNw (by decide) _ _);have HR14_16:Hid (Zg inC 1 3 z16 z13.heap.size (.slice b14 n.nx.length d14) n.nx):=(by rw [hz16];exact OwnXG.setq (HR14_15.out.below hb) BNw (by decide) _ _);have HR15_16:Hid (Zg inC 1 3 z16 z14.heap.size (.slice b15 n.mt.length d15) n.mt):=(by rw [hz16];exact OwnXG.setq (HR15_15.out.below hb) BNw (by decide) _ _);have HR16_16:Hid (Zg inC 1 3 z16 z15.heap.size (.slice b16 n.se.length d16) n.se):=(by rw [hz16];exact OwnXG.setq ho BNw (by decide) _ _);have e17:(w16.setCell ⟨w.heap.size,16,none⟩ (.slice b16 n.se.length d16)).cell? ⟨w.heap.size,17,none⟩=some (.slice a17 n.st.length c17):=(by rw [<-hz16];exact BN16.out.cell 17);clear ho hb BNw BRw hzz;have Hz16:Hid (z16=(w16.setCell ⟨w.heap.size,16,none⟩ (.slice b16 n.se.length d16))):=hz16;clear hz16)
  |(have hG:=G17;go_at_call 104;clear hG G17;refine (H17.out _ (by rw [<-Hz16.out];exact HB16.out)).mono ?_;rintro e w17 ⟨v17,rfl,ho,hb⟩;rw [<-Hz16.out] at ho hb;obtain ⟨b17,d17,rfl⟩:=ho.shape;have hzz:w.heap.size+2<=z16.heap.size:=(by have:=BR16.out.lt;omega);have BNw:Blk w17 w.heap.size #[.int .i64 n.id,.int .i64 n.sz,.int .i64 n.el,.int .i64 n.bt,.int .i64 n.tm,.int .i64 n.vo,.int .i64 n.ro,.int .i64 n.ld,.int .i64 n.cm,.int .i64 n.nw,.int .i64 n.dl,.int .i64 n.hd,.slice b12 n.log.length d12,.slice b13 n.gr.length d13,.slice b14 n.nx.length d14,.slice b15 n.mt.length d15,.slice b16 n.se.length d16,.slice a17 n.st.length c17] 36:=BN16.out.below hb (by omega);have BRw:Blk w17 (w.heap.size+1) #[.int .i64 0,.int .i64 0,.int .i64 0,.int .i64 0,.int .i64 0,.int .i64 0,.int .i64 0,.int .i64 0,.int .i64 0,.int .i64 0,.int .i64 0,.int .i64 0,.slice none 0 0,.slice none 0 0,.slice none 0 0,.slice none 0 0,.slice none 0 0,.slice none 0 0] 36:=BR16.out.below hb (by omega);have x17:w17.cell? ⟨w.heap.size,17,none⟩=some (.slice a17 n.st.length c17):=BNw.cell 17;have y17:w17.frozen? ⟨w.heap.size,17,none⟩=false:=BNw.free 17;obtain ⟨z17,hz17⟩:∃ z,z=(w17.setCell ⟨w.heap.size,17,none⟩ (.slice b17 n.st.length d17)):=⟨_,rfl⟩;have BN17:Hid (Blk z17 w.heap.size #[.int .i64 n.id,.int .i64 n.sz,.int .i64 n.el,.int .i64 n.bt,.int .i64 n.tm,.int .i64 n.vo,.int .i64 n.ro,.int .i64 n.ld,.int .i64 n.cm,.int .i64 n.nw,.int .i64 n.dl,.int .i64 n.hd,.slice b12 n.log.length d12,.slice b13 n.gr.length d13,.slice b14 n.nx.length d14,.slice b15 n.mt.length d15,.slice b16 n.se.length d16,.slice b17 n.st.length d17] 36):=(by rw [hz17];exact BNw.set 17 _);have BR17:Hid (Blk z17 (w.heap.size+1) #[.int .i64 0,.int .i64 0,.int .i64 0,.int .i64 0,.int .i64 0,.int .i64 0,.int .i64 0,.int .i64 0,.int .i64 0,.int .i64 0,.int .i64 0,.int .i64 0,.slice none 0 0,.slice none 0 0,.slice none 0 0,.slice none 0 0,.slice none 0 0,.slice none 0 0] 36):=(by rw [hz17];exact BRw.set_other _ (by simp));have HB17:Hid (Below w.heap.size w z17):=(by rw [hz17];exact (HB16.out.trans (hb.mono (by omega))).setCell (p:=⟨w.heap.size,17,none⟩) (Nat.le_refl _) _);have hzs17:z16.heap.size<=z17.heap.size:=(by rw [hz17];simp [World.setCell];exact hb.size);have HR12_17:Hid (Zp z17 z11.heap.size (.slice b12 n.log.length d12) n.log):=(by rw [hz17];exact OwnXE.setq (HR12_16.out.below hb) BNw (by decide) _ _);have HR13_17:Hid (Zg inC 1 3 z17 z12.heap.size (.slice b13 n.gr.length d13) n.gr):=(by rw [hz17];exact OwnXG.setq (HR13_16.out.below hb) BNw (by decide) _ _);have HR14_17:Hid (Zg inC 1 3 z17 z13.heap.size (.slice b14 n.nx.length d14) n.nx):=(by rw [hz17];exact OwnXG.setq (HR14_16.out.below hb) BNw (by decide) _ _);have HR15_17:Hid (Zg inC 1 3 z17 z14.heap.size (.slice b15 n.mt.length d15) n.mt):=(by rw [hz17];exact OwnXG.setq (HR15_16.out.below hb) BNw (by decide) _ _);have HR16_17:Hid (Zg inC 1 3 z17 z15.heap.size (.slice b16 n.se.length d16) n.se):=(by rw [hz17];exact OwnXG.setq (HR16_16.out.below hb) BNw (by decide) _ _);have HR17_17:Hid (Zg inC 1 3 z17 z16.heap.size (.slice b17 n.st.length d17) n.st):=(by rw [hz17];exact OwnXG.setq ho BNw (by decide) _ _);clear ho hb BNw BRw hzz;have Hz17:Hid (z17=(w17.setCell ⟨w.heap.size,17,none⟩ (.slice b17 n.st.length d17))):=hz17;clear hz17)
  |(have hBA:=G18;refine Zx 36 (.tmp 1) rfl ?_;clear hBA;rw [<-Hz17.out];refine Zk rfl 36 (.tmp 1) rfl w.heap.size rfl BN17.out Tryz.underlying36 rfl Jb rfl ?_;clear G18)
  |(have hBA:=G19;refine Y6 36 (.tmp 2) _ rfl ?_;clear hBA;refine Zz rfl 36 (.tmp 2) _ rfl (w.heap.size+1) rfl rfl BR17.out Jb rfl rfl (by simp [Value.oneCell']) ?_;clear G19))
 have HBw:Hid (Below w.heap.size w (z17.setRow (w.heap.size+1) #[.int .i64 n.id,.int .i64 n.sz,.int .i64 n.el,.int .i64 n.bt,.int .i64 n.tm,.int .i64 n.vo,.int .i64 n.ro,.int .i64 n.ld,.int .i64 n.cm,.int .i64 n.nw,.int .i64 n.dl,.int .i64 n.hd,.slice b12 n.log.length d12,.slice b13 n.gr.length d13,.slice b14 n.nx.length d14,.slice b15 n.mt.length d15,.slice b16 n.se.length d16,.slice b17 n.st.length d17])):=X4 HB17.out (by omega) _;have hq:=fun (k:Nat) (hk:k≠w.heap.size+1)=>setRow_other z17 (w.heap.size+1) k #[.int .i64 n.id,.int .i64 n.sz,.int .i64 n.el,.int .i64 n.bt,.int .i64 n.tm,.int .i64 n.vo,.int .i64 n.ro,.int .i64 n.ld,.int .i64 n.cm,.int .i64 n.nw,.int .i64 n.dl,.int .i64 n.hd,.slice b12 n.log.length d12,.slice b13 n.gr.length d13,.slice b14 n.nx.length d14,.slice b15 n.mt.length d15,.slice b16 n.se.length d16,.slice b17 n.st.length d17] hk
 have hs11:w.heap.size<=z11.heap.size:=HB11.out.size;have hs12:w.heap.size<=z12.heap.size:=HB12.out.size;have hs13:w.heap.size<=z13.heap.size:=HB13.out.size;have hs14:w.heap.size<=z14.heap.size:=HB14.out.size;have hs15:w.heap.size<=z15.heap.size:=HB15.out.size;have hs16:w.heap.size<=z16.heap.size:=HB16.out.size;have hs17:w.heap.size<=z17.heap.size:=HB17.out.size;refine bodyPost_ret (Y5 (s:=2) (ty:=36) (b:=w.heap.size+1) Tryz.results64 (by rfl) (BR17.out.row #[.int .i64 n.id,.int .i64 n.sz,.int .i64 n.el,.int .i64 n.bt,.int .i64 n.tm,.int .i64 n.vo,.int .i64 n.ro,.int .i64 n.ld,.int .i64 n.cm,.int .i64 n.nw,.int .i64 n.dl,.int .i64 n.hd,.slice b12 n.log.length d12,.slice b13 n.gr.length d13,.slice b14 n.nx.length d14,.slice b15 n.mt.length d15,.slice b16 n.se.length d16,.slice b17 n.st.length d17]) Tryz.underlying36 rfl Jb rfl) rfl ⟨_,_,_,_,_,_,rfl,(HR12_17.out.block fun k e=>hq k (Ym HR12_17.out BR17.out (by decide) k e)).le hs11,(HR13_17.out.block fun k e=>hq k (Zu HR13_17.out BR17.out (by decide) k e)).le hs12,(HR14_17.out.block fun k e=>hq k (Zu HR14_17.out BR17.out (by decide) k e)).le hs13,(HR15_17.out.block fun k e=>hq k (Zu HR15_17.out BR17.out (by decide) k e)).le hs14,(HR16_17.out.block fun k e=>hq k (Zu HR16_17.out BR17.out (by decide) k e)).le hs15,(HR17_17.out.block fun k e=>hq k (Zu HR17_17.out BR17.out (by decide) k e)).le hs16,?_,HBw.out⟩;have p13_14:Ya (.slice b13 n.gr.length d13) (.slice b14 n.nx.length d14):=fun k e1 e2=>by have h1:=(HR13_13.out.lts k e1).2;have h2:=(HR14_17.out.lts k e2).1;omega
 have p13_15:Ya (.slice b13 n.gr.length d13) (.slice b15 n.mt.length d15):=fun k e1 e2=>by have h1:=(HR13_13.out.lts k e1).2;have h2:=(HR15_17.out.lts k e2).1;omega
 have p13_16:Ya (.slice b13 n.gr.length d13) (.slice b16 n.se.length d16):=fun k e1 e2=>by have h1:=(HR13_13.out.lts k e1).2;have h2:=(HR16_17.out.lts k e2).1;omega
 have p13_17:Ya (.slice b13 n.gr.length d13) (.slice b17 n.st.length d17):=fun k e1 e2=>by have h1:=(HR13_13.out.lts k e1).2;have h2:=(HR17_17.out.lts k e2).1;omega
 have p14_15:Ya (.slice b14 n.nx.length d14) (.slice b15 n.mt.length d15):=fun k e1 e2=>by have h1:=(HR14_14.out.lts k e1).2;have h2:=(HR15_17.out.lts k e2).1;omega
 have p14_16:Ya (.slice b14 n.nx.length d14) (.slice b16 n.se.length d16):=fun k e1 e2=>by have h1:=(HR14_14.out.lts k e1).2;have h2:=(HR16_17.out.lts k e2).1;omega
 have p14_17:Ya (.slice b14 n.nx.length d14) (.slice b17 n.st.length d17):=fun k e1 e2=>by have h1:=(HR14_14.out.lts k e1).2;have h2:=(HR17_17.out.lts k e2).1;omega
 have p15_16:Ya (.slice b15 n.mt.length d15) (.slice b16 n.se.length d16):=fun k e1 e2=>by have h1:=(HR15_15.out.lts k e1).2;have h2:=(HR16_17.out.lts k e2).1;omega
 have p15_17:Ya (.slice b15 n.mt.length d15) (.slice b17 n.st.length d17):=fun k e1 e2=>by have h1:=(HR15_15.out.lts k e1).2;have h2:=(HR17_17.out.lts k e2).1;omega
 have p16_17:Ya (.slice b16 n.se.length d16) (.slice b17 n.st.length d17):=fun k e1 e2=>by have h1:=(HR16_16.out.lts k e1).2;have h2:=(HR17_17.out.lts k e2).1;omega
 simp only [List.pairwise_cons,List.mem_cons,List.not_mem_nil,or_false,forall_eq_or_imp,forall_eq,false_imp_iff,implies_true,and_true,List.Pairwise.nil];exact ⟨⟨p13_14,p13_15,p13_16,p13_17⟩,⟨p14_15,p14_16,p14_17⟩,⟨p15_16,p15_17⟩,p16_17⟩
theorem ix_at {w:World}{a:Option Addr}{n c:Nat}{l:List Int}(h:Ix w (.slice a n c) l)(i:Nat)(hi:i<l.length):∃ b off,a=some ⟨b,off,none⟩/\w.cell? ⟨b,off+i,none⟩=some (.int .i64 l[i]):=by
 obtain ⟨-,a',c',e,hc⟩:=h;simp only [Value.slice.injEq] at e;obtain ⟨rfl,-,rfl⟩:=e;obtain ⟨b,off,rfl,hj⟩:=hc i hi;exact ⟨b,off,rfl,hj i hi⟩
theorem int_row {w:World}{B:Nat}{v:Value}{l:List Int}(h:Zg inC 1 3 w B v l)(J:Nat)(hJ:J<l.length):∃ g c,v=.slice (some ⟨g,0,none⟩) l.length c/\g<w.heap.size/\w.cell? ⟨g,J,none⟩=some (.int .i64 l[J])/\w.frozen? ⟨g,J,none⟩=false:=by
 obtain ⟨g,c,rfl⟩:=h.shape' (by omega);refine ⟨g,c,rfl,(h.lts g rfl).2,?_,World.ownsRow.frozenAt h J⟩;rw [World.ownsRow.cellAt h J (by omega),gC_in];simp [hJ]
theorem Z2s (ev:Value)(lt tm:Int)(l:List Ent)(w:World)(hv:Es w ev l)(hll:l.length<=1048576) :
  Calls Tryz.prog 69 #[ev,.int .i64 lt,.int .i64 tm] w fun r w'=>r=.returned (.bool (Xf tm lt l))/\Below w.heap.size w w':=by
 obtain ⟨hl,hf,a,cap,rfl,hc⟩:=hv;go_enter Tryz.func69,Tryz.ntmps69;go_wp2
 go_loopw [1,11] (fun t i wr=>∃(k:Nat) (x:Int),k<=l.length/\i=.int .i64 k/\t=.int .i64 x/\Xf tm lt l=Xf tm x (l.drop k)/\Below w.heap.size w wr) (fun _ i _=>l.length-(intOf i).toNat)
 case atStart=>exact ⟨0,lt,Nat.zero_le _,rfl,rfl,by simp,Below.refl _ _⟩
 case round=>
  obtain ⟨k,x,hk,rfl,rfl,hfl,hB⟩:=hrel;have HF:Hid (Xf tm lt l=Xf tm x (l.drop k)):=hfl;have hz:=hB.size;clear hfl;by_cases hlt:k<l.length
  ·obtain ⟨b,off,rfl,hj⟩:=hc k hlt
   obtain ⟨c0,c1,c2,c3,c4,c5,c6⟩:=(hj k hlt).below hB;have hfk:=hf l[k] (List.getElem_mem hlt);have HD:Hid (Xf tm x (l.drop k)=(entB l[k] && inB l[k].t x tm && Xf tm l[k].t (l.drop (k+1)))):=fitL_drop tm x l k hlt;clear hc hj;generalize l[k]=e at *
   go_wp2_with (first
    |(go_at_call 109;refine (entryFits_any e hfk _).mono ?_;rintro r w1 ⟨rfl,hb⟩;obtain ⟨hc1,hf1⟩:=Z0o hb;have hz1:wr.heap.size<w1.heap.size:=(by have:=hb.size;simp at this;omega))
    |(go_at_call 70;refine (Zb _ _ _ _).mono ?_;rintro r w' ⟨rfl,rfl⟩))
   ·go_ret
    exact ⟨Xd (by rw [HF.out,HD.out];go_light;simp_all),hB.trans (((Below.refl _ _).alloc (by omega) _).trans (hb.mono (by simp;omega)))⟩
   ·go_roundw
    case rel=>exact ⟨k+1,e.t,by omega,by go_num,rfl,by rw [HF.out,HD.out];go_light;simp_all,hB.trans (((Below.refl _ _).alloc (by omega) _).trans (hb.mono (by simp;omega)))⟩
    case measure=>simp [intOf];omega
   ·go_ret
    exact ⟨Xd (by rw [HF.out,HD.out];go_light;simp_all),hB.trans (((Below.refl _ _).alloc (by omega) _).trans (hb.mono (by simp;omega)))⟩
  ·have hd:l.drop k = []:=List.drop_of_length_le (by omega)
   go_wp2;go_ret;exact ⟨Xd (by rw [HF.out,hd];rfl),hB⟩
theorem Z2d {e:Ent}{low high:Int}(X:Bool)(h:entB e=false∨e.t<low∨high<e.t):(entB e && inB e.t low high && X)=false:=by
 rcases h with h | h
 ·rw [h];rfl
 ·rw [(Jt _ _ _).2 h];simp
theorem fit_yes {e:Ent}{low high:Int}(X:Bool)(h:entB e=true)(h1:low<=e.t)(h2:e.t<=high):(entB e && inB e.t low high && X)=X:=by
 rw [h,(Zs _ _ _).2 ⟨h1,h2⟩];rfl
theorem prev_step (low:Int)(l:List Ent)(k:Nat)(h:k<l.length):(if k+1=0 then low else (l[k+1-1]?.map Ent.t).getD 0)=l[k].t:=by simp [h]
theorem Yf (ev:Value)(low high:Int)(l:List Ent)(w:World)(hv:Es w ev l)(hll:l.length<=1048576) :
  Calls Tryz.prog 57 #[ev,.int .i64 low,.int .i64 high] w fun r w'=>r=.returned (.bool (Xf high low l))/\Below w.heap.size w w':=by
 obtain ⟨hl,hf,a,cap,rfl,hc⟩:=hv;go_enter Tryz.func57,Tryz.ntmps57;go_wp2
 go_loopw [7] (fun i wr=>∃ k:Nat,k<=l.length/\i=.int .i64 k/\Xf high low l=Xf high (if k=0 then low else (l[k-1]?.map Ent.t).getD 0) (l.drop k)/\Below w.heap.size w wr) (fun i _=>l.length-(intOf i).toNat)
 case atStart=>exact ⟨0,Nat.zero_le _,rfl,by simp,Below.refl _ _⟩
 case round=>
  obtain ⟨k,hk,rfl,hfl,hB⟩:=hrel;have HF:Hid (Xf high low l=Xf high (if k=0 then low else (l[k-1]?.map Ent.t).getD 0) (l.drop k)):=hfl;have hz:=hB.size;clear hfl;by_cases hlt:k<l.length
  ·obtain ⟨b,off,rfl,hj⟩:=hc k hlt
   have hfk:=hf l[k] (List.getElem_mem hlt);have HD:∀ x,Hid (Xf high x (l.drop k)=(entB l[k] && inB l[k].t x high && Xf high l[k].t (l.drop (k+1)))):=fun x=>fitL_drop high x l k hlt
   have HP:Hid ((if k+1=0 then low else (l[k+1-1]?.map Ent.t).getD 0)=l[k].t):=prev_step low l k hlt;by_cases h0:k=0
   ·subst h0
    obtain ⟨c0,c1,c2,c3,c4,c5,c6⟩:=(hj 0 hlt).below hB;have hlow:(if (0:Nat)=0 then low else (l[0-1]?.map Ent.t).getD 0)=low:=rfl;rw [hlow] at HF;clear hc hj hlow;simp only [Nat.zero_mul,Nat.add_zero] at c0 c1 c2 c3 c4 c5 c6;generalize l[0]=e at *
    go_wp2_with (go_at_call 97;refine (Z2m e hfk _).mono ?_;rintro r w1 ⟨rfl,hb⟩;obtain ⟨hc1,hf1⟩:=Z0o hb;have hbl:=X7 c0)
    ·go_ret
     exact ⟨Xd (by rw [HF.out,(HD _).out,Z2d];go_light;cases hE:entB e <;> simp_all <;> omega),hB.trans (hb.mono hz)⟩
    ·go_ret
     exact ⟨Xd (by rw [HF.out,(HD _).out,Z2d];go_light;cases hE:entB e <;> simp_all <;> omega),hB.trans (hb.mono hz)⟩
    ·go_quiet (fail)
     go_wp2
     go_roundw
     case rel=>exact ⟨0+1,by omega,by go_num,by rw [HF.out,(HD _).out,HP.out,fit_yes] <;> (go_light;cases hE:entB e <;> simp_all <;> omega),hB.trans ((hb.mono hz).trans ⟨rfl,rfl,rfl,Nat.le_refl _,fun _ _=>rfl⟩)⟩
     case measure=>simp [intOf];omega
    ·go_ret
     exact ⟨Xd (by rw [HF.out,(HD _).out,Z2d];go_light;cases hE:entB e <;> simp_all <;> omega),hB.trans (hb.mono hz)⟩
   ·obtain ⟨j,rfl⟩:∃ j,k=j+1:=⟨k-1,by omega⟩
    have hp:j<l.length:=by omega
    have hprev:(if j+1=0 then low else (l[j+1-1]?.map Ent.t).getD 0)=l[j].t:=prev_step low l j hp;rw [hprev] at HF;obtain ⟨c0,c1,c2,c3,c4,c5,c6⟩:=(hj (j+1) hlt).below hB;obtain ⟨p0,_⟩:=(hj j hp).below hB;have hbl:=X7 c0;clear hc hj hprev h0;generalize l[j]=pe at *;generalize l[j+1]=e at *
    go_wp2_with (go_at_call 97;refine (Z2m e hfk _).mono ?_;rintro r w1 ⟨rfl,hb⟩;obtain ⟨hc1,hf1⟩:=Z0o hb)
    ·go_ret
     exact ⟨Xd (by rw [HF.out,(HD _).out,Z2d];go_light;cases hE:entB e <;> simp_all <;> omega),hB.trans (hb.mono hz)⟩
    ·go_quiet (fail)
     go_wp2
     ·go_ret
      exact ⟨Xd (by rw [HF.out,(HD _).out,Z2d];go_light;cases hE:entB e <;> simp_all <;> omega),hB.trans ((hb.mono hz).trans ⟨rfl,rfl,rfl,Nat.le_refl _,fun _ _=>rfl⟩)⟩
     ·go_roundw
      case rel=>exact ⟨j+1+1,by omega,by go_num,by rw [HF.out,(HD _).out,HP.out,fit_yes] <;> (go_light;cases hE:entB e <;> simp_all <;> omega),hB.trans ((hb.mono hz).trans ⟨rfl,rfl,rfl,Nat.le_refl _,fun _ _=>rfl⟩)⟩
      case measure=>simp [intOf];omega
    ·go_ret
     exact ⟨Xd (by rw [HF.out,(HD _).out,Z2d];go_light;cases hE:entB e <;> simp_all <;> omega),hB.trans (hb.mono hz)⟩
  ·have hd:l.drop k = []:=List.drop_of_length_le (by omega)
   go_wp2;go_ret;exact ⟨Xd (by rw [HF.out,hd];rfl),hB⟩
def sizB (n:Int):Bool:=n == 3 || n == 5 || n == 7
theorem Jm (n:Int)(w:World):Calls Tryz.prog 108 #[.int .i64 n] w fun e w'=>e=.returned (.bool (sizB n))/\w'=w:=by
 by_cases h3:n=3
 ·subst h3
  go_enter Tryz.func108,Tryz.ntmps108;go_wp2;go_ret;exact ⟨rfl,rfl⟩
 ·by_cases h5:n=5
  ·subst h5
   go_enter Tryz.func108,Tryz.ntmps108;go_wp2;go_ret;exact ⟨rfl,rfl⟩
  ·go_enter Tryz.func108,Tryz.ntmps108
   go_wp2;go_ret;exact ⟨by simp [sizB,h3,h5],rfl⟩
theorem Z0n (n:Int)(w:World):Calls Tryz.prog 98 #[.int .i64 n] w fun e w'=>e=.returned (.bool (sizB n))/\w'=w:=by
 by_cases h3:n=3
 ·subst h3
  go_enter Tryz.func98,Tryz.ntmps98;go_wp2;go_ret;exact ⟨rfl,rfl⟩
 ·by_cases h5:n=5
  ·subst h5
   go_enter Tryz.func98,Tryz.ntmps98;go_wp2;go_ret;exact ⟨rfl,rfl⟩
  ·go_enter Tryz.func98,Tryz.ntmps98
   go_wp2;go_ret;exact ⟨by simp [sizB,h3,h5],rfl⟩
def Y0 (id sz el bt:Int):Bool:=sizB sz && (inB id 1 sz && (inB el 2 1000 && inB bt 1 el))
theorem Z19 (id sz el bt:Int)(w:World):Calls Tryz.prog 66 #[.int .i64 id,.int .i64 sz,.int .i64 el,.int .i64 bt] w fun e w'=>e=.returned (.bool (Y0 id sz el bt))/\w'=w:=by
 have g1:True:=trivial;have g2:True:=trivial;cases h1:sizB sz
 ·have e:Y0 id sz el bt=false:=by simp [Y0,h1]
  rw [e];go_enter Tryz.func66,Tryz.ntmps66
  go_wp2_with (go_at_call 108;refine (Jm _ _).mono ?_;rintro e w1 ⟨rfl,hw⟩;obtain rfl:=hw.symm;rw [h1])
  go_ret;exact ⟨rfl,rfl⟩
 ·cases h2:inB id 1 sz
  ·have e:Y0 id sz el bt=false:=by simp [Y0,h2]
   rw [e];go_enter Tryz.func66,Tryz.ntmps66
   go_wp2_with (first
    |(go_at_call 108;refine (Jm _ _).mono ?_;rintro e w1 ⟨rfl,hw⟩;obtain rfl:=hw.symm;rw [h1])
    |(go_at_call 70;clear g1;refine (Zb id 1 sz _).mono ?_;rintro e w1 ⟨rfl,hw⟩;obtain rfl:=hw.symm;rw [h2]))
   go_ret;exact ⟨rfl,rfl⟩
  ·cases h3:inB el 2 1000
   ·have e:Y0 id sz el bt=false:=by simp [Y0,h3]
    rw [e];go_enter Tryz.func66,Tryz.ntmps66
    go_wp2_with (first
     |(go_at_call 108;refine (Jm _ _).mono ?_;rintro e w1 ⟨rfl,hw⟩;obtain rfl:=hw.symm;rw [h1])
     |(go_at_call 70;clear g1;refine (Zb id 1 sz _).mono ?_;rintro e w1 ⟨rfl,hw⟩;obtain rfl:=hw.symm;rw [h2])
     |(go_at_call 70;clear g2;refine (Zb el 2 1000 _).mono ?_;rintro e w1 ⟨rfl,hw⟩;obtain rfl:=hw.symm;rw [h3]))
    go_ret;exact ⟨rfl,rfl⟩
   ·have e:Y0 id sz el bt=inB bt 1 el:=by simp [Y0,h1,h2,h3]
    rw [e];go_enter Tryz.func66,Tryz.ntmps66
    go_wp2_with (first
     |(go_at_call 108;refine (Jm _ _).mono ?_;rintro e w1 ⟨rfl,hw⟩;obtain rfl:=hw.symm;rw [h1])
     |(go_at_call 70;clear g1;refine (Zb id 1 sz _).mono ?_;rintro e w1 ⟨rfl,hw⟩;obtain rfl:=hw.symm;rw [h2])
     |(go_at_call 70;clear g2;refine (Zb el 2 1000 _).mono ?_;rintro e w1 ⟨rfl,hw⟩;obtain rfl:=hw.symm;rw [h3])
     |(go_at_call 70;refine (Zb bt 1 el _).mono ?_;rintro e w1 ⟨rfl,hw⟩;obtain rfl:=hw.symm))
    go_ret;exact ⟨rfl,rfl⟩
theorem Zr (id sz el bt:Int)(w:World):Calls Tryz.prog 58 #[.int .i64 id,.int .i64 sz,.int .i64 el,.int .i64 bt] w fun e w'=>e=.returned (.bool (Y0 id sz el bt))/\w'=w:=by
 have g1:True:=trivial;have g2:True:=trivial;cases h1:sizB sz
 ·have e:Y0 id sz el bt=false:=by simp [Y0,h1]
  rw [e];go_enter Tryz.func58,Tryz.ntmps58
  go_wp2_with (go_at_call 98;refine (Z0n _ _).mono ?_;rintro e w1 ⟨rfl,hw⟩;obtain rfl:=hw.symm;rw [h1])
  go_ret;exact ⟨rfl,rfl⟩
 ·cases h2:inB id 1 sz
  ·have e:Y0 id sz el bt=false:=by simp [Y0,h2]
   rw [e];go_enter Tryz.func58,Tryz.ntmps58
   go_wp2_with (first
    |(go_at_call 98;refine (Z0n _ _).mono ?_;rintro e w1 ⟨rfl,hw⟩;obtain rfl:=hw.symm;rw [h1])
    |(go_at_call 56;clear g1;refine (Z6 id 1 sz _).mono ?_;rintro e w1 ⟨rfl,hw⟩;obtain rfl:=hw.symm;rw [h2]))
   go_ret;exact ⟨rfl,rfl⟩
  ·cases h3:inB el 2 1000
   ·have e:Y0 id sz el bt=false:=by simp [Y0,h3]
    rw [e];go_enter Tryz.func58,Tryz.ntmps58
    go_wp2_with (first
     |(go_at_call 98;refine (Z0n _ _).mono ?_;rintro e w1 ⟨rfl,hw⟩;obtain rfl:=hw.symm;rw [h1])
     |(go_at_call 56;clear g1;refine (Z6 id 1 sz _).mono ?_;rintro e w1 ⟨rfl,hw⟩;obtain rfl:=hw.symm;rw [h2])
     |(go_at_call 56;clear g2;refine (Z6 el 2 1000 _).mono ?_;rintro e w1 ⟨rfl,hw⟩;obtain rfl:=hw.symm;rw [h3]))
    go_ret;exact ⟨rfl,rfl⟩
   ·have e:Y0 id sz el bt=inB bt 1 el:=by simp [Y0,h1,h2,h3]
    rw [e];go_enter Tryz.func58,Tryz.ntmps58
    go_wp2_with (first
     |(go_at_call 98;refine (Z0n _ _).mono ?_;rintro e w1 ⟨rfl,hw⟩;obtain rfl:=hw.symm;rw [h1])
     |(go_at_call 56;clear g1;refine (Z6 id 1 sz _).mono ?_;rintro e w1 ⟨rfl,hw⟩;obtain rfl:=hw.symm;rw [h2])
     |(go_at_call 56;clear g2;refine (Z6 el 2 1000 _).mono ?_;rintro e w1 ⟨rfl,hw⟩;obtain rfl:=hw.symm;rw [h3])
     |(go_at_call 56;refine (Z6 bt 1 el _).mono ?_;rintro e w1 ⟨rfl,hw⟩;obtain rfl:=hw.symm))
    go_ret;exact ⟨rfl,rfl⟩
def Yu (sz tm vo:Int):Bool:=inB tm 0 1073741824 && (inB vo 0 sz && (vo == 0 || decide (0<tm)))
theorem voteFits_any (i0 i1 i2 i3 i4 i5 i6 i7 i8 i9 i10 i11:Int)(a12 a13 a14 a15 a16 a17:Option Addr)(n12 cap12 n13 cap13 n14 cap14 n15 cap15 n16 cap16 n17 cap17:Nat)(w:World):Calls Tryz.prog 67 #[.agg #[.int .i64 i0,.int .i64 i1,.int .i64 i2,.int .i64 i3,.int .i64 i4,.int .i64 i5,.int .i64 i6,.int .i64 i7,.int .i64 i8,.int .i64 i9,.int .i64 i10,.int .i64 i11,.slice a12 n12 cap12,.slice a13 n13 cap13,.slice a14 n14 cap14,.slice a15 n15 cap15,.slice a16 n16 cap16,.slice a17 n17 cap17]] w fun e w'=>e=.returned (.bool (Yu i1 i4 i5))/\Below w.heap.size w w':=by
 have hb0:Hid (Below w.heap.size w (w.alloc (.cells #[.int .i64 i0,.int .i64 i1,.int .i64 i2,.int .i64 i3,.int .i64 i4,.int .i64 i5,.int .i64 i6,.int .i64 i7,.int .i64 i8,.int .i64 i9,.int .i64 i10,.int .i64 i11,.slice a12 n12 cap12,.slice a13 n13 cap13,.slice a14 n14 cap14,.slice a15 n15 cap15,.slice a16 n16 cap16,.slice a17 n17 cap17] 36))):=(Below.refl _ _).alloc (Nat.le_refl _) _;have g1:True:=trivial;cases h1:inB i4 0 1073741824
 ·have e:Yu i1 i4 i5=false:=by simp [Yu,h1]
  rw [e];go_enter Tryz.func67,Tryz.ntmps67
  go_wp2_with (go_at_call 70;clear g1;refine (Zb i4 0 1073741824 _).mono ?_;rintro e w1 ⟨rfl,hw⟩;obtain rfl:=hw.symm;rw [h1])
  go_ret;exact ⟨rfl,hb0.out⟩
 ·cases h2:inB i5 0 i1
  ·have e:Yu i1 i4 i5=false:=by simp [Yu,h2]
   rw [e];go_enter Tryz.func67,Tryz.ntmps67
   go_wp2_with (first
    |(go_at_call 70;clear g1;refine (Zb i4 0 1073741824 _).mono ?_;rintro e w1 ⟨rfl,hw⟩;obtain rfl:=hw.symm;rw [h1])
    |(go_at_call 70;refine (Zb i5 0 i1 _).mono ?_;rintro e w1 ⟨rfl,hw⟩;obtain rfl:=hw.symm;rw [h2]))
   go_ret;exact ⟨rfl,hb0.out⟩
  ·by_cases h0:i5=0
   ·subst h0
    have e:Yu i1 i4 0=true:=by simp [Yu,h1,h2]
    rw [e];go_enter Tryz.func67,Tryz.ntmps67
    go_wp2_with (first
     |(go_at_call 70;clear g1;refine (Zb i4 0 1073741824 _).mono ?_;rintro e w1 ⟨rfl,hw⟩;obtain rfl:=hw.symm;rw [h1])
     |(go_at_call 70;refine (Zb 0 0 i1 _).mono ?_;rintro e w1 ⟨rfl,hw⟩;obtain rfl:=hw.symm;rw [h2]))
    go_ret;exact ⟨rfl,hb0.out⟩
   ·have e:Yu i1 i4 i5=decide (0<i4):=by simp [Yu,h1,h2,h0]
    rw [e];go_enter Tryz.func67,Tryz.ntmps67
    go_wp2_with (first
     |(go_at_call 70;clear g1;refine (Zb i4 0 1073741824 _).mono ?_;rintro e w1 ⟨rfl,hw⟩;obtain rfl:=hw.symm;rw [h1])
     |(go_at_call 70;refine (Zb i5 0 i1 _).mono ?_;rintro e w1 ⟨rfl,hw⟩;obtain rfl:=hw.symm;rw [h2]))
    go_ret;exact ⟨by simp [h0],hb0.out⟩
def Y7 (el nw dl hd:Int):Bool:=inB nw 0 1099511627776 && (inB dl 0 (nw+2*el) && inB hd 0 nw)
theorem clockFits_any (i0 i1 i2 i3 i4 i5 i6 i7 i8 i9 i10 i11:Int)(a12 a13 a14 a15 a16 a17:Option Addr)(n12 cap12 n13 cap13 n14 cap14 n15 cap15 n16 cap16 n17 cap17:Nat)(w:World)(hel:0<=i2)(hel':i2<=1000):Calls Tryz.prog 71 #[.agg #[.int .i64 i0,.int .i64 i1,.int .i64 i2,.int .i64 i3,.int .i64 i4,.int .i64 i5,.int .i64 i6,.int .i64 i7,.int .i64 i8,.int .i64 i9,.int .i64 i10,.int .i64 i11,.slice a12 n12 cap12,.slice a13 n13 cap13,.slice a14 n14 cap14,.slice a15 n15 cap15,.slice a16 n16 cap16,.slice a17 n17 cap17]] w fun e w'=>e=.returned (.bool (Y7 i2 i9 i10 i11))/\Below w.heap.size w w':=by
 have hb0:Hid (Below w.heap.size w (w.alloc (.cells #[.int .i64 i0,.int .i64 i1,.int .i64 i2,.int .i64 i3,.int .i64 i4,.int .i64 i5,.int .i64 i6,.int .i64 i7,.int .i64 i8,.int .i64 i9,.int .i64 i10,.int .i64 i11,.slice a12 n12 cap12,.slice a13 n13 cap13,.slice a14 n14 cap14,.slice a15 n15 cap15,.slice a16 n16 cap16,.slice a17 n17 cap17] 36))):=(Below.refl _ _).alloc (Nat.le_refl _) _;have g1:True:=trivial;have g2:True:=trivial;cases h1:inB i9 0 1099511627776
 ·have e:Y7 i2 i9 i10 i11=false:=by simp [Y7,h1]
  rw [e];go_enter Tryz.func71,Tryz.ntmps71
  go_wp2_with (go_at_call 70;clear g1;refine (Zb i9 0 1099511627776 _).mono ?_;rintro e w1 ⟨rfl,hw⟩;obtain rfl:=hw.symm;rw [h1])
  go_ret;exact ⟨rfl,hb0.out⟩
 ·have hn:=(Zs _ _ _).1 h1
  cases h2:inB i10 0 (i9+2*i2)
  ·have e:Y7 i2 i9 i10 i11=false:=by simp [Y7,h2]
   rw [e];go_enter Tryz.func71,Tryz.ntmps71
   go_wp2_with (first
    |(go_at_call 70;clear g1;refine (Zb i9 0 1099511627776 _).mono ?_;rintro e w1 ⟨rfl,hw⟩;obtain rfl:=hw.symm;rw [h1])
    |(go_at_call 70;clear g2;refine (Zb i10 0 (i9+2*i2) _).mono ?_;rintro e w1 ⟨rfl,hw⟩;obtain rfl:=hw.symm;rw [h2]))
   go_ret;exact ⟨rfl,hb0.out⟩
  ·have e:Y7 i2 i9 i10 i11=inB i11 0 i9:=by simp [Y7,h1,h2]
   rw [e];go_enter Tryz.func71,Tryz.ntmps71
   go_wp2_with (first
    |(go_at_call 70;clear g1;refine (Zb i9 0 1099511627776 _).mono ?_;rintro e w1 ⟨rfl,hw⟩;obtain rfl:=hw.symm;rw [h1])
    |(go_at_call 70;clear g2;refine (Zb i10 0 (i9+2*i2) _).mono ?_;rintro e w1 ⟨rfl,hw⟩;obtain rfl:=hw.symm;rw [h2])
    |(go_at_call 70;refine (Zb i11 0 i9 _).mono ?_;rintro e w1 ⟨rfl,hw⟩;obtain rfl:=hw.symm))
   go_ret;exact ⟨rfl,hb0.out⟩
theorem entCells_one (l:List Ent):∀ u∈Yd l,u.oneCell'=true:=by
 induction l with
 | nil=>intro u hu;cases hu
 | cons e l ih=>
  intro u hu;simp only [Yd,List.mem_append] at hu;rcases hu with hu | hu
  ·simp only [Ent.cells,List.mem_cons,List.not_mem_nil,or_false] at hu
   rcases hu with rfl | rfl | rfl | rfl | rfl | rfl | rfl <;> rfl
  ·exact ih u hu
theorem wpl_appendEs {w:World}{ops:Array Oper}{rest:List Oper}{o:Oper}{a:Act}{Q:Exit->Act->World->Prop}(hgd:o.guard=none)(s x:Operand)
  (ho:o.op=.call { callee:=.builtin .append,args:=#[s,x],argTypes:=#[34,34] })
  {B:Nat} {v:Value} {l:List Ent} (es:List Ent) (hf:∀ e∈es,e.fits) (hown:Zp w B v l) (hs:a.eval s=v) (A:Addr) (c:Nat) (hu:∀ j u,(Yd es)[j]? = some u->w.cell? (A.add j)=some u) (hx:a.eval x=.slice (some A) es.length c) (hlen:l.length+es.length<=2000000) (hB:B<=w.heap.size)
  (h:∀ v' w',Zp w' B v' (l ++ es)->Xa w v w' v'->wpList Tryz.prog ops Q rest (a.put o.dst v') w'):wpList Tryz.prog ops Q (o :: rest) a w:=by
 obtain ⟨i0,hi,hz0,hz1,hz2⟩:=info_parts infoEnt;refine wpList_append_own_at w hgd s x 34 ho B 118 i0 _ 7 80 Tryz.underlying34 hi hz0 hz1 hz2 rfl (by decide) v l.length _ hs hown.2 A es.length c (Yd es) hx (Z26 es) hu (entCells_one es) (by unfold maxLen;omega) (by omega) hB ?_;intro v' w' h2 h3 _ h5;refine h v' w' ⟨fun y hy=>?_,by rw [Z1p];simpa using h2⟩ ⟨h3,h5.imp id fun e=>⟨_,e,Nat.le_refl _⟩⟩;rcases List.mem_append.1 hy with hy | hy
 ·exact hown.1 y hy
 ·exact hf y hy
theorem es_cellsC {w:World}{b off:Nat}{l:List Ent}(h:∀ j (hj:j<l.length),Jc w b (off+j*7) l[j]):∀ j u,(Yd l)[j]? = some u->w.cell? ((⟨b,off,none⟩:Addr).add j)=some u:=by
 intro j u hj;have hlt:=(List.getElem?_eq_some_iff.1 hj).1;rw [Z26] at hlt;rw [Ju];have hq:j / 7<l.length:=by omega
 have e:j=j / 7*7+j%7:=by omega
 have hg:=Z1n l (j / 7) hq (j%7) (by omega);rw [<-e,hj] at hg;obtain ⟨u0,u1,u2,u3,u4,u5,u6⟩:=h (j / 7) hq;have hr:j%7<7:=by omega
 rw [show off+j=off+j / 7*7+j%7 by omega];generalize j%7=r at *;rcases (show r=0∨r=1∨r=2∨r=3∨r=4∨r=5∨r=6 by omega) with rfl | rfl | rfl | rfl | rfl | rfl | rfl
 ·exact u0.trans hg.symm
 ·exact u1.trans hg.symm
 ·exact u2.trans hg.symm
 ·exact u3.trans hg.symm
 ·exact u4.trans hg.symm
 ·exact u5.trans hg.symm
 ·exact u6.trans hg.symm
theorem eql_nil (t e:TypeId)(a:Option Addr)(l c:Nat)(h:Tryz.prog.underlying t=some (.slice e))(w:World):(binOp .eql t (.slice a l c) (.slice none 0 0)).run Tryz.prog w=.ok (.bool a.isNone) w:=by
 simp only [binOp];simp [run_equal_slice_nil w t e a l c h]
theorem Z3j (v:Value)(l:List Ent)(w:World)(hv:Es w v l)(hll:l.length<=1048576) :
  Calls Tryz.prog 80 #[v] w fun e w'=>∃ v',e=.returned v'/\Zp w' w.heap.size v' l/\Below w.heap.size w w':=by
 obtain ⟨hm,hf,a,cap,rfl,hc⟩:=hv;have hq:=fun u=>eql_nil 34 118 a l.length cap Tryz.underlying34 u
 cases a with
 | none=>
  have h0:l = []:=by
   cases l with
   | nil=>rfl
   | cons e l=>
    obtain ⟨b,off,h,_⟩:=hc 0 (by simp);cases h
  subst h0;simp only [Option.isNone_none,List.length_nil] at hq;go_enter Tryz.func80,Tryz.ntmps80;go_wp2;go_ret;exact ⟨_,rfl,Zp.nil _ _,Below.refl _ _⟩
 | some A=>
  have HU:Hid (∀ j u,(Yd l)[j]? = some u->w.cell? (A.add j)=some u):=by
   intro j u hj
   cases l with
   | nil=>cases hj
   | cons e l'=>
    obtain ⟨b,off,h,hjs⟩:=hc 0 (by simp);injection h with h;subst h;exact es_cellsC hjs j u hj
  have HF:Hid (∀ e∈l,e.fits):=hf;clear hc hf;simp only [Option.isNone_some] at hq;go_enter Tryz.func80,Tryz.ntmps80
  go_wp2_with (at_builtin;refine wpl_appendEs rfl (.tmp 5) (.tmp 6) rfl l HF.out (Zp.made w w.heap.size (Nat.le_refl _)) rfl A cap (fun j u hj=>(by have h1:=HU.out j u hj;rw [World.cell?_alloc_lt _ _ _ (World.block_lt_of_cell? w _ h1)];exact h1)) rfl (by simp;omega) (by simp) ?_;intro v' w' ho hg;have hb:=growE hg (Zp.made w w.heap.size (Nat.le_refl _)) (by simp))
  go_ret;exact ⟨_,rfl,by simpa using ho,((Below.refl _ _).alloc (Nat.le_refl _) _).trans hb⟩
section
variable {α:Type} {cs:α->List Value} {m:Nat} {T S:TypeId} {w w':World} {B:Nat} {v:Value} {l:List α}
theorem gC_mem {u:Value} : ∀ {l:List α},u∈gC cs l->∃ e∈l,u∈cs e
 | [],h=>by cases h
 | e :: l,h=>by
  rw [gC] at h;rcases List.mem_append.1 h with h | h
  ·exact ⟨e,by simp,h⟩
  ·obtain ⟨e',h1,h2⟩:=gC_mem h
   exact ⟨e',by simp [h1],h2⟩
theorem wpl_appendR (L:GLaw cs m T S){ops:Array Oper}{rest:List Oper}{o:Oper}{a:Act}{Q:Exit->Act->World->Prop}(hgd:o.guard=none)(s x:Operand)
  (ho:o.op=.call { callee:=.builtin .append,args:=#[s,x],argTypes:=#[S,S] })
  (hown:Zg cs m T w B v l) (hs:a.eval s=v) {u:Value} {q:List α} (hu:Sl cs m w u q) (hx:a.eval x=u) (hq:0<q.length) (hlen:l.length+q.length<=1000000) (hB:B<=w.heap.size)
  (h:∀ v' w',Zg cs m T w' B v' (l ++ q)->Xa w v w' v'->wpList Tryz.prog ops Q rest (a.put o.dst v') w'):wpList Tryz.prog ops Q (o :: rest) a w:=by
 obtain ⟨i0,z,bytes,hi,hz0,hz1,hz2,hz3,hb⟩:=L.info;have hmul:(l.length+q.length)*bytes<=1000001*128:=Nat.mul_le_mul (by omega) hb;obtain ⟨hlm,ua,uc,rfl,hc⟩:=hu;obtain ⟨b,off,rfl,X6⟩:=hc 0 hq;refine wpList_append_own_at w hgd s x S ho B T i0 z m bytes L.und hi hz0 hz1 hz2 hz3 L.pos v l.length _ hs hown ⟨b,off,none⟩ q.length uc (gC cs q) hx (gC_len L.len q) ?_ ?_ (by unfold maxLen;omega) (by omega) hB ?_
 ·intro j u hj
  rw [Ju];have hjl:=(List.getElem?_eq_some_iff.1 hj).1;rw [gC_len L.len] at hjl;have hm:=L.pos;have h1:j / m<q.length:=Nat.div_lt_of_lt_mul (by rw [Nat.mul_comm];exact hjl);have h2:j%m<m:=Nat.mod_lt _ hm;have h3:j / m*m+j%m=j:=by rw [Nat.mul_comm];exact Nat.div_add_mod j m
  have h4:=gC_get L.len q (j / m) h1 (j%m) h2;rw [h3,hj] at h4;have h5:=X6 (j / m) h1 (j%m) u h4.symm;rw [Nat.add_assoc,h3] at h5;exact h5
 ·intro u hu
  obtain ⟨e,_,he⟩:=gC_mem hu;exact L.one e u he
 ·intro v' w' h2 h3 _ h5
  exact h v' w' (by unfold Zg;rw [gC_app,List.length_append];exact h2) ⟨h3,h5.imp id fun e=>⟨_,e,Nat.le_refl _⟩⟩
end
end Go.Proofs.YtmmpoppgabadmaaGreat
