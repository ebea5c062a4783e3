/-
  impl.Recover.
-/
import Derived.Test.YtjoflnnomebkpaaDoorRcReplay
import Derived.Test.YtjoflnnomebkpaaDoorRcAns
import Derived.Test.YtjoflnnomebkpaaDoorSRd
import Derived.Deep.LoopGhost
namespace Go.Proofs.YtjoflnnomebkpaaDoor
open Go.RowKit
set_option linter.unusedVariables false
set_option linter.unusedSimpArgs false


theorem hb1size {B : Nat} {w w' : World} (h : Below B w w') : w.heap.size ≤ w'.heap.size := h.size
theorem two_cells {w : World} {q i j k : Nat} {x y : Value} (h : k ≠ q) : ((w.setCell ⟨q, i, none⟩ x).setCell ⟨q, j, none⟩ y).heap[k]? = w.heap[k]? := (Below.heap_setCell (w.setCell ⟨q, i, none⟩ x) ⟨q, j, none⟩ y k h).trans (Below.heap_setCell w ⟨q, i, none⟩ x k h)
theorem below_cells2 {B : Nat} {w0 w : World} {q i j : Nat} {x y : Value} (h : Below B w0 w) (hq : B ≤ q) : Below B w0 ((w.setCell ⟨q, i, none⟩ x).setCell ⟨q, j, none⟩ y) := (h.setCell (show B ≤ (⟨q, i, none⟩ : Addr).block from hq) x).setCell (show B ≤ (⟨q, j, none⟩ : Addr).block from hq) y
set_option maxHeartbeats 8000000 in
set_option maxRecDepth 100000 in
theorem recoverI_any (a : Option Addr) (c : Nat) (l : List Int) (w : World) (A : Nat → Addr) (B : Nat) (hs : Sents w A B) (hv : Bs w (.slice a l.length c) l) (hc : l.length ≤ c) (hL : l.length ≤ 1048576) :
    Calls Tryd.prog 62 #[.slice a l.length c] w fun e w' => ∃ lg, e = .returned (rcvV (rcv l) lg) ∧ OwnE w' w.heap.size lg (rcv l).2.2.2.log ∧ Below w.heap.size w w' := by
  have HV : Hid (Bs w (.slice a l.length c) l) := hv
  have HFit : Hid (Fits w.heap.size (.slice a l.length c) l) := ⟨_, _, _, rfl, hc, hv.lt⟩
  have HU : Hid (Und l (rcv l) 0 0 ⟨0, 0, []⟩) := Und.start l
  have hL' : ¬ (1048576 : Int) < (l.length : Int) := by omega
  have HS : Hid (Sents w A B) := hs
  have hle := hs.le
  clear hv hs
  generalize rcv l = R at HU ⊢
  go_enter Tryd.func62, Tryd.ntmps62
  go_wp2
  go_loopg [4] l.length (fun k n4 wr => ∃ (g n : Nat) (s : Stt), k = l.length - g ∧ g ≤ l.length ∧ n ≤ g ∧ s.log.length ≤ n ∧ Und l R g n s ∧ Rc wr (w.heap.size + 1) 0 g n s ∧ Blk wr w.heap.size #[.int .i64 0, .int .i64 0, .int .i64 0, .int .i64 0, .int .i64 0, .slice none 0 0] 100 ∧ Below w.heap.size w wr)
  case atStart =>
    refine ⟨0, 0, ⟨0, 0, []⟩, rfl, Nat.zero_le _, Nat.le_refl _, Nat.le_refl _, HU.out, ⟨_, Blk.new' _ _ _ (by simp), OwnE.nil _ _⟩, (Blk.new _ _ _).alloc _, ((Below.refl _ _).alloc (Nat.le_refl _) _).alloc (by simp) _⟩
  case round =>
    obtain ⟨g, n, s, hk, hgl, hng, hsn, hund, hrc, BZ, hbl⟩ := hrel
    have HRC : Hid (Rc wr (w.heap.size + 1) 0 g n s) := hrc
    have HUN : Hid (Und l R g n s) := hund
    have HBL : Hid (Below w.heap.size w wr) := hbl
    have HK : Hid (gk = l.length - g) := hk
    obtain ⟨lg, BQ, HO⟩ := hrc
    obtain ⟨la, lc, elg⟩ := HO.shape
    subst elg
    have cq := BQ.cell
    have HOW : Hid (OwnE wr ((w.heap.size + 1) + 1) (.slice la s.log.length lc) s.log) := HO
    have HBZ : Hid (Blk wr w.heap.size #[.int .i64 0, .int .i64 0, .int .i64 0, .int .i64 0, .int .i64 0, .slice none 0 0] 100) := BZ
    have HBQ : Hid (Blk wr (w.heap.size + 1) #[.int .i64 0, .int .i64 (g : Nat), .int .i64 (n : Nat), .int .i64 s.t, .int .i64 s.v, .slice la s.log.length lc] 100) := BQ
    clear HO hund hbl hk BZ BQ
    have hsz := HBL.out.size
    by_cases hg : g < l.length
    · have hbs := bs_below HV.out HFit.out HBL.out
      have hdr := hbs.drop hc (hbs.lt) g (by omega)
      obtain ⟨a3, n3, c3, e3, hc3, _⟩ := hdr.2
      have t1 : ∀ wx, (Instr.slice 22 (.slice a l.length c) (some (.int .i64 (g : Int))) none none).run Tryd.prog wx = .ok (sliced a g l.length c 1) wx := slice_l _ l.length c g (by omega)
      rw [e3] at t1 hdr
      have en : n3 = (l.drop g).length := by
        obtain ⟨_, _, _, _, e, _⟩ := hdr.1
        injection e
      subst en
      have HRp : Hid (Calls Tryd.prog 95 #[.slice a3 (l.drop g).length c3, .pointer (some ⟨(w.heap.size + 1), 3, none⟩)] wr _) := replay_any a3 c3 (l.drop g) (w.heap.size + 1) 0 g n s wr A B (HS.out.below HBL.out) (by omega) HRC.out hdr.1 hc3 (by omega)
      clear hdr e3 hbs hc3
      generalize hln : (l.drop g).length = ln at t1 HRp
      by_cases ho : oneE (l.drop g) s = 0
      · have HG := HUN.out.go hg ho
        have hz := cutC_zero (oneE_cut ho)
        have hlen := thenS_len s (frec ((l.drop g).take (cutN (l.drop g))))
        rw [ho] at HRp
        simp only [if_true] at HRp
        have hz4 : g + cutN (l.drop g) ≤ l.length := by have := hz.2.2.2.1; rw [List.length_drop] at this; omega
        have hz2 := hz.2.1
        generalize cutN (l.drop g) = cn at *
        generalize thenS s (frec ((l.drop g).take cn)) = s2 at *
        have HGG : Hid (Und l R (g + cn) (n + 1) s2) := HG
        clear HG hz ho HRC HUN
        go_wp2_with (go_at_call 95; refine Calls.mono HRp.out ?_; rintro e w1 ⟨⟨m, rfl, hm⟩, hr1, hb1⟩; obtain rfl := hm trivial; obtain ⟨lg1, BQ1, HO1⟩ := hr1; obtain ⟨la1, lc1, elg1⟩ := HO1.shape; subst elg1; have HOW1 : Hid (OwnE w1 ((w.heap.size + 1) + 1) (.slice la1 s2.log.length lc1) s2.log) := HO1; clear HO1; have cq1 := BQ1.cell; have fq1 := BQ1.free; have HB1 : Hid (Below (w.heap.size + 1) wr w1) := hb1; clear hb1 cq)
        go_roundg (l.length - (g + cn))
        case measure => rw [HK.out]; omega
        case rel =>
          have e1 : ((g + cn : Nat) : Int) = (g : Int) + (cn : Int) := by omega
          have e2 : ((n + 1 : Nat) : Int) = (n : Int) + 1 := by omega
          refine ⟨g + cn, n + 1, s2, rfl, hz4, by omega, by omega, HGG.out, ⟨_, by rw [e1, e2]; exact (BQ1.set 1 _).set 2 _, HOW1.out.block fun k hk => two_cells (by have := (HOW1.out.2.lt k hk).1; omega)⟩, ?_, ?_⟩
          · exact (HBZ.out.below HB1.out (by omega)).keep (two_cells (by omega))
          · exact below_cells2 (HBL.out.trans (HB1.out.mono (by omega))) (by omega)
      · have hR := HUN.out.stop hg ho
        have hin := oneE_in ho
        generalize oneE (l.drop g) s = E at hR hin ho HRp
        subst hR
        rw [if_neg ho, if_neg ho] at HRp
        have HIN : Hid (E = 3 ∨ E = 4 ∨ E = 5 ∨ E = 6 ∨ E = 7 ∨ E = 8 ∨ E = 9) := hin
        clear hin ho HRC HUN
        go_wp2_with (first
          | (go_at_call 95; refine Calls.mono HRp.out ?_; rintro e w1 ⟨⟨m, rfl, hm⟩, hr1, hb1⟩; clear hm; obtain ⟨lg1, BQ1, HO1⟩ := hr1; obtain ⟨la1, lc1, elg1⟩ := HO1.shape; subst elg1; have HOW1 : Hid (OwnE w1 ((w.heap.size + 1) + 1) (.slice la1 s.log.length lc1) s.log) := HO1; clear HO1; have HBQ1 : Hid (Blk w1 (w.heap.size + 1) #[.int .i64 0, .int .i64 (g : Nat), .int .i64 (n : Nat), .int .i64 s.t, .int .i64 s.v, .slice la1 s.log.length lc1] 100) := BQ1; clear BQ1; have HB1 : Hid (Below (w.heap.size + 1) wr w1) := hb1; clear hb1 cq; have hs1 := hb1size HB1.out; have hq1 := HBQ1.out.lt)
          | (go_at_call 96; refine Calls.mono (stopCode_any E HIN.out _ A B ((HS.out.below HBL.out).kept (HB1.out.mono (by omega)))) ?_; rintro e w2 ⟨rfl, hb2⟩; have hs2 := hb2.size; have BQ2 := HBQ1.out.below hb2 HBQ1.out.lt; have cq2 := BQ2.cell; have fq2 := BQ2.free; have HBB : Hid (Below w.heap.size w w2) := (HBL.out.trans (HB1.out.mono (by omega))).trans (hb2.mono (by omega)); have HOW2 : Hid (OwnE w2 ((w.heap.size + 1) + 1) (.slice la1 s.log.length lc1) s.log) := HOW1.out.below hb2; have BZ2 : Blk w2 w.heap.size #[.int .i64 0, .int .i64 0, .int .i64 0, .int .i64 0, .int .i64 0, .slice none 0 0] 100 := (HBZ.out.below HB1.out (by omega)).below hb2 (by omega); have BQ3 : Blk (w2.setCell ⟨(w.heap.size + 1), 0, none⟩ (.int .i64 (stopC E))) (w.heap.size + 1) #[.int .i64 (stopC E), .int .i64 (g : Nat), .int .i64 (n : Nat), .int .i64 s.t, .int .i64 s.v, .slice la1 s.log.length lc1] 100 := BQ2.set 0 _; have BZ3 : Blk (w2.setCell ⟨(w.heap.size + 1), 0, none⟩ (.int .i64 (stopC E))) w.heap.size #[.int .i64 0, .int .i64 0, .int .i64 0, .int .i64 0, .int .i64 0, .slice none 0 0] 100 := BZ2.set_other _ (show w.heap.size ≠ (w.heap.size + 1) by omega); have HB3 : Hid (Blk (w2.setCell ⟨(w.heap.size + 1), 0, none⟩ (.int .i64 (stopC E))) (w.heap.size + 1) #[.int .i64 (stopC E), .int .i64 (g : Nat), .int .i64 (n : Nat), .int .i64 s.t, .int .i64 s.v, .slice la1 s.log.length lc1] 100) := BQ3; have HZ3 : Hid (Blk (w2.setCell ⟨(w.heap.size + 1), 0, none⟩ (.int .i64 (stopC E))) w.heap.size #[.int .i64 0, .int .i64 0, .int .i64 0, .int .i64 0, .int .i64 0, .slice none 0 0] 100) := BZ3; clear hb2 BZ2 BQ3 BZ3)
          | (have hBA := HB3; refine gate_ld 100 (.tmp 3) rfl ?_; clear hBA; refine wpl_load_blk rfl 100 (.tmp 3) rfl (w.heap.size + 1) rfl HB3.out Tryd.underlying100 rfl infoRcv rfl ?_)
          | (have hBA := HB3; refine gate_st 100 (.tmp 2) _ rfl ?_; clear hBA; refine wpl_store_blk rfl 100 (.tmp 2) _ rfl (w.heap.size) rfl rfl HZ3.out infoRcv rfl rfl (by simp [Value.oneCell']) ?_))
        refine bodyPost_ret (results_blk Tryd.results62 rfl (HZ3.out.row _) Tryd.underlying100 rfl infoRcv rfl) rfl ⟨.slice la1 s.log.length lc1, rfl, ?_, ?_⟩
        · refine (HOW2.out.block fun k hk => ?_).le (by omega)
          have hk1 := (HOW2.out.2.lt k hk).1
          exact (setRow_other _ _ _ _ (by omega)).trans (Below.heap_setCell w2 ⟨(w.heap.size + 1), 0, none⟩ _ k (show k ≠ (w.heap.size + 1) by omega))
        · exact below_row (below_one _ HBB.out (by omega)) (Nat.le_refl _) _
    · have hR := HUN.out.done hg
      subst hR
      have hg' : ¬ (g : Int) < (l.length : Int) := by omega
      go_wp2_with (first
        | (have hBA := HBQ; refine gate_ld 100 (.tmp 3) rfl ?_; clear hBA; refine wpl_load_blk rfl 100 (.tmp 3) rfl (w.heap.size + 1) rfl HBQ.out Tryd.underlying100 rfl infoRcv rfl ?_)
        | (have hBA := HBQ; refine gate_st 100 (.tmp 2) _ rfl ?_; clear hBA; refine wpl_store_blk rfl 100 (.tmp 2) _ rfl (w.heap.size) rfl rfl HBZ.out infoRcv rfl rfl (by simp [Value.oneCell']) ?_))
      refine bodyPost_ret (results_blk Tryd.results62 rfl (HBZ.out.row _) Tryd.underlying100 rfl infoRcv rfl) rfl ⟨.slice la s.log.length lc, rfl, ?_, ?_⟩
      · refine (HOW.out.block fun k hk => ?_).le (by omega)
        have hk1 := (HOW.out.2.lt k hk).1
        exact setRow_other _ _ _ _ (by omega)
      · exact below_row HBL.out (Nat.le_refl _) _
end Go.Proofs.YtjoflnnomebkpaaDoor
