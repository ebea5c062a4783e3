/-
  The walk of the law FnExactBagTake.
-/
import Derived.Test.YthondmpnleleiaaPkTakeI
import Derived.Test.YthondmpnleleiaaPkTakeS
import Derived.Test.YthondmpnleleiaaPkTkU
import Derived.Test.YthondmpnleleiaaRegInv
import Derived.Deep.RegionHeld3
namespace Go.Proofs.Ythondmpnleleiaa
open Go.RowKit
set_option linter.unusedVariables false
set_option linter.unusedSimpArgs false

theorem sizeLBag : (Try.prog.info? 25).map (·.size) = some 3 := by kernel_rfl
theorem BagD.at_lo {lo lo' hi : Nat} {w : World} {va : Option Addr} {n vc : Nat} {ua : Option Addr} {m uc : Nat} {pl : List Pkt} {ws : List Int} (h : BagD lo hi w va n vc ua m uc pl ws) (e : lo' = lo) : BagD lo' hi w va n vc ua m uc pl ws := e ▸ h
theorem TkD.at_lo {lo lo' hi : Nat} {w : World} {pa : Option Addr} {pn pc : Nat} {va : Option Addr} {n vc : Nat} {ua : Option Addr} {m uc : Nat} {bs : List Int} {pl : List Pkt} {ws : List Int} (h : TkD lo hi w pa pn pc va n vc ua m uc bs pl ws) (e : lo' = lo) : TkD lo' hi w pa pn pc va n vc ua m uc bs pl ws := e ▸ h
/-- a take's answer -/
def TakeD (w w' : World) (e : Ending) (x : Taken) : Prop :=
  ∃ pa pc va vc ua uc, e = .returned (.agg #[.int .i64 x.c, .int .i64 x.lost, .int .i64 x.p.id, .int .i64 x.p.fr, .int .i64 x.p.to, .slice pa x.p.bs.length pc, .int .i64 x.n, .slice va x.pl.length vc, .slice ua x.ws.length uc]) ∧ TkD w.heap.size w'.heap.size w' pa x.p.bs.length pc va x.pl.length vc ua x.ws.length uc x.p.bs x.pl x.ws ∧ Below w.heap.size w w'
theorem TakeOf.d {w w' : World} {e : Ending} {x : Taken} (h : TakeOf w w' e x) : TakeD w w' e x := by
  obtain ⟨pa, pc, va, vc, ua, uc, L, he, hc, hR, hb⟩ := h
  have hL : L.length = x.pl.length := by rw [← cont_len L, hc]
  rw [hL] at he hR
  exact ⟨pa, pc, va, vc, ua, uc, he, ⟨rfl, rfl, rfl, L, hc, hR⟩, hb⟩
theorem bulk_erase (l : List Pkt) : ∀ i, bulk (l.eraseIdx i) ≤ bulk l := by
  induction l with
  | nil => intro i; simp [bulk]
  | cons p l ih =>
    intro i
    cases i with
    | zero => simp [bulk]
    | succ i => have := ih i; simp only [List.eraseIdx_cons_succ, bulk]; omega
theorem takeAns_small (n : Int) (l : List Pkt) (ws : List Int) (pick keep : Int) (h : l.length + bulk l ≤ 1048576 ∧ ws.length ≤ 1048576) : (takeAns n l ws pick keep).pl.length ≤ 1100000 ∧ bulk (takeAns n l ws pick keep).pl ≤ 2200000 ∧ (takeAns n l ws pick keep).ws.length ≤ 1048576 ∧ (takeAns n l ws pick keep).p.bs.length ≤ 1048576 := by
  unfold takeAns
  split
  · simp [bulk, noPk]
  · split
    · simp only [noPk, List.length_nil]; omega
    · next h0 =>
      have h1 := (takeAt_lt l pick (by omega)).1
      have h2 : l.getD (takeAt l pick) noPk ∈ l := by rw [List.getD_eq_getElem?_getD, List.getElem?_eq_getElem h1]; exact List.getElem_mem h1
      have h3 := bulk_mem h2
      have h4 := bulk_erase l (takeAt l pick)
      have h5 : (l.eraseIdx (takeAt l pick)).length ≤ l.length := by rw [List.length_eraseIdx]; split <;> omega
      dsimp only
      split
      · omega
      · omega

set_option maxHeartbeats 16000000 in
set_option maxRecDepth 100000 in
theorem lawBagTake_walk (n : Int) (vl ul : Value) (l : List Pk) (ws : List Int) (pick keep : Int) {w : World} (hv : Pks w vl l) (hu : Ix w ul ws) (hx : -(2 ^ 63) ≤ pick) (hX : pick < 2 ^ 63) :
    Calls Try.prog 6 #[.agg #[.int .i64 n, vl, ul], .int .i64 pick, .int .i64 keep] w fun e w' => e = .returned (.bool true) ∧ Below w.heap.size w w' := by
  have HV : Hid (Pks w vl l) := hv
  have HU : Hid (Ix w ul ws) := hu
  obtain ⟨hml, _, av, cp, rfl, _⟩ := hv
  obtain ⟨hmw, bv, dp, rfl, _⟩ := hu
  have HSp : Hid (∀ (u : World) (lo hi : Nat) (q : Nat × Nat), BagD lo hi u (some ⟨q.1, 0, none⟩) l.length l.length (some ⟨q.2, 0, none⟩) ws.length ws.length (cont l) ws → (l.length + bulk (cont l) ≤ 1048576 ∧ ws.length ≤ 1048576) → Calls Try.prog 26 #[.agg #[.int .i64 n, .slice (some ⟨q.1, 0, none⟩) l.length l.length, .slice (some ⟨q.2, 0, none⟩) ws.length ws.length], .int .i64 pick, .int .i64 keep] u fun e w' => TakeD u w' e (takeAns n (cont l) ws pick keep)) := fun u lo hi q h hl => by
    obtain ⟨_, _, L, h3, h4⟩ := h
    have hL : L.length = l.length := by rw [← cont_len L, h3, cont_len]
    rw [← hL] at h4
    rw [← hL, ← h3] at hl ⊢
    exact (sBagTake_any n _ _ _ _ L ws pick keep hx hX u h4.pks.pks h4.ints.ix hl.1 hl.2).mono fun e w' h => h.d
  have HIm : Hid (∀ (u : World) (lo hi : Nat) (q : Nat × Nat), BagD lo hi u (some ⟨q.1, 0, none⟩) l.length l.length (some ⟨q.2, 0, none⟩) ws.length ws.length (cont l) ws → (l.length + bulk (cont l) ≤ 1048576 ∧ ws.length ≤ 1048576) → Calls Try.prog 23 #[.agg #[.int .i64 n, .slice (some ⟨q.1, 0, none⟩) l.length l.length, .slice (some ⟨q.2, 0, none⟩) ws.length ws.length], .int .i64 pick, .int .i64 keep] u fun e w' => TakeD u w' e (takeAns n (cont l) ws pick keep)) := fun u lo hi q h hl => by
    obtain ⟨_, _, L, h3, h4⟩ := h
    have hL : L.length = l.length := by rw [← cont_len L, h3, cont_len]
    rw [← hL] at h4
    rw [← hL, ← h3] at hl ⊢
    exact (bagTake_any n _ _ _ _ L ws pick keep hx hX u h4.pks.pks h4.ints.ix hl.1 hl.2).mono fun e w' h => h.d
  have hL0 := takeAns_small n (cont l) ws pick keep
  rw [cont_len] at hL0
  generalize takeAns n (cont l) ws pick keep = x at HSp HIm hL0
  obtain ⟨KK, OO, ⟨pI, pF, pT, pb⟩, XX, pl, wl⟩ := x
  unfold TakeD at HSp HIm
  dsimp only at HSp HIm hL0
  have g1 : True := trivial
  have g2 : True := trivial
  have g3 : True := trivial
  have g4 : True := trivial
  have g5 : True := trivial
  have g6 : True := trivial
  have g7 : True := trivial
  have g8 : True := trivial
  have g9 : True := trivial
  have g10 : True := trivial
  have g11 : True := trivial
  have g12 : True := trivial
  go_enter Try.func6, Try.ntmps6
  go_wp2_with (first
    | (refine gate_ld 25 (.tmp 3) rfl ?_; clear g1; refine wpl_load_blk rfl 25 (.tmp 3) rfl (w.heap.size) rfl (Blk.new _ _ _) Try.underlying25 rfl sizeLBag rfl ?_)
    | (go_at_call 7; refine Calls.mono (szBag_u n _ _ l ws _ (HV.out.below ((Below.refl _ _).alloc (Nat.le_refl _) _)) (HU.out.below ((Below.refl _ _).alloc (Nat.le_refl _) _))) ?_; rintro e w1 ⟨⟨s1, rfl, hs1, hs1'⟩, hb⟩; have zw1 : w.heap.size < w1.heap.size := (by have := hb.size; simp at this; omega); have BA : Hid (Blk w1 w.heap.size #[.int .i64 n, .slice av l.length cp, .slice bv ws.length dp] 25) := (Blk.new w _ _).below hb (by simp); have HB : Hid (Below w.heap.size w w1) := ((Below.refl _ _).alloc (Nat.le_refl _) _).trans (hb.mono (by simp)); clear hb)
    | (have hBA := BA; refine gate_ld 25 (.tmp 3) rfl ?_; clear hBA ; refine wpl_load_blk rfl 25 (.tmp 3) rfl (w.heap.size) rfl BA.out Try.underlying25 rfl sizeLBag rfl ?_)
    | (have hBA := BA; refine gate_ld 25 (.tmp 3) rfl ?_; clear hBA ; refine wpl_load_blk rfl 25 (.tmp 3) rfl (w.heap.size) rfl (BA.out.alloc _) Try.underlying25 rfl sizeLBag rfl ?_)
    | (go_at_call 9; clear g2; have hl : l.length + bulk (cont l) ≤ 1048576 ∧ ws.length ≤ 1048576 := hs1' (by omega); have hpl := hL0 hl; have hbm : pb.length ≤ maxLen := (by unfold maxLen; omega); refine Calls.mono (toBag_d n _ _ _ _ l ws _ (HV.out.below HB.out) (HU.out.below HB.out) hl) ?_; rintro e w2 ⟨q2, rfl, ho, hb⟩; have hbb : Below w1.heap.size w1 w2 := hb; have zw2 : w1.heap.size ≤ w2.heap.size := hbb.size; replace BA : Hid (Blk w2 (w.heap.size) #[.int .i64 n, .slice av l.length cp, .slice bv ws.length dp] 25) := BA.out.below hbb (by omega); replace HB : Hid (Below w.heap.size w w2) := HB.out.trans (hbb.mono (by omega)); have HS : Hid (BagD (w1.heap.size) (w2.heap.size) w2 (some ⟨q2.1, 0, none⟩) l.length l.length (some ⟨q2.2, 0, none⟩) ws.length ws.length (cont l) ws) := ho; clear hb hbb ho)
    | (go_at_call 26; refine Calls.mono (HSp.out _ _ _ _ HS.out hl) ?_; rintro e w3 ⟨pa3, pc3, va3, vc3, ua3, uc3, rfl, ho, hb⟩; have hbb : Below w2.heap.size w2 w3 := hb; have zw3 : w2.heap.size ≤ w3.heap.size := hbb.size; replace BA : Hid (Blk w3 (w.heap.size) #[.int .i64 n, .slice av l.length cp, .slice bv ws.length dp] 25) := BA.out.below hbb (by omega); replace HB : Hid (Below w.heap.size w w3) := HB.out.trans (hbb.mono (by omega)); have HW : Hid (TkD (w2.heap.size) (w3.heap.size) w3 pa3 pb.length pc3 va3 pl.length vc3 ua3 wl.length uc3 pb pl wl) := ho; clear hb hbb ho HS)
    | (have hBA := HW; refine gate_st 50 (.tmp 8) _ rfl ?_; clear hBA; refine wpl_store_last rfl 50 (.tmp 8) _ rfl (w3.heap.size) rfl rfl rfl infoTk rfl rfl (by simp [Value.oneCell']) ?_)
    | (go_at_call 9; clear g3; refine Calls.mono (toBag_d n _ _ _ _ l ws _ (HV.out.below (HB.out.alloc (by omega) _)) (HU.out.below (HB.out.alloc (by omega) _)) hl) ?_; rintro e w4 ⟨qX, rfl, ho, hb⟩; have hbb : Below w3.heap.size w3 w4 := ((Below.refl _ _).alloc (Nat.le_refl _) _).trans (hb.mono (by simp)); have zw4 : w3.heap.size < w4.heap.size := (by have := hb.size; simp at this; omega); replace BA : Hid (Blk w4 (w.heap.size) #[.int .i64 n, .slice av l.length cp, .slice bv ws.length dp] 25) := BA.out.below hbb (by omega); replace HW : Hid (TkD (w2.heap.size) (w3.heap.size) w4 pa3 pb.length pc3 va3 pl.length vc3 ua3 wl.length uc3 pb pl wl) := HW.out.keep fun k k1 k2 => hbb.block k (by omega); replace HB : Hid (Below w.heap.size w w4) := HB.out.trans (hbb.mono (by omega)); have BW : Hid (Blk w4 w3.heap.size #[.int .i64 KK, .int .i64 OO, .int .i64 pI, .int .i64 pF, .int .i64 pT, .slice pa3 pb.length pc3, .int .i64 XX, .slice va3 pl.length vc3, .slice ua3 wl.length uc3] 50) := (Blk.new w3 _ _).below hb (by simp); have HX : Hid (BagD (w3.heap.size + 1) (w4.heap.size) w4 (some ⟨qX.1, 0, none⟩) l.length l.length (some ⟨qX.2, 0, none⟩) ws.length ws.length (cont l) ws) := ho.at_lo (by simp); clear hb hbb ho)
    | (have hBA := HX; refine gate_st 29 (.tmp 9) _ rfl ?_; clear hBA; refine wpl_store_last rfl 29 (.tmp 9) _ rfl (w4.heap.size) rfl rfl rfl infoBagS rfl rfl (by simp [Value.oneCell']) ?_)
    | (have hBA := HX; refine gate_ld 29 (.tmp 9) rfl ?_; clear hBA; refine wpl_load_blk rfl 29 (.tmp 9) rfl (w4.heap.size) rfl (Blk.new _ _ _) Try.underlying29 rfl infoBagS rfl ?_)
    | (go_at_call 23; clear g4; refine Calls.mono (HIm.out _ _ _ _ (HX.out.keep fun k k1 k2 => Below.heap_alloc _ _ k (by omega)) hl) ?_; rintro e w5 ⟨pa5, pc5, va5, vc5, ua5, uc5, rfl, ho, hb⟩; have hbb : Below w4.heap.size w4 w5 := ((Below.refl _ _).alloc (Nat.le_refl _) _).trans (hb.mono (by simp)); have zw5 : w4.heap.size < w5.heap.size := (by have := hb.size; simp at this; omega); replace BA : Hid (Blk w5 (w.heap.size) #[.int .i64 n, .slice av l.length cp, .slice bv ws.length dp] 25) := BA.out.below hbb (by omega); replace HW : Hid (TkD (w2.heap.size) (w3.heap.size) w5 pa3 pb.length pc3 va3 pl.length vc3 ua3 wl.length uc3 pb pl wl) := HW.out.keep fun k k1 k2 => hbb.block k (by omega); replace BW : Hid (Blk w5 (w3.heap.size) #[.int .i64 KK, .int .i64 OO, .int .i64 pI, .int .i64 pF, .int .i64 pT, .slice pa3 pb.length pc3, .int .i64 XX, .slice va3 pl.length vc3, .slice ua3 wl.length uc3] 50) := BW.out.below hbb (by omega); replace HX : Hid (BagD (w3.heap.size + 1) (w4.heap.size) w5 (some ⟨qX.1, 0, none⟩) l.length l.length (some ⟨qX.2, 0, none⟩) ws.length ws.length (cont l) ws) := HX.out.keep fun k k1 k2 => hbb.block k (by omega); replace HB : Hid (Below w.heap.size w w5) := HB.out.trans (hbb.mono (by omega)); have BX : Hid (Blk w5 w4.heap.size #[.int .i64 n, .slice (some ⟨qX.1, 0, none⟩) l.length l.length, .slice (some ⟨qX.2, 0, none⟩) ws.length ws.length] 29) := (Blk.new w4 _ _).below hb (by simp); have HG : Hid (TkD (w4.heap.size + 1) (w5.heap.size) w5 pa5 pb.length pc5 va5 pl.length vc5 ua5 wl.length uc5 pb pl wl) := ho.at_lo (by simp); clear hb hbb ho)
    | (have hBA := HG; refine gate_st 50 (.tmp 10) _ rfl ?_; clear hBA; refine wpl_store_last rfl 50 (.tmp 10) _ rfl (w5.heap.size) rfl rfl rfl infoTk rfl rfl (by simp [Value.oneCell']) ?_)
    | (have hBA := HG; refine gate_ld 50 (.tmp 10) rfl ?_; clear hBA; refine wpl_load_blk rfl 50 (.tmp 10) rfl (w5.heap.size) rfl (Blk.new _ _ _) Try.underlying50 rfl infoTk rfl ?_)
    | (have hBA := HG; refine gate_ld 50 (.tmp 8) rfl ?_; clear hBA ; refine wpl_load_blk rfl 50 (.tmp 8) rfl (w3.heap.size) rfl (BW.out.alloc _) Try.underlying50 rfl infoTk rfl ?_)
    | (go_at_call 27; clear g5; refine Calls.mono (eqTakeAnswer_d KK OO pI pF pT XX _ _ _ _ _ _ _ _ _ _ _ _ _ _ _ pb pl wl _ (HG.out.keep fun k k1 k2 => Below.heap_alloc _ _ k (by omega)) (HW.out.keep fun k k1 k2 => Below.heap_alloc _ _ k (by omega)) (by first | omega | (simp <;> omega)) (by first | omega | (simp <;> omega)) hbm) ?_; rintro e w6 ⟨rfl, hb⟩; have hbb : Below w5.heap.size w5 w6 := ((Below.refl _ _).alloc (Nat.le_refl _) _).trans (hb.mono (by simp)); have zw6 : w5.heap.size < w6.heap.size := (by have := hb.size; simp at this; omega); replace BA : Hid (Blk w6 (w.heap.size) #[.int .i64 n, .slice av l.length cp, .slice bv ws.length dp] 25) := BA.out.below hbb (by omega); replace HW : Hid (TkD (w2.heap.size) (w3.heap.size) w6 pa3 pb.length pc3 va3 pl.length vc3 ua3 wl.length uc3 pb pl wl) := HW.out.keep fun k k1 k2 => hbb.block k (by omega); replace BW : Hid (Blk w6 (w3.heap.size) #[.int .i64 KK, .int .i64 OO, .int .i64 pI, .int .i64 pF, .int .i64 pT, .slice pa3 pb.length pc3, .int .i64 XX, .slice va3 pl.length vc3, .slice ua3 wl.length uc3] 50) := BW.out.below hbb (by omega); replace HX : Hid (BagD (w3.heap.size + 1) (w4.heap.size) w6 (some ⟨qX.1, 0, none⟩) l.length l.length (some ⟨qX.2, 0, none⟩) ws.length ws.length (cont l) ws) := HX.out.keep fun k k1 k2 => hbb.block k (by omega); replace BX : Hid (Blk w6 (w4.heap.size) #[.int .i64 n, .slice (some ⟨qX.1, 0, none⟩) l.length l.length, .slice (some ⟨qX.2, 0, none⟩) ws.length ws.length] 29) := BX.out.below hbb (by omega); replace HG : Hid (TkD (w4.heap.size + 1) (w5.heap.size) w6 pa5 pb.length pc5 va5 pl.length vc5 ua5 wl.length uc5 pb pl wl) := HG.out.keep fun k k1 k2 => hbb.block k (by omega); replace HB : Hid (Below w.heap.size w w6) := HB.out.trans (hbb.mono (by omega)); have BG : Hid (Blk w6 w5.heap.size #[.int .i64 KK, .int .i64 OO, .int .i64 pI, .int .i64 pF, .int .i64 pT, .slice pa5 pb.length pc5, .int .i64 XX, .slice va5 pl.length vc5, .slice ua5 wl.length uc5] 50) := (Blk.new w5 _ _).below hb (by simp); clear hb hbb))
  all_goals try (go_ret; exact ⟨rfl, HB.out⟩)
  have BXo := BX.out
  have BAo := BA.out
  refine wp_named ?_
  intro a0 ha0
  have hsz0 : a0.tmps.size = 79 := by rw [ha0]; rfl
  have e3 : a0.eval (.tmp 3) = .pointer (some ⟨w.heap.size, 0, none⟩) := by rw [ha0]; rfl
  have e9 : a0.eval (.tmp 9) = .pointer (some ⟨w4.heap.size, 0, none⟩) := by rw [ha0]; rfl
  have HA0 : Hid (a0 = _) := ha0
  clear ha0
  refine wp_region_inv (by kernel_rfl) (fun L aF w' => ∃ x : Nat → Value, aF = frame a0 [35, 36, 37, 38, 39] x ∧ Below w6.heap.size w6 w' ∧ (L.getD 0 false = true → x 35 = .agg #[.int .i64 n, .slice (some ⟨qX.1, 0, none⟩) l.length l.length, .slice (some ⟨qX.2, 0, none⟩) ws.length ws.length]) ∧ (L.getD 1 false = true → x 36 = .agg #[.int .i64 n, .slice av l.length cp, .slice bv ws.length dp]) ∧ (L.getD 2 false = true → ∃ (qY : Nat × Nat) (lo hi : Nat), x 37 = .agg #[.int .i64 n, .slice (some ⟨qY.1, 0, none⟩) l.length l.length, .slice (some ⟨qY.2, 0, none⟩) ws.length ws.length] ∧ hi ≤ w'.heap.size ∧ BagD lo hi w' (some ⟨qY.1, 0, none⟩) l.length l.length (some ⟨qY.2, 0, none⟩) ws.length ws.length (cont l) ws) ∧ (L.getD 3 false = true → x 38 = .bool true) ∧ (L.getD 4 false = true → x 39 = .bool false)) ?_ ?_ ?_
  · exact ⟨_, frame_self a0 [35, 36, 37, 38, 39], (Below.refl _ _).drew, fun h => (noBit h).elim, fun h => (noBit h).elim, fun h => (noBit h).elim, fun h => (noBit h).elim, fun h => (noBit h).elim⟩
  · rintro L a w' i hsL hi ⟨x, rfl, hB, h0, h1, h2, h3, h4⟩
    have hiL : i < 5 := (ready_mem hsL hi).1
    have hL : L.size = 5 := hsL
    have hw' : w6.heap.size ≤ w'.heap.size := hB.size
    rcases (show i = 0 ∨ i = 1 ∨ i = 2 ∨ i = 3 ∨ i = 4 by omega) with rfl | rfl | rfl | rfl | rfl
    · skip
      refine wpOp_plain rfl rfl (wp_load_blk 29 (.tmp 9) rfl (w4.heap.size) ((frame_eval _ _ _ 9 rfl).trans e9) (BXo.below hB (by omega)) Try.underlying29 rfl infoBagS rfl ?_)
      exact ⟨_, frame_put _ _ _ 35 _ rfl, hB, fun h => upd_same _ _ _, fun h => by rw [upd_ne _ _ _ _ (by decide)]; exact (h1 (keepBit h (by omega) (by decide))), fun h => by rw [upd_ne _ _ _ _ (by decide)]; exact (h2 (keepBit h (by omega) (by decide))), fun h => by rw [upd_ne _ _ _ _ (by decide)]; exact (h3 (keepBit h (by omega) (by decide))), fun h => by rw [upd_ne _ _ _ _ (by decide)]; exact (h4 (keepBit h (by omega) (by decide)))⟩
    · skip
      refine wpOp_plain rfl rfl (wp_load_blk 25 (.tmp 3) rfl (w.heap.size) ((frame_eval _ _ _ 3 rfl).trans e3) (BAo.below hB (by omega)) Try.underlying25 rfl sizeLBag rfl ?_)
      exact ⟨_, frame_put _ _ _ 36 _ rfl, hB, fun h => by rw [upd_ne _ _ _ _ (by decide)]; exact (h0 (keepBit h (by omega) (by decide))), fun h => upd_same _ _ _, fun h => by rw [upd_ne _ _ _ _ (by decide)]; exact (h2 (keepBit h (by omega) (by decide))), fun h => by rw [upd_ne _ _ _ _ (by decide)]; exact (h3 (keepBit h (by omega) (by decide))), fun h => by rw [upd_ne _ _ _ _ (by decide)]; exact (h4 (keepBit h (by omega) (by decide)))⟩
    · have d1 := h1 (ready_needs hi (by decide))
      have ev36 := (frame_eval_in a0 [35, 36, 37, 38, 39] x 36 rfl (by omega)).trans d1
      refine wpOp_plain rfl rfl (wp_call_go (N := 9) rfl (fun _ _ => by go_simp) #[.agg #[.int .i64 n, .slice av l.length cp, .slice bv ws.length dp]] (by simp only [List.map_toArray, List.map_cons, List.map_nil, ev36]) ?_)
      refine Calls.mono (toBag_d n _ _ _ _ l ws _ (HV.out.below (HB.out.trans (hB.mono (by omega)))) (HU.out.below (HB.out.trans (hB.mono (by omega)))) hl) ?_
      rintro e w2 ⟨qY, rfl, f0, hb⟩
      refine ⟨_, rfl, ?_⟩
      exact ⟨_, frame_put _ _ _ 37 _ rfl, hB.trans (hb.mono hw'), fun h => by rw [upd_ne _ _ _ _ (by decide)]; exact (h0 (keepBit h (by omega) (by decide))), fun h => by rw [upd_ne _ _ _ _ (by decide)]; exact (h1 (keepBit h (by omega) (by decide))), fun h => ⟨qY, _, _, upd_same _ _ _, Nat.le_refl _, f0⟩, fun h => by rw [upd_ne _ _ _ _ (by decide)]; exact (h3 (keepBit h (by omega) (by decide))), fun h => by rw [upd_ne _ _ _ _ (by decide)]; exact (h4 (keepBit h (by omega) (by decide)))⟩
    · have d0 := h0 (ready_needs hi (by decide))
      have d2 := h2 (ready_needs hi (by decide))
      obtain ⟨qY, lo, hi, ey, hh, f0⟩ := d2
      have ev35 := (frame_eval_in a0 [35, 36, 37, 38, 39] x 35 rfl (by omega)).trans d0
      have ev37 := (frame_eval_in a0 [35, 36, 37, 38, 39] x 37 rfl (by omega)).trans ey
      refine wpOp_plain rfl rfl (wp_call_go (N := 11) rfl (fun _ _ => by go_simp) #[.agg #[.int .i64 n, .slice (some ⟨qX.1, 0, none⟩) l.length l.length, .slice (some ⟨qX.2, 0, none⟩) ws.length ws.length], .agg #[.int .i64 n, .slice (some ⟨qY.1, 0, none⟩) l.length l.length, .slice (some ⟨qY.2, 0, none⟩) ws.length ws.length]] (by simp only [List.map_toArray, List.map_cons, List.map_nil, ev35, ev37]) ?_)
      refine Calls.mono (eqBag_d n _ _ _ _ _ _ _ _ _ _ (cont l) ws _ (HX.out.keep fun k k1 k2 => hB.block k (by omega)) f0) ?_
      rintro e w2 ⟨rfl, hb⟩
      refine ⟨_, rfl, ?_⟩
      exact ⟨_, frame_put _ _ _ 38 _ rfl, hB.trans (hb.mono hw'), fun h => by rw [upd_ne _ _ _ _ (by decide)]; exact (h0 (keepBit h (by omega) (by decide))), fun h => by rw [upd_ne _ _ _ _ (by decide)]; exact (h1 (keepBit h (by omega) (by decide))), fun h => by rw [upd_ne _ _ _ _ (by decide)]; exact (by obtain ⟨qY, lo, hi, ey, hh, f0⟩ := (h2 (keepBit h (by omega) (by decide))); exact ⟨qY, lo, hi, ey, Nat.le_trans hh hb.size, f0.keep fun k k1 k2 => hb.block k (by omega)⟩), fun h => upd_same _ _ _, fun h => by rw [upd_ne _ _ _ _ (by decide)]; exact (h4 (keepBit h (by omega) (by decide)))⟩
    · have d3 := h3 (ready_needs hi (by decide))
      have evn := (frame_eval_in a0 [35, 36, 37, 38, 39] x 38 rfl (by omega)).trans d3
      refine wpOp_plain rfl rfl (wp_not_go (.tmp 38) rfl evn ?_)
      exact ⟨_, frame_put _ _ _ 39 _ rfl, hB, fun h => by rw [upd_ne _ _ _ _ (by decide)]; exact (h0 (keepBit h (by omega) (by decide))), fun h => by rw [upd_ne _ _ _ _ (by decide)]; exact (h1 (keepBit h (by omega) (by decide))), fun h => by rw [upd_ne _ _ _ _ (by decide)]; exact (h2 (keepBit h (by omega) (by decide))), fun h => by rw [upd_ne _ _ _ _ (by decide)]; exact (h3 (keepBit h (by omega) (by decide))), fun h => upd_same _ _ _⟩
  · rintro L a w' hsL hr ⟨x, rfl, hB, h0, h1, h2, h3, h4⟩
    have hall := ready_nil hsL hr (by decide)
    replace h0 := h0 (hall 0 (by decide))
    replace h1 := h1 (hall 1 (by decide))
    replace h2 := h2 (hall 2 (by decide))
    replace h3 := h3 (hall 3 (by decide))
    replace h4 := h4 (hall 4 (by decide))
    rw [HA0.out]
    simp only [frame, List.zipIdx_cons, List.zipIdx_nil, List.map_cons, List.map_nil, List.contains_cons, List.contains_nil, Nat.reduceBEq, Nat.reduceAdd, Bool.or_false, Bool.false_or, Bool.or_true, Bool.true_or, Bool.false_eq_true, if_false, if_true, h0, h1, h3, h4]
    obtain ⟨w7, hw7⟩ : ∃ x, x = w' := ⟨_, rfl⟩
    subst hw7
    have hbb : Below w6.heap.size w6 w7 := hB
    have zw7 : w6.heap.size ≤ w7.heap.size := hbb.size
    replace BA : Hid (Blk w7 (w.heap.size) #[.int .i64 n, .slice av l.length cp, .slice bv ws.length dp] 25) := BA.out.below hbb (by omega)
    replace HW : Hid (TkD (w2.heap.size) (w3.heap.size) w7 pa3 pb.length pc3 va3 pl.length vc3 ua3 wl.length uc3 pb pl wl) := HW.out.keep fun k k1 k2 => hbb.block k (by omega)
    replace BW : Hid (Blk w7 (w3.heap.size) #[.int .i64 KK, .int .i64 OO, .int .i64 pI, .int .i64 pF, .int .i64 pT, .slice pa3 pb.length pc3, .int .i64 XX, .slice va3 pl.length vc3, .slice ua3 wl.length uc3] 50) := BW.out.below hbb (by omega)
    replace HX : Hid (BagD (w3.heap.size + 1) (w4.heap.size) w7 (some ⟨qX.1, 0, none⟩) l.length l.length (some ⟨qX.2, 0, none⟩) ws.length ws.length (cont l) ws) := HX.out.keep fun k k1 k2 => hbb.block k (by omega)
    replace BX : Hid (Blk w7 (w4.heap.size) #[.int .i64 n, .slice (some ⟨qX.1, 0, none⟩) l.length l.length, .slice (some ⟨qX.2, 0, none⟩) ws.length ws.length] 29) := BX.out.below hbb (by omega)
    replace HG : Hid (TkD (w4.heap.size + 1) (w5.heap.size) w7 pa5 pb.length pc5 va5 pl.length vc5 ua5 wl.length uc5 pb pl wl) := HG.out.keep fun k k1 k2 => hbb.block k (by omega)
    replace BG : Hid (Blk w7 (w5.heap.size) #[.int .i64 KK, .int .i64 OO, .int .i64 pI, .int .i64 pF, .int .i64 pT, .slice pa5 pb.length pc5, .int .i64 XX, .slice va5 pl.length vc5, .slice ua5 wl.length uc5] 50) := BG.out.below hbb (by omega)
    replace HB : Hid (Below w.heap.size w w7) := HB.out.trans (hbb.mono (by omega))
    obtain ⟨qY, _, _, ey, _⟩ := h2
    rw [ey]
    clear BXo BAo hbb hB ey
    go_wp2_with (first
      | (have hBA := BA; refine gate_ld 25 (.tmp 3) rfl ?_; clear hBA ; refine wpl_load_blk rfl 25 (.tmp 3) rfl (w.heap.size) rfl BA.out Try.underlying25 rfl sizeLBag rfl ?_)
      | (have hBA := BX; refine gate_ld 29 (.tmp 9) rfl ?_; clear hBA ; refine wpl_load_blk rfl 29 (.tmp 9) rfl (w4.heap.size) rfl BX.out Try.underlying29 rfl infoBagS rfl ?_)
      | (have hBA := BG; refine gate_ld 50 (.tmp 10) rfl ?_; clear hBA ; refine wpl_load_blk rfl 50 (.tmp 10) rfl (w5.heap.size) rfl BG.out Try.underlying50 rfl infoTk rfl ?_)
      | (have hBA := BW; refine gate_ld 50 (.tmp 8) rfl ?_; clear hBA ; refine wpl_load_blk rfl 50 (.tmp 8) rfl (w3.heap.size) rfl BW.out Try.underlying50 rfl infoTk rfl ?_)
      | (have hBA := BG; refine gate_ld 50 (.tmp 10) rfl ?_; clear hBA; refine wpl_load_blkG rfl (by first | rfl | exact congrArg some (decide_eq_false (by omega))) 50 (.tmp 10) rfl (w5.heap.size) rfl BG.out Try.underlying50 rfl infoTk rfl ?_)
      | (have hBA := BW; refine gate_ld 50 (.tmp 8) rfl ?_; clear hBA; refine wpl_load_blkG rfl (by first | rfl | exact congrArg some (decide_eq_false (by omega))) 50 (.tmp 8) rfl (w3.heap.size) rfl BW.out Try.underlying50 rfl infoTk rfl ?_)
      | (go_at_call 12; refine Calls.mono (markBag_d n _ _ _ _ _ _ (cont l) ws 1 _ HX.out (by omega) (by omega) (by rw [cont_len]; omega) hl.2 (by omega)) ?_; rintro e w8 ⟨⟨k8, rfl, hk8⟩, hg⟩; have zw8 : w7.heap.size ≤ w8.heap.size := hg.size; replace BA : Hid (Blk w8 (w.heap.size) #[.int .i64 n, .slice av l.length cp, .slice bv ws.length dp] 25) := BA.out.keep (hg.block _ (by omega) (by omega)); replace HW : Hid (TkD (w2.heap.size) (w3.heap.size) w8 pa3 pb.length pc3 va3 pl.length vc3 ua3 wl.length uc3 pb pl wl) := HW.out.keep fun k k1 k2 => hg.block k (by omega) (by omega); replace BW : Hid (Blk w8 (w3.heap.size) #[.int .i64 KK, .int .i64 OO, .int .i64 pI, .int .i64 pF, .int .i64 pT, .slice pa3 pb.length pc3, .int .i64 XX, .slice va3 pl.length vc3, .slice ua3 wl.length uc3] 50) := BW.out.keep (hg.block _ (by omega) (by omega)); replace BX : Hid (Blk w8 (w4.heap.size) #[.int .i64 n, .slice (some ⟨qX.1, 0, none⟩) l.length l.length, .slice (some ⟨qX.2, 0, none⟩) ws.length ws.length] 29) := BX.out.keep (hg.block _ (by omega) (by omega)); replace HG : Hid (TkD (w4.heap.size + 1) (w5.heap.size) w8 pa5 pb.length pc5 va5 pl.length vc5 ua5 wl.length uc5 pb pl wl) := HG.out.keep fun k k1 k2 => hg.block k (by omega) (by omega); replace BG : Hid (Blk w8 (w5.heap.size) #[.int .i64 KK, .int .i64 OO, .int .i64 pI, .int .i64 pF, .int .i64 pT, .slice pa5 pb.length pc5, .int .i64 XX, .slice va5 pl.length vc5, .slice ua5 wl.length uc5] 50) := BG.out.keep (hg.block _ (by omega) (by omega)); replace HB : Hid (Below w.heap.size w w8) := HB.out.trans (hg.below (by omega) (by omega)); clear hg HX)
      | (go_at_call 27; clear g6; refine Calls.mono (eqTakeAnswer_d KK OO pI pF pT XX _ _ _ _ _ _ _ _ _ _ _ _ _ _ _ pb pl wl _ HG.out HW.out (by first | omega | (simp <;> omega)) (by first | omega | (simp <;> omega)) hbm) ?_; rintro e w9 ⟨rfl, hb⟩; have hbb : Below w8.heap.size w8 w9 := hb; have zw9 : w8.heap.size ≤ w9.heap.size := hbb.size; replace BA : Hid (Blk w9 (w.heap.size) #[.int .i64 n, .slice av l.length cp, .slice bv ws.length dp] 25) := BA.out.below hbb (by omega); replace HW : Hid (TkD (w2.heap.size) (w3.heap.size) w9 pa3 pb.length pc3 va3 pl.length vc3 ua3 wl.length uc3 pb pl wl) := HW.out.keep fun k k1 k2 => hbb.block k (by omega); replace BW : Hid (Blk w9 (w3.heap.size) #[.int .i64 KK, .int .i64 OO, .int .i64 pI, .int .i64 pF, .int .i64 pT, .slice pa3 pb.length pc3, .int .i64 XX, .slice va3 pl.length vc3, .slice ua3 wl.length uc3] 50) := BW.out.below hbb (by omega); replace BX : Hid (Blk w9 (w4.heap.size) #[.int .i64 n, .slice (some ⟨qX.1, 0, none⟩) l.length l.length, .slice (some ⟨qX.2, 0, none⟩) ws.length ws.length] 29) := BX.out.below hbb (by omega); replace HG : Hid (TkD (w4.heap.size + 1) (w5.heap.size) w9 pa5 pb.length pc5 va5 pl.length vc5 ua5 wl.length uc5 pb pl wl) := HG.out.keep fun k k1 k2 => hbb.block k (by omega); replace BG : Hid (Blk w9 (w5.heap.size) #[.int .i64 KK, .int .i64 OO, .int .i64 pI, .int .i64 pF, .int .i64 pT, .slice pa5 pb.length pc5, .int .i64 XX, .slice va5 pl.length vc5, .slice ua5 wl.length uc5] 50) := BG.out.below hbb (by omega); replace HB : Hid (Below w.heap.size w w9) := HB.out.trans (hbb.mono (by omega)); clear hb hbb)
      | (go_at_call 28; refine Calls.mono (markTakeAnswer_d KK OO pI pF pT XX _ _ _ _ _ _ _ _ _ pb pl wl _ HG.out (by omega) (by omega) hpl.2.2.2 hpl.1 hpl.2.1 hpl.2.2.1) ?_; rintro e w10 ⟨rfl, ho, hg⟩; have zw10 : w9.heap.size ≤ w10.heap.size := hg.size; replace BA : Hid (Blk w10 (w.heap.size) #[.int .i64 n, .slice av l.length cp, .slice bv ws.length dp] 25) := BA.out.keep (hg.block _ (by omega) (by omega)); replace HW : Hid (TkD (w2.heap.size) (w3.heap.size) w10 pa3 pb.length pc3 va3 pl.length vc3 ua3 wl.length uc3 pb pl wl) := HW.out.keep fun k k1 k2 => hg.block k (by omega) (by omega); replace BW : Hid (Blk w10 (w3.heap.size) #[.int .i64 KK, .int .i64 OO, .int .i64 pI, .int .i64 pF, .int .i64 pT, .slice pa3 pb.length pc3, .int .i64 XX, .slice va3 pl.length vc3, .slice ua3 wl.length uc3] 50) := BW.out.keep (hg.block _ (by omega) (by omega)); replace BX : Hid (Blk w10 (w4.heap.size) #[.int .i64 n, .slice (some ⟨qX.1, 0, none⟩) l.length l.length, .slice (some ⟨qX.2, 0, none⟩) ws.length ws.length] 29) := BX.out.keep (hg.block _ (by omega) (by omega)); replace BG : Hid (Blk w10 (w5.heap.size) #[.int .i64 KK, .int .i64 OO, .int .i64 pI, .int .i64 pF, .int .i64 pT, .slice pa5 pb.length pc5, .int .i64 XX, .slice va5 pl.length vc5, .slice ua5 wl.length uc5] 50) := BG.out.keep (hg.block _ (by omega) (by omega)); replace HB : Hid (Below w.heap.size w w10) := HB.out.trans (hg.below (by omega) (by omega)); have HM : Hid (TkM (w4.heap.size + 1) (w5.heap.size) w10 pa5 pb.length pc5 va5 pl.length vc5 ua5 wl.length uc5 pl) := ho; clear hg ho HG)
      | (go_at_call 29; clear g7; refine Calls.mono (heldTakeAnswer_d KK OO pI pF pT XX _ _ _ _ _ _ _ _ _ pl _ HM.out (by omega) hpl.2.2.2 hpl.1 hpl.2.1 hpl.2.2.1) ?_; rintro e w11 ⟨rfl, hb⟩; have hbb : Below w10.heap.size w10 w11 := hb; have zw11 : w10.heap.size ≤ w11.heap.size := hbb.size; replace BA : Hid (Blk w11 (w.heap.size) #[.int .i64 n, .slice av l.length cp, .slice bv ws.length dp] 25) := BA.out.below hbb (by omega); replace HW : Hid (TkD (w2.heap.size) (w3.heap.size) w11 pa3 pb.length pc3 va3 pl.length vc3 ua3 wl.length uc3 pb pl wl) := HW.out.keep fun k k1 k2 => hbb.block k (by omega); replace BW : Hid (Blk w11 (w3.heap.size) #[.int .i64 KK, .int .i64 OO, .int .i64 pI, .int .i64 pF, .int .i64 pT, .slice pa3 pb.length pc3, .int .i64 XX, .slice va3 pl.length vc3, .slice ua3 wl.length uc3] 50) := BW.out.below hbb (by omega); replace BX : Hid (Blk w11 (w4.heap.size) #[.int .i64 n, .slice (some ⟨qX.1, 0, none⟩) l.length l.length, .slice (some ⟨qX.2, 0, none⟩) ws.length ws.length] 29) := BX.out.below hbb (by omega); replace BG : Hid (Blk w11 (w5.heap.size) #[.int .i64 KK, .int .i64 OO, .int .i64 pI, .int .i64 pF, .int .i64 pT, .slice pa5 pb.length pc5, .int .i64 XX, .slice va5 pl.length vc5, .slice ua5 wl.length uc5] 50) := BG.out.below hbb (by omega); replace HM : Hid (TkM (w4.heap.size + 1) (w5.heap.size) w11 pa5 pb.length pc5 va5 pl.length vc5 ua5 wl.length uc5 pl) := HM.out.keep fun k k1 k2 => hbb.block k (by omega); replace HB : Hid (Below w.heap.size w w11) := HB.out.trans (hbb.mono (by omega)); clear hb hbb)
      | (go_at_call 9; clear g8; refine Calls.mono (toBag_d n _ _ _ _ l ws _ (HV.out.below HB.out) (HU.out.below HB.out) hl) ?_; rintro e w12 ⟨q12, rfl, ho, hb⟩; have hbb : Below w11.heap.size w11 w12 := hb; have zw12 : w11.heap.size ≤ w12.heap.size := hbb.size; replace BA : Hid (Blk w12 (w.heap.size) #[.int .i64 n, .slice av l.length cp, .slice bv ws.length dp] 25) := BA.out.below hbb (by omega); replace HW : Hid (TkD (w2.heap.size) (w3.heap.size) w12 pa3 pb.length pc3 va3 pl.length vc3 ua3 wl.length uc3 pb pl wl) := HW.out.keep fun k k1 k2 => hbb.block k (by omega); replace BW : Hid (Blk w12 (w3.heap.size) #[.int .i64 KK, .int .i64 OO, .int .i64 pI, .int .i64 pF, .int .i64 pT, .slice pa3 pb.length pc3, .int .i64 XX, .slice va3 pl.length vc3, .slice ua3 wl.length uc3] 50) := BW.out.below hbb (by omega); replace BX : Hid (Blk w12 (w4.heap.size) #[.int .i64 n, .slice (some ⟨qX.1, 0, none⟩) l.length l.length, .slice (some ⟨qX.2, 0, none⟩) ws.length ws.length] 29) := BX.out.below hbb (by omega); replace BG : Hid (Blk w12 (w5.heap.size) #[.int .i64 KK, .int .i64 OO, .int .i64 pI, .int .i64 pF, .int .i64 pT, .slice pa5 pb.length pc5, .int .i64 XX, .slice va5 pl.length vc5, .slice ua5 wl.length uc5] 50) := BG.out.below hbb (by omega); replace HM : Hid (TkM (w4.heap.size + 1) (w5.heap.size) w12 pa5 pb.length pc5 va5 pl.length vc5 ua5 wl.length uc5 pl) := HM.out.keep fun k k1 k2 => hbb.block k (by omega); replace HB : Hid (Below w.heap.size w w12) := HB.out.trans (hbb.mono (by omega)); have HS : Hid (BagD (w11.heap.size) (w12.heap.size) w12 (some ⟨q12.1, 0, none⟩) l.length l.length (some ⟨q12.2, 0, none⟩) ws.length ws.length (cont l) ws) := ho; clear hb hbb ho)
      | (go_at_call 23; clear g9; refine Calls.mono (HIm.out _ _ _ _ HS.out hl) ?_; rintro e w13 ⟨pa13, pc13, va13, vc13, ua13, uc13, rfl, ho, hb⟩; have hbb : Below w12.heap.size w12 w13 := hb; have zw13 : w12.heap.size ≤ w13.heap.size := hbb.size; replace BA : Hid (Blk w13 (w.heap.size) #[.int .i64 n, .slice av l.length cp, .slice bv ws.length dp] 25) := BA.out.below hbb (by omega); replace HW : Hid (TkD (w2.heap.size) (w3.heap.size) w13 pa3 pb.length pc3 va3 pl.length vc3 ua3 wl.length uc3 pb pl wl) := HW.out.keep fun k k1 k2 => hbb.block k (by omega); replace BW : Hid (Blk w13 (w3.heap.size) #[.int .i64 KK, .int .i64 OO, .int .i64 pI, .int .i64 pF, .int .i64 pT, .slice pa3 pb.length pc3, .int .i64 XX, .slice va3 pl.length vc3, .slice ua3 wl.length uc3] 50) := BW.out.below hbb (by omega); replace BX : Hid (Blk w13 (w4.heap.size) #[.int .i64 n, .slice (some ⟨qX.1, 0, none⟩) l.length l.length, .slice (some ⟨qX.2, 0, none⟩) ws.length ws.length] 29) := BX.out.below hbb (by omega); replace BG : Hid (Blk w13 (w5.heap.size) #[.int .i64 KK, .int .i64 OO, .int .i64 pI, .int .i64 pF, .int .i64 pT, .slice pa5 pb.length pc5, .int .i64 XX, .slice va5 pl.length vc5, .slice ua5 wl.length uc5] 50) := BG.out.below hbb (by omega); replace HM : Hid (TkM (w4.heap.size + 1) (w5.heap.size) w13 pa5 pb.length pc5 va5 pl.length vc5 ua5 wl.length uc5 pl) := HM.out.keep fun k k1 k2 => hbb.block k (by omega); replace HB : Hid (Below w.heap.size w w13) := HB.out.trans (hbb.mono (by omega)); have HH : Hid (TkD (w12.heap.size) (w13.heap.size) w13 pa13 pb.length pc13 va13 pl.length vc13 ua13 wl.length uc13 pb pl wl) := ho; clear hb hbb ho HS)
      | (have hBA := HH; refine gate_st 50 (.tmp 14) _ rfl ?_; clear hBA; refine wpl_store_last rfl 50 (.tmp 14) _ rfl (w13.heap.size) rfl rfl rfl infoTk rfl rfl (by simp [Value.oneCell']) ?_)
      | (have hBA := HH; refine gate_ld 50 (.tmp 14) rfl ?_; clear hBA; refine wpl_load_blk rfl 50 (.tmp 14) rfl (w13.heap.size) rfl (Blk.new _ _ _) Try.underlying50 rfl infoTk rfl ?_)
      | (have hBA := HH; refine gate_ld 50 (.tmp 8) rfl ?_; clear hBA ; refine wpl_load_blk rfl 50 (.tmp 8) rfl (w3.heap.size) rfl (BW.out.alloc _) Try.underlying50 rfl infoTk rfl ?_)
      | (go_at_call 27; clear g10; refine Calls.mono (eqTakeAnswer_d KK OO pI pF pT XX _ _ _ _ _ _ _ _ _ _ _ _ _ _ _ pb pl wl _ (HH.out.keep fun k k1 k2 => Below.heap_alloc _ _ k (by omega)) (HW.out.keep fun k k1 k2 => Below.heap_alloc _ _ k (by omega)) (by first | omega | (simp <;> omega)) (by first | omega | (simp <;> omega)) hbm) ?_; rintro e w14 ⟨rfl, hb⟩; have hbb : Below w13.heap.size w13 w14 := ((Below.refl _ _).alloc (Nat.le_refl _) _).trans (hb.mono (by simp)); have zw14 : w13.heap.size < w14.heap.size := (by have := hb.size; simp at this; omega); replace BA : Hid (Blk w14 (w.heap.size) #[.int .i64 n, .slice av l.length cp, .slice bv ws.length dp] 25) := BA.out.below hbb (by omega); replace HW : Hid (TkD (w2.heap.size) (w3.heap.size) w14 pa3 pb.length pc3 va3 pl.length vc3 ua3 wl.length uc3 pb pl wl) := HW.out.keep fun k k1 k2 => hbb.block k (by omega); replace BW : Hid (Blk w14 (w3.heap.size) #[.int .i64 KK, .int .i64 OO, .int .i64 pI, .int .i64 pF, .int .i64 pT, .slice pa3 pb.length pc3, .int .i64 XX, .slice va3 pl.length vc3, .slice ua3 wl.length uc3] 50) := BW.out.below hbb (by omega); replace BX : Hid (Blk w14 (w4.heap.size) #[.int .i64 n, .slice (some ⟨qX.1, 0, none⟩) l.length l.length, .slice (some ⟨qX.2, 0, none⟩) ws.length ws.length] 29) := BX.out.below hbb (by omega); replace BG : Hid (Blk w14 (w5.heap.size) #[.int .i64 KK, .int .i64 OO, .int .i64 pI, .int .i64 pF, .int .i64 pT, .slice pa5 pb.length pc5, .int .i64 XX, .slice va5 pl.length vc5, .slice ua5 wl.length uc5] 50) := BG.out.below hbb (by omega); replace HM : Hid (TkM (w4.heap.size + 1) (w5.heap.size) w14 pa5 pb.length pc5 va5 pl.length vc5 ua5 wl.length uc5 pl) := HM.out.keep fun k k1 k2 => hbb.block k (by omega); replace HB : Hid (Below w.heap.size w w14) := HB.out.trans (hbb.mono (by omega)); clear hb hbb HH)
      | (go_at_call 29; clear g11; refine Calls.mono (heldTakeAnswer_d KK OO pI pF pT XX _ _ _ _ _ _ _ _ _ pl _ HM.out (by omega) hpl.2.2.2 hpl.1 hpl.2.1 hpl.2.2.1) ?_; rintro e w15 ⟨rfl, hb⟩; have hbb : Below w14.heap.size w14 w15 := hb; have zw15 : w14.heap.size ≤ w15.heap.size := hbb.size; replace BA : Hid (Blk w15 (w.heap.size) #[.int .i64 n, .slice av l.length cp, .slice bv ws.length dp] 25) := BA.out.below hbb (by omega); replace HW : Hid (TkD (w2.heap.size) (w3.heap.size) w15 pa3 pb.length pc3 va3 pl.length vc3 ua3 wl.length uc3 pb pl wl) := HW.out.keep fun k k1 k2 => hbb.block k (by omega); replace BW : Hid (Blk w15 (w3.heap.size) #[.int .i64 KK, .int .i64 OO, .int .i64 pI, .int .i64 pF, .int .i64 pT, .slice pa3 pb.length pc3, .int .i64 XX, .slice va3 pl.length vc3, .slice ua3 wl.length uc3] 50) := BW.out.below hbb (by omega); replace BX : Hid (Blk w15 (w4.heap.size) #[.int .i64 n, .slice (some ⟨qX.1, 0, none⟩) l.length l.length, .slice (some ⟨qX.2, 0, none⟩) ws.length ws.length] 29) := BX.out.below hbb (by omega); replace BG : Hid (Blk w15 (w5.heap.size) #[.int .i64 KK, .int .i64 OO, .int .i64 pI, .int .i64 pF, .int .i64 pT, .slice pa5 pb.length pc5, .int .i64 XX, .slice va5 pl.length vc5, .slice ua5 wl.length uc5] 50) := BG.out.below hbb (by omega); replace HM : Hid (TkM (w4.heap.size + 1) (w5.heap.size) w15 pa5 pb.length pc5 va5 pl.length vc5 ua5 wl.length uc5 pl) := HM.out.keep fun k k1 k2 => hbb.block k (by omega); replace HB : Hid (Below w.heap.size w w15) := HB.out.trans (hbb.mono (by omega)); clear hb hbb))
    go_ret
    exact ⟨rfl, HB.out⟩
end Go.Proofs.Ythondmpnleleiaa
