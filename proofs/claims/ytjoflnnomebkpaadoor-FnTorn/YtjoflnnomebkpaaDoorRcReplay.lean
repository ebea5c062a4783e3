/-
  impl.replay.
-/
import Derived.Test.YtjoflnnomebkpaaDoorRcStop
namespace Go.Proofs.YtjoflnnomebkpaaDoor
open Go.RowKit
set_option linter.unusedVariables false
set_option linter.unusedSimpArgs false


theorem below_at {B : Nat} {w w1 w2 : World} (h : Below B w w1) (h2 : Below w1.heap.size w1 w2) (hB : B ≤ w.heap.size) : Below B w w2 := h.trans (h2.mono (Nat.le_trans hB h.size))
set_option maxHeartbeats 1000000 in
set_option maxRecDepth 100000 in
theorem replay_any (a : Option Addr) (c : Nat) (r : List Int) (q : Nat) (cd gd rn : Int) (s : Stt) (w : World) (A : Nat → Addr) (B : Nat) (hs : Sents w A B) (hq : B ≤ q) (h : Rc w q cd gd rn s) (hv : Bs w (.slice a r.length c) r) (hc : r.length ≤ c) (hll : s.log.length ≤ 1048576) :
    Calls Tryd.prog 95 #[.slice a r.length c, .pointer (some ⟨q, 3, none⟩)] w fun e w' =>
      (∃ m : Int, e = .returned (.tuple #[.int .i64 m, if oneE r s = 0 then .nilIface else refV (A (oneE r s)) 0]) ∧ (oneE r s = 0 → m = (cutN r : Nat))) ∧ Rc w' q cd gd rn (if oneE r s = 0 then thenS s (frec (r.take (cutN r))) else s) ∧ Below q w w' := by
  have HFf : Hid (Calls Tryd.prog 116 #[.slice a r.length c] w _) := firstFrame_any a c r w A B hs hv hc
  have hqw := h.lt
  have HRC : Hid (Rc w q cd gd rn s) := h
  have hN : ∀ i, 1 ≤ i → ¬ i = 0 := fun i h => by omega
  by_cases h1 : cutC r = 0
  case neg =>
    have hO : oneE r s = cutC r + 6 := by unfold oneE; rw [if_pos h1]
    rw [if_neg h1] at HFf
    rw [hO, if_neg (by omega), if_neg (by omega)]
    clear hO h1 hv hN h
    go_enter Tryd.func95, Tryd.ntmps95
    go_wp2_with (go_at_call 116; refine Calls.mono HFf.out ?_; rintro e w1 ⟨rfl, hb⟩)
    go_ret2
    exact ⟨⟨_, rfl, fun x => by omega⟩, HRC.out.below hb, hb.mono (by omega)⟩
  rw [if_pos h1] at HFf
  obtain ⟨z1, z2, z3, z4, z5⟩ := cutC_zero h1
  obtain ⟨b, off, ea⟩ := (show ∃ b off, a = some ⟨b, off, none⟩ from by
    obtain ⟨_, _, a', c', e, hcell⟩ := hv
    injection e with e1 e2 e3
    subst e1
    obtain ⟨b, off, rfl, _⟩ := hcell 0 (by omega)
    exact ⟨b, off, rfl⟩)
  subst ea
  have hvt := hv.takeR (cutN r) z4
  have hfl : (r.take (cutN r)).length = cutN r := by rw [List.length_take]; omega
  have hS3 := sumC_cut h1
  have hO : oneE r s = if readE (r.take (cutN r)) ≠ 0 then readE (r.take (cutN r)) else if fitsB s (frec (r.take (cutN r))) = false then 9 else 0 := by unfold oneE; rw [if_neg (fun x => x h1)]
  have hR := readE_eq (r.take (cutN r))
  generalize hne : cutN r = n at z2 z3 z4 z5 hvt hfl hS3 hO hR HFf ⊢
  generalize hfe : r.take n = f at hvt hfl hS3 hO hR ⊢
  have HOp : ∀ u, Sents u A B → Bs u (.slice (some ⟨b, off, none⟩) n c) f → Hid (Calls Tryd.prog 117 #[.slice (some ⟨b, off, none⟩) n c] u fun e w' => e = .returned (if sumC f = 0 then .tuple #[.slice (some ⟨b, off + 8, none⟩) (n - 8) (c - 8), .nilIface] else .tuple #[.slice none 0 0, refV (A (sumC f)) 0]) ∧ Below u.heap.size u w') := fun u hs' hb' => by
    have := openFrame_any (some ⟨b, off, none⟩) n c f u A B hs' hb' (by omega) u.heap.size hb'.lt
    have es : sliced (some ⟨b, off, none⟩) 8 n c 1 = .slice (some ⟨b, off + 8, none⟩) (n - 8) (c - 8) := by simp [sliced, Addr.add, show c ≠ 8 by omega]
    rw [es] at this
    exact this
  have HRe : ∀ u, Sents u A B → Bs u (.slice (some ⟨b, off, none⟩) n c) f → Hid (Calls Tryd.prog 118 #[.slice (some ⟨b, off + 8, none⟩) (n - 8) (c - 8)] u fun e w' => e = .returned (if bodyE f = 0 then .tuple #[chR (frec f), .nilIface] else .tuple #[.nilIface, refV (A (bodyE f)) 0]) ∧ Below u.heap.size u w') := fun u hs' hb' => by
    have hz := readChange_any b (off + 8) (c - 8) f u A B (by omega) hs'
    rw [hfl] at hz
    refine hz ?_ (by omega)
    have hd := (hb'.drop (by omega) hb'.lt 8 (by omega)).1
    have es : sliced (some ⟨b, off, none⟩) 8 n c 1 = .slice (some ⟨b, off + 8, none⟩) (n - 8) (c - 8) := by simp [sliced, Addr.add, show c ≠ 8 by omega]
    rw [es] at hd
    exact hd
  have HV : Hid (Bs w (.slice (some ⟨b, off, none⟩) n c) f) := hvt
  have hcn : (r.length : Int) ≤ 9223372036854775807 := by have := hv.1; unfold maxLen at this; omega
  clear hvt hv h hfl hne
  by_cases h2 : sumC f = 0
  case neg =>
    have hS : sumC f = 3 := by
      rw [hS3] at h2 ⊢
      split
      · rfl
      · next hx => rw [if_neg hx] at h2; exact absurd rfl h2
    rw [if_pos (by omega)] at hR
    have hO' : oneE r s = 3 := by rw [hO, hR, if_pos (by omega)]; exact hS
    rw [hO', if_neg (by decide), if_neg (by decide)]
    rw [hS, if_neg (by decide)] at HOp
    clear hO hO' hR hS hS3 h2 HRe hfe
    go_enter Tryd.func95, Tryd.ntmps95
    go_wp2_with (first
      | (go_at_call 116; refine Calls.mono HFf.out ?_; rintro e w1 ⟨rfl, hb⟩)
      | (go_at_call 117; refine Calls.mono (HOp _ (hs.below hb) (HV.out.below hb)).out ?_; rintro e w2 ⟨rfl, hb2⟩; have hB := hb.trans (hb2.mono hb.size)))
    go_ret2
    exact ⟨⟨_, rfl, fun x => absurd x (by decide)⟩, HRC.out.below hB, hB.mono (by omega)⟩
  rw [if_neg (fun x => x h2)] at hR
  rw [h2, if_pos rfl] at HOp
  by_cases h3 : bodyE f = 0
  case neg =>
    rw [if_neg h3] at HRe
    have hO' : oneE r s = bodyE f := by rw [hO, hR, if_pos h3]
    rw [hO', if_neg h3, if_neg h3]
    have HN : Hid (bodyE f ≠ 0) := h3
    clear hO hO' hR hS3 h2 h3 hfe
    go_enter Tryd.func95, Tryd.ntmps95
    go_wp2_with (first
      | (go_at_call 116; refine Calls.mono HFf.out ?_; rintro e w1 ⟨rfl, hb⟩)
      | (go_at_call 117; refine Calls.mono (HOp _ (hs.below hb) (HV.out.below hb)).out ?_; rintro e w2 ⟨rfl, hb2⟩; have hB := hb.trans (hb2.mono hb.size))
      | (go_at_call 118; refine Calls.mono (HRe _ (hs.below hB) (HV.out.below hB)).out ?_; rintro e w3 ⟨rfl, hb3⟩; have hB3 := hB.trans (hb3.mono hB.size)))
    go_ret2
    exact ⟨⟨_, rfl, fun x => absurd x HN.out⟩, HRC.out.below hB3, hB3.mono (by omega)⟩
  rw [if_pos h3] at HRe
  have hrb : recB (frec f) = true ∧ inB (f[8]?.getD 0) 11 13 = true := by
    unfold bodyE at h3
    split at h3
    · cases h3
    next hx =>
    split at h3
    · cases h3
    split at h3
    · cases h3
    next hy => exact ⟨by simpa using hy, by simpa using hx⟩
  obtain ⟨hrb, hki⟩ := hrb
  rw [hR, if_neg (fun x => x h3)] at hO
  have hff := frec_fits f
  rw [inB_iff] at hki
  rcases (show f[8]?.getD 0 = 11 ∨ f[8]?.getD 0 = 12 ∨ f[8]?.getD 0 = 13 by omega) with hk | hk | hk
  · obtain ⟨hfr, _⟩ := frec_hard hk
    rw [hfr] at hrb hO HRe hff ⊢
    have hx0 : (0 : Int) ≤ ((rdNum (some (f.drop 9))).1 : Int) := Int.natCast_nonneg _
    clear hfr
    generalize ((rdNum (rdNum (some (f.drop 9))).2).1 : Int) = X2 at *
    generalize ((rdNum (some (f.drop 9))).1 : Int) = X1 at *
    have hch : ∀ u, Sents u A B → Rc u q cd gd rn s → Hid (Calls Tryd.prog 157 #[_, .pointer (some ⟨q, 3, none⟩)] u _) := fun u hs' hr => hardApply q cd gd rn s X1 X2 u A B hs' hr hll
    rw [folR_eq] at hch
    have hM := meth_hard_apply
    unfold chR at HRe
    dsimp only at HRe hch hff
    simp only [if_true, Int.reduceEq, if_false] at HRe
    cases hF : fitsB s ⟨1, X1, X2, 0, ent0⟩
    · rw [hF] at hO hch
      simp only [if_true, if_false, Bool.true_eq_false, Bool.false_eq_true] at hO hch
      rw [hO]
      simp only [if_true, if_false, Nat.succ_ne_zero, Nat.reduceEqDiff]
      clear hO hR hS3 h2 h3 hfe hk hki hff hrb
      go_enter Tryd.func95, Tryd.ntmps95
      go_wp2_with (first
        | (go_at_call 116; refine Calls.mono HFf.out ?_; rintro e w1 ⟨rfl, hb⟩)
        | (go_at_call 117; refine Calls.mono (HOp _ (hs.below hb) (HV.out.below hb)).out ?_; rintro e w2 ⟨rfl, hb2⟩; have hB := hb.trans (hb2.mono hb.size))
        | (go_at_call 118; refine Calls.mono (HRe _ (hs.below hB) (HV.out.below hB)).out ?_; rintro e w3 ⟨rfl, hb3⟩; have hB3 := hB.trans (hb3.mono hB.size))
        | (go_at_call 157; refine Calls.mono (hch _ (hs.below hB3) (HRC.out.below hB3)).out ?_; rintro e w4 ⟨rfl, hr4, hb4⟩; have hB4 : Below q w w4 := (hB3.mono (by omega)).trans hb4))
      go_ret2
      exact ⟨⟨_, rfl, fun x => by first | rfl | omega⟩, hr4, hB4⟩
    · rw [hF] at hO hch
      simp only [if_true, if_false, Bool.true_eq_false, Bool.false_eq_true] at hO hch
      rw [hO]
      simp only [if_true, if_false, Nat.succ_ne_zero, Nat.reduceEqDiff]
      clear hO hR hS3 h2 h3 hfe hk hki hff hrb
      go_enter Tryd.func95, Tryd.ntmps95
      go_wp2_with (first
        | (go_at_call 116; refine Calls.mono HFf.out ?_; rintro e w1 ⟨rfl, hb⟩)
        | (go_at_call 117; refine Calls.mono (HOp _ (hs.below hb) (HV.out.below hb)).out ?_; rintro e w2 ⟨rfl, hb2⟩; have hB := hb.trans (hb2.mono hb.size))
        | (go_at_call 118; refine Calls.mono (HRe _ (hs.below hB) (HV.out.below hB)).out ?_; rintro e w3 ⟨rfl, hb3⟩; have hB3 := hB.trans (hb3.mono hB.size))
        | (go_at_call 157; refine Calls.mono (hch _ (hs.below hB3) (HRC.out.below hB3)).out ?_; rintro e w4 ⟨rfl, hr4, hb4⟩; have hB4 : Below q w w4 := (hB3.mono (by omega)).trans hb4))
      go_ret2
      exact ⟨⟨_, rfl, fun x => by first | rfl | omega⟩, hr4, hB4⟩
  · obtain ⟨hfr, _⟩ := frec_add hk
    rw [hfr] at hrb hO HRe hff ⊢
    have hx0 : (0 : Int) ≤ ((rdNum (some (f.drop 9))).1 : Int) := Int.natCast_nonneg _
    clear hfr
    generalize (rdEnt (rdNum (some (f.drop 9))).2).1 = X2 at *
    generalize ((rdNum (some (f.drop 9))).1 : Int) = X1 at *
    have hch : ∀ u, Sents u A B → Rc u q cd gd rn s → Hid (Calls Tryd.prog 166 #[_, .pointer (some ⟨q, 3, none⟩)] u _) := fun u hs' hr => addApply q cd gd rn s X1 X2 u A B hs' hr hll hff
    rw [addB_eq s _ _ (recB_add_t hrb)] at hch
    have hM := meth_add_apply
    unfold chR at HRe
    dsimp only at HRe hch hff
    simp only [if_true, Int.reduceEq, if_false] at HRe
    cases hF : fitsB s ⟨2, 0, 0, X1, X2⟩
    · rw [hF] at hO hch
      simp only [if_true, if_false, Bool.true_eq_false, Bool.false_eq_true] at hO hch
      rw [hO]
      simp only [if_true, if_false, Nat.succ_ne_zero, Nat.reduceEqDiff]
      clear hO hR hS3 h2 h3 hfe hk hki hff hrb
      go_enter Tryd.func95, Tryd.ntmps95
      go_wp2_with (first
        | (go_at_call 116; refine Calls.mono HFf.out ?_; rintro e w1 ⟨rfl, hb⟩)
        | (go_at_call 117; refine Calls.mono (HOp _ (hs.below hb) (HV.out.below hb)).out ?_; rintro e w2 ⟨rfl, hb2⟩; have hB := hb.trans (hb2.mono hb.size))
        | (go_at_call 118; refine Calls.mono (HRe _ (hs.below hB) (HV.out.below hB)).out ?_; rintro e w3 ⟨rfl, hb3⟩; have hB3 := hB.trans (hb3.mono hB.size))
        | (go_at_call 166; refine Calls.mono (hch _ (hs.below hB3) (HRC.out.below hB3)).out ?_; rintro e w4 ⟨rfl, hr4, hb4⟩; have hB4 : Below q w w4 := (hB3.mono (by omega)).trans hb4))
      go_ret2
      exact ⟨⟨_, rfl, fun x => by first | rfl | omega⟩, hr4, hB4⟩
    · rw [hF] at hO hch
      simp only [if_true, if_false, Bool.true_eq_false, Bool.false_eq_true] at hO hch
      rw [hO]
      simp only [if_true, if_false, Nat.succ_ne_zero, Nat.reduceEqDiff]
      clear hO hR hS3 h2 h3 hfe hk hki hff hrb
      go_enter Tryd.func95, Tryd.ntmps95
      go_wp2_with (first
        | (go_at_call 116; refine Calls.mono HFf.out ?_; rintro e w1 ⟨rfl, hb⟩)
        | (go_at_call 117; refine Calls.mono (HOp _ (hs.below hb) (HV.out.below hb)).out ?_; rintro e w2 ⟨rfl, hb2⟩; have hB := hb.trans (hb2.mono hb.size))
        | (go_at_call 118; refine Calls.mono (HRe _ (hs.below hB) (HV.out.below hB)).out ?_; rintro e w3 ⟨rfl, hb3⟩; have hB3 := hB.trans (hb3.mono hB.size))
        | (go_at_call 166; refine Calls.mono (hch _ (hs.below hB3) (HRC.out.below hB3)).out ?_; rintro e w4 ⟨rfl, hr4, hb4⟩; have hB4 : Below q w w4 := (hB3.mono (by omega)).trans hb4))
      go_ret2
      exact ⟨⟨_, rfl, fun x => by first | rfl | omega⟩, hr4, hB4⟩
  · obtain ⟨hfr, _⟩ := frec_cut hk
    rw [hfr] at hrb hO HRe hff ⊢
    have hx0 : (0 : Int) ≤ ((rdNum (some (f.drop 9))).1 : Int) := Int.natCast_nonneg _
    clear hfr
    generalize ((rdNum (some (f.drop 9))).1 : Int) = X1 at *
    have hch : ∀ u, Sents u A B → Rc u q cd gd rn s → Hid (Calls Tryd.prog 163 #[_, .pointer (some ⟨q, 3, none⟩)] u _) := fun u hs' hr => cutApply q cd gd rn s X1 u A B hs' hr hll hx0
    rw [cutB_eq] at hch
    have hM := meth_cut_apply
    unfold chR at HRe
    dsimp only at HRe hch hff
    simp only [if_true, Int.reduceEq, if_false] at HRe
    cases hF : fitsB s ⟨3, 0, 0, X1, ent0⟩
    · rw [hF] at hO hch
      simp only [if_true, if_false, Bool.true_eq_false, Bool.false_eq_true] at hO hch
      rw [hO]
      simp only [if_true, if_false, Nat.succ_ne_zero, Nat.reduceEqDiff]
      clear hO hR hS3 h2 h3 hfe hk hki hff hrb
      go_enter Tryd.func95, Tryd.ntmps95
      go_wp2_with (first
        | (go_at_call 116; refine Calls.mono HFf.out ?_; rintro e w1 ⟨rfl, hb⟩)
        | (go_at_call 117; refine Calls.mono (HOp _ (hs.below hb) (HV.out.below hb)).out ?_; rintro e w2 ⟨rfl, hb2⟩; have hB := hb.trans (hb2.mono hb.size))
        | (go_at_call 118; refine Calls.mono (HRe _ (hs.below hB) (HV.out.below hB)).out ?_; rintro e w3 ⟨rfl, hb3⟩; have hB3 := hB.trans (hb3.mono hB.size))
        | (go_at_call 163; refine Calls.mono (hch _ (hs.below hB3) (HRC.out.below hB3)).out ?_; rintro e w4 ⟨rfl, hr4, hb4⟩; have hB4 : Below q w w4 := (hB3.mono (by omega)).trans hb4))
      go_ret2
      exact ⟨⟨_, rfl, fun x => by first | rfl | omega⟩, hr4, hB4⟩
    · rw [hF] at hO hch
      simp only [if_true, if_false, Bool.true_eq_false, Bool.false_eq_true] at hO hch
      rw [hO]
      simp only [if_true, if_false, Nat.succ_ne_zero, Nat.reduceEqDiff]
      clear hO hR hS3 h2 h3 hfe hk hki hff hrb
      go_enter Tryd.func95, Tryd.ntmps95
      go_wp2_with (first
        | (go_at_call 116; refine Calls.mono HFf.out ?_; rintro e w1 ⟨rfl, hb⟩)
        | (go_at_call 117; refine Calls.mono (HOp _ (hs.below hb) (HV.out.below hb)).out ?_; rintro e w2 ⟨rfl, hb2⟩; have hB := hb.trans (hb2.mono hb.size))
        | (go_at_call 118; refine Calls.mono (HRe _ (hs.below hB) (HV.out.below hB)).out ?_; rintro e w3 ⟨rfl, hb3⟩; have hB3 := hB.trans (hb3.mono hB.size))
        | (go_at_call 163; refine Calls.mono (hch _ (hs.below hB3) (HRC.out.below hB3)).out ?_; rintro e w4 ⟨rfl, hr4, hb4⟩; have hB4 : Below q w w4 := (hB3.mono (by omega)).trans hb4))
      go_ret2
      exact ⟨⟨_, rfl, fun x => by first | rfl | omega⟩, hr4, hB4⟩
end Go.Proofs.YtjoflnnomebkpaaDoor
