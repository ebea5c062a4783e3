/-
  The walk of the law FnExactSpoil.
-/
import Derived.Test.YtdobgdbceonjkabSpoilOps
import Derived.Deep.RegionHeld3
namespace Go.Proofs.Ytdobgdbceonjkab
open Go.RowKit
set_option linter.unusedVariables false

theorem Own.row' {w w' : World} {row : Option Nat} {B : Nat} {v : Value} {l : List Int} (h : Own w B v l) (hg : w.grownBy w' row) (hne : ∀ k, v.ownBlock = some k → row ≠ some k) : Own w' B v l := by
  refine ⟨h.1, h.2.1, ?_⟩
  rcases h.2.2 with h | ⟨g, cap, cur, hv, hg', hh, r⟩
  · exact .inl h
  · exact .inr ⟨g, cap, cur, hv, hg', (hg.block g (heap_lt hh) (fun e => hne g (by rw [hv]; rfl) e.symm)).trans hh, r⟩

set_option maxHeartbeats 8000000 in
set_option maxRecDepth 100000 in
theorem lawSpoil_walk (v : Value) (l : List Int) (n x : Int) (w : World) (hv : Bs w v l) (ha : -(2 ^ 63) ≤ n) (ha' : n < 2 ^ 63) (hx : -(2 ^ 63) ≤ x) (hx' : x < 2 ^ 63) :
    Calls Try.prog 3 #[v, .int .i64 n, .int .i64 x] w fun e w' => e = .returned (.bool true) ∧ Below w.heap.size w w' := by
  have HV : Hid (Bs w v l) := hv
  obtain ⟨hml, h8, a0, cap0, rfl, hcell⟩ := hv
  clear hcell h8
  by_cases hl : l.length ≤ 1048576
  case neg =>
    have hl' : (1048576 : Int) < l.length := by omega
    unfold maxLen at hml
    go_enter Try.func3, Try.ntmps3
    go_wp2
    go_ret
    exact ⟨rfl, Below.refl _ _⟩
  have HSp : Hid (∀ w' a, Bs w' (.slice a l.length l.length) l → Calls Try.prog 8 #[.slice a l.length l.length, .int .i64 n, .int .i64 x] w' fun e w'' => ∃ a' cap', e = .returned (.slice a' (spoilL l n x).length cap') ∧ Own w'' w'.heap.size (.slice a' (spoilL l n x).length cap') (spoilL l n x) ∧ Below w'.heap.size w' w'') := fun w' a h => sSpoil_any a l.length l n x w' h hl ha ha' hx hx'
  have HIm : Hid (∀ w' q, Bs w' (.slice (some ⟨q, 0, none⟩) l.length l.length) l → Calls Try.prog 10 #[.slice (some ⟨q, 0, none⟩) l.length l.length, .int .i64 n, .int .i64 x] w' fun e w'' => ∃ a' cap', e = .returned (.slice a' (spoilL l n x).length cap') ∧ Own w'' w'.heap.size (.slice a' (spoilL l n x).length cap') (spoilL l n x) ∧ Below w'.heap.size w' w'') := fun w' q h => spoil_any q 0 l.length l n x w' h hl ha ha' hx hx'
  have hL : (spoilL l n x).length ≤ 1048576 := Nat.le_trans (spoilL_le l n x) hl
  generalize spoilL l n x = L at HSp HIm hL
  have hLm : L.length ≤ maxLen := by unfold maxLen; omega
  have hlm : l.length ≤ maxLen := hml
  have hl2 : (l.length : Int) ≤ 1048576 := by omega
  have HB : Hid (Below w.heap.size w w) := Below.refl _ _
  have g1 : True := trivial
  have g2 : True := trivial
  have g3 : True := trivial
  have g4 : True := trivial
  have g5 : True := trivial
  have g6 : True := trivial
  have g7 : True := trivial
  have g8 : True := trivial
  have g9 : True := trivial
  clear ha ha' hx hx'
  go_enter Try.func3, Try.ntmps3
  go_wp2_with (first
    | (go_at_call 9; clear g1; refine (toByteS_own _ l _ (HV.out.below HB.out) hl).mono ?_; rintro e w2 ⟨q2, rfl, _, _, ho2, hb⟩; have z2 : w.heap.size ≤ w2.heap.size := hb.size; replace HB : Hid (Below w.heap.size w w2) := hb; clear hb)
    | (go_at_call 8; refine (HSp.out _ _ (ho2.bs hlm)).mono ?_; rintro e w3 ⟨a3, cap3, rfl, ho3, hb⟩; have z3 : w2.heap.size ≤ w3.heap.size := hb.size; have lt3 := fun k e => (ho3.2.lt k e).2; replace HB : Hid (Below w.heap.size w w3) := HB.out.trans (hb.mono (by omega)); have HW : Hid (Own w3 w2.heap.size (.slice a3 L.length cap3) L) := ho3; clear hb ho2 ho3)
    | (go_at_call 9; clear g2; refine (toByteS_own _ l _ (HV.out.below HB.out) hl).mono ?_; rintro e w4 ⟨q4, rfl, q4a, q4b, ho4, hb⟩; have z4 : w3.heap.size ≤ w4.heap.size := hb.size; replace HB : Hid (Below w.heap.size w w4) := HB.out.trans (hb.mono (by omega)); replace HW : Hid (Own w4 w2.heap.size (.slice a3 L.length cap3) L) := HW.out.below hb; have HX : Hid (Own w4 w3.heap.size (.slice (some ⟨q4, 0, none⟩) l.length l.length) l) := ho4; clear hb ho4)
    | (go_at_call 10; clear g3; refine (HIm.out _ _ (HX.out.bs hlm)).mono ?_; rintro e w5 ⟨a5, cap5, rfl, ho5, hb⟩; have z5 : w4.heap.size ≤ w5.heap.size := hb.size; have lt5 := fun k e => (ho5.2.lt k e); replace HB : Hid (Below w.heap.size w w5) := HB.out.trans (hb.mono (by omega)); replace HW : Hid (Own w5 w2.heap.size (.slice a3 L.length cap3) L) := HW.out.below hb; replace HX : Hid (Own w5 w3.heap.size (.slice (some ⟨q4, 0, none⟩) l.length l.length) l) := HX.out.below hb; have HG : Hid (Own w5 w4.heap.size (.slice a5 L.length cap5) L) := ho5; clear hb ho5)
    | (go_at_call 11; clear g4; refine (eqByteS_same _ _ L _ (HG.out.bs hLm) (HW.out.bs hLm)).mono ?_; rintro e w6 ⟨rfl, hb⟩; have z6 : w5.heap.size ≤ w6.heap.size := hb.size; replace HB : Hid (Below w.heap.size w w6) := HB.out.trans (hb.mono (by omega)); replace HW : Hid (Own w6 w2.heap.size (.slice a3 L.length cap3) L) := HW.out.below hb; replace HX : Hid (Own w6 w3.heap.size (.slice (some ⟨q4, 0, none⟩) l.length l.length) l) := HX.out.below hb; replace HG : Hid (Own w6 w4.heap.size (.slice a5 L.length cap5) L) := HG.out.below hb; clear hb)
    | (go_at_call 9; clear g5; refine (toByteS_own _ l _ (HV.out.below HB.out) hl).mono ?_; rintro e w7 ⟨q7, rfl, _, _, ho7, hb⟩; have z7 : w6.heap.size ≤ w7.heap.size := hb.size; replace HB : Hid (Below w.heap.size w w7) := HB.out.trans (hb.mono (by omega)); replace HW : Hid (Own w7 w2.heap.size (.slice a3 L.length cap3) L) := HW.out.below hb; replace HX : Hid (Own w7 w3.heap.size (.slice (some ⟨q4, 0, none⟩) l.length l.length) l) := HX.out.below hb; replace HG : Hid (Own w7 w4.heap.size (.slice a5 L.length cap5) L) := HG.out.below hb; clear hb)
    | (go_at_call 11; clear g6; refine (eqByteS_same _ _ l _ (HX.out.bs hlm) (ho7.bs hlm)).mono ?_; rintro e w8 ⟨rfl, hb⟩; have z8 : w7.heap.size ≤ w8.heap.size := hb.size; replace HB : Hid (Below w.heap.size w w8) := HB.out.trans (hb.mono (by omega)); replace HW : Hid (Own w8 w2.heap.size (.slice a3 L.length cap3) L) := HW.out.below hb; replace HX : Hid (Own w8 w3.heap.size (.slice (some ⟨q4, 0, none⟩) l.length l.length) l) := HX.out.below hb; replace HG : Hid (Own w8 w4.heap.size (.slice a5 L.length cap5) L) := HG.out.below hb; clear hb ho7)
    | (go_at_call 12; clear g7; refine (markByteS_any _ l 1 _ _ HX.out (by omega) (by omega)).mono ?_; rintro e w9 ⟨rfl, _, hgm⟩; have z9 : w8.heap.size ≤ w9.heap.size := hgm.size; replace HB : Hid (Below w.heap.size w w9) := HB.out.grown hgm (by omega) (fun k e => by simp only [Value.ownBlock, Option.some.injEq] at e; omega); replace HW : Hid (Own w9 w2.heap.size (.slice a3 L.length cap3) L) := HW.out.row' hgm (fun k e e' => by simp only [Value.ownBlock, Option.some.injEq] at e'; have := lt3 k e; omega); replace HG : Hid (Own w9 w4.heap.size (.slice a5 L.length cap5) L) := HG.out.row' hgm (fun k e e' => by simp only [Value.ownBlock, Option.some.injEq] at e'; have := (lt5 k e).1; omega); clear hgm HX)
    | (go_at_call 11; clear g8; refine (eqByteS_same _ _ L _ (HG.out.bs hLm) (HW.out.bs hLm)).mono ?_; rintro e w10 ⟨rfl, hb⟩; have z10 : w9.heap.size ≤ w10.heap.size := hb.size; replace HB : Hid (Below w.heap.size w w10) := HB.out.trans (hb.mono (by omega)); replace HW : Hid (Own w10 w2.heap.size (.slice a3 L.length cap3) L) := HW.out.below hb; replace HG : Hid (Own w10 w4.heap.size (.slice a5 L.length cap5) L) := HG.out.below hb; clear hb)
    | (go_at_call 12; refine (markByteS_any _ L 1 _ _ HG.out (by omega) (by omega)).mono ?_; rintro e w11 ⟨rfl, hm, hgm⟩; have z11 : w10.heap.size ≤ w11.heap.size := hgm.size; replace HB : Hid (Below w.heap.size w w11) := HB.out.grown hgm (by omega) (fun k e => by have := lt5 k e; omega); replace HW : Hid (Own w11 w2.heap.size (.slice a3 L.length cap3) L) := HW.out.row' hgm (fun k e e' => by have := lt3 k e; have := (lt5 k e').1; omega); have HM : Hid (Own w11 w4.heap.size (.slice a5 L.length cap5) (marksL 1 L.length)) := hm; clear hgm hm HG)
    | (go_at_call 13; refine (heldByteS_any _ 1 L.length _ (HM.out.bs (by rw [marksL_len]; exact hLm)) (by omega) (by omega)).mono ?_; rintro e w12 ⟨rfl, hw⟩; obtain rfl := hw.symm)
    | (go_at_call 9; refine (toByteS_own _ l _ (HV.out.below HB.out) hl).mono ?_; rintro e w13 ⟨q13, rfl, _, _, ho13, hb⟩; have z13 : w11.heap.size ≤ w13.heap.size := hb.size; replace HB : Hid (Below w.heap.size w w13) := HB.out.trans (hb.mono (by omega)); replace HW : Hid (Own w13 w2.heap.size (.slice a3 L.length cap3) L) := HW.out.below hb; replace HM : Hid (Own w13 w4.heap.size (.slice a5 L.length cap5) (marksL 1 L.length)) := HM.out.below hb; clear hb)
    | (go_at_call 10; refine (HIm.out _ _ (ho13.bs hlm)).mono ?_; rintro e w14 ⟨a14, cap14, rfl, ho14, hb⟩; have z14 : w13.heap.size ≤ w14.heap.size := hb.size; replace HB : Hid (Below w.heap.size w w14) := HB.out.trans (hb.mono (by omega)); replace HW : Hid (Own w14 w2.heap.size (.slice a3 L.length cap3) L) := HW.out.below hb; replace HM : Hid (Own w14 w4.heap.size (.slice a5 L.length cap5) (marksL 1 L.length)) := HM.out.below hb; have HH : Hid (Own w14 w13.heap.size (.slice a14 L.length cap14) L) := ho14; clear hb ho13 ho14)
    | (go_at_call 11; refine (eqByteS_same _ _ L _ (HH.out.bs hLm) (HW.out.bs hLm)).mono ?_; rintro e w15 ⟨rfl, hb⟩; have z15 : w14.heap.size ≤ w15.heap.size := hb.size; replace HB : Hid (Below w.heap.size w w15) := HB.out.trans (hb.mono (by omega)); replace HM : Hid (Own w15 w4.heap.size (.slice a5 L.length cap5) (marksL 1 L.length)) := HM.out.below hb; clear hb HW HH))
  all_goals go_ret
  all_goals exact ⟨rfl, HB.out⟩
end Go.Proofs.Ytdobgdbceonjkab
