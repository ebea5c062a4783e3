/-
  The walk of the law FnExactEncodeRecords.
-/
import Derived.Test.YtdobgdbceonjkaeDoorFrames
import Derived.Test.YtdobgdbceonjkaeDoorMarkRecs
namespace Go.Proofs.YtdobgdbceonjkaeDoor
open Go.RowKit
set_option linter.unusedVariables false

theorem Own.rowR {w w' : World} {row : Option Nat} {B : Nat} {v : Value} {l : List Int} (h : Own w B v l) (hg : w.grownBy w' row) (hne : ∀ k, v.ownBlock = some k → row ≠ some k) : Own w' B v l := by
  refine ⟨h.1, h.2.1, ?_⟩
  rcases h.2.2 with h | ⟨g, cap, cur, hv, hg', hh, r⟩
  · exact .inl h
  · exact .inr ⟨g, cap, cur, hv, hg', (hg.block g (heap_lt hh) (fun e => hne g (by rw [hv]; rfl) e.symm)).trans hh, r⟩

theorem toRecordS_new (v : Value) (l : List Rec) (w : World) (hv : Sl Rec.cells 11 w v l) (hl' : l.length ≤ 1048576) :
    Calls Tryd.prog 15 #[v] w fun x w' => ∃ q, w.heap.size ≤ q ∧ q < w'.heap.size ∧ x = .returned (.slice (some ⟨q, 0, none⟩) l.length l.length) ∧ Sl Rec.cells 11 w' (.slice (some ⟨q, 0, none⟩) l.length l.length) l ∧ w'.there q 0 (l.length * 11) ∧ Below w.heap.size w w' :=
  (toRecordS_any v l w hv hl').mono fun x w' ⟨h1, h2⟩ => ⟨_, Nat.le_refl _, h2.size, h1, h2.sl (by unfold maxLen; omega), h2.there, h2.below⟩

set_option maxHeartbeats 8000000 in
set_option maxRecDepth 100000 in
theorem lawEncodeRecords_walk (v : Value) (l : List Rec) (w : World) (hv : Sl Rec.cells 11 w v l) (hf : ∀ r ∈ l, r.e.fits) (A : Addr) (hG : w.cell? ⟨2, 0, none⟩ = some (sentR A)) :
    Calls Tryd.prog 4 #[v] w fun e w' => e = .returned (.bool true) ∧ Below w.heap.size w w' := by
  have hgl := cell_lt hG
  have HV : Hid (Sl Rec.cells 11 w v l) := hv
  have HSz : Hid (∀ u, Sl Rec.cells 11 u v l → Calls Tryd.prog 13 #[v, .int .i64 1048576] u fun r w' => (∃ s : Int, r = .returned (.int .i64 s) ∧ s ≤ 1048576 ∧ (0 ≤ s → l.length ≤ 1048576)) ∧ Below u.heap.size u w') := fun u h => szRecordS_any v l u h hf
  have HSp : Hid (∀ u x, Sl Rec.cells 11 u x l → Calls Tryd.prog 14 #[x] u fun e w' => ∃ v', e = .returned v' ∧ Own w' u.heap.size v' (encRecs l) ∧ Below u.heap.size u w') := fun u x h => sEncodeRecords_any x l u h hf
  have HIm : Hid (∀ u x, Below w.heap.size w u → Sl Rec.cells 11 u x l → Calls Tryd.prog 16 #[x] u fun e w' => ∃ v', e = .returned v' ∧ Own w' u.heap.size v' (encRecs l) ∧ Below u.heap.size u w') := fun u x hb h => encodeRecords_any x l u h hf A ((hb.cell (p := ⟨2, 0, none⟩) hgl).trans hG)
  have hL := encRecs_len l
  obtain ⟨hml, a0, cap0, rfl, hcell⟩ := hv
  clear hcell hf
  generalize encRecs l = L at *
  have hLm : L.length ≤ maxLen := by unfold maxLen; omega
  have HB : Hid (Below w.heap.size w w) := Below.refl _ _
  by_cases hl : l.length ≤ 1048576
  case neg =>
    go_enter Tryd.func4, Tryd.ntmps4
    go_wp2_with (go_at_call 13; refine (HSz.out _ HV.out).mono ?_; rintro e w1 ⟨⟨s, rfl, hs, hs'⟩, hb⟩; have hneg : s < 0 := Int.not_le.1 (fun h => hl (hs' h)); clear hs')
    go_ret
    exact ⟨rfl, hb⟩
  have g1 : True := trivial
  have g2 : True := trivial
  have g3 : True := trivial
  have g4 : True := trivial
  have g5 : True := trivial
  have g6 : True := trivial
  have g7 : True := trivial
  go_enter Tryd.func4, Tryd.ntmps4
  go_wp2_with (first
    | (go_at_call 13; refine (HSz.out _ HV.out).mono ?_; rintro e w1 ⟨⟨s, rfl, hs, _⟩, hb⟩; have z1 : w.heap.size ≤ w1.heap.size := hb.size; replace HB : Hid (Below w.heap.size w w1) := hb; clear hb)
    | (go_at_call 15; clear g1; refine (toRecordS_new _ l _ (HV.out.below HB.out) hl).mono ?_; rintro e w2 ⟨q2, _, _, rfl, hs2, _, hb⟩; have z2 : w1.heap.size ≤ w2.heap.size := hb.size; replace HB : Hid (Below w.heap.size w w2) := HB.out.trans (hb.mono (by omega)); clear hb)
    | (go_at_call 14; refine (HSp.out _ _ hs2).mono ?_; rintro e w3 ⟨v3, rfl, ho3, hb⟩; have z3 : w2.heap.size ≤ w3.heap.size := hb.size; have lt3 := fun k e => (ho3.2.lt k e).2; replace HB : Hid (Below w.heap.size w w3) := HB.out.trans (hb.mono (by omega)); have HW : Hid (Own w3 w2.heap.size v3 L) := ho3; clear hb hs2 ho3)
    | (go_at_call 15; clear g2; refine (toRecordS_new _ l _ (HV.out.below HB.out) hl).mono ?_; rintro e w4 ⟨q4, q4a, q4b, rfl, hs4, ht4, hb⟩; have z4 : w3.heap.size ≤ w4.heap.size := hb.size; replace HB : Hid (Below w.heap.size w w4) := HB.out.trans (hb.mono (by omega)); replace HW : Hid (Own w4 w2.heap.size v3 L) := HW.out.below hb; have HX : Hid (Sl Rec.cells 11 w4 (.slice (some ⟨q4, 0, none⟩) l.length l.length) l) := hs4; have HT : Hid (w4.there q4 0 (l.length * 11)) := ht4; clear hb hs4 ht4)
    | (go_at_call 16; clear g3; refine (HIm.out _ _ HB.out HX.out).mono ?_; rintro e w5 ⟨v5, rfl, ho5, hb⟩; have z5 : w4.heap.size ≤ w5.heap.size := hb.size; have lt5 := fun k e => (ho5.2.lt k e); replace HB : Hid (Below w.heap.size w w5) := HB.out.trans (hb.mono (by omega)); replace HW : Hid (Own w5 w2.heap.size v3 L) := HW.out.below hb; replace HX : Hid (Sl Rec.cells 11 w5 (.slice (some ⟨q4, 0, none⟩) l.length l.length) l) := HX.out.below hb; replace HT : Hid (w5.there q4 0 (l.length * 11)) := there_below HT.out hb (by omega); have HGg : Hid (Own w5 w4.heap.size v5 L) := ho5; clear hb ho5)
    | (go_at_call 9; clear g4; refine (eqByteS_same _ _ L _ (HGg.out.bs hLm) (HW.out.bs hLm)).mono ?_; rintro e w6 ⟨rfl, hb⟩; have z6 : w5.heap.size ≤ w6.heap.size := hb.size; replace HB : Hid (Below w.heap.size w w6) := HB.out.trans (hb.mono (by omega)); replace HW : Hid (Own w6 w2.heap.size v3 L) := HW.out.below hb; replace HX : Hid (Sl Rec.cells 11 w6 (.slice (some ⟨q4, 0, none⟩) l.length l.length) l) := HX.out.below hb; replace HT : Hid (w6.there q4 0 (l.length * 11)) := there_below HT.out hb (by omega); replace HGg : Hid (Own w6 w4.heap.size v5 L) := HGg.out.below hb; clear hb)
    | (go_at_call 15; clear g5; refine (toRecordS_new _ l _ (HV.out.below HB.out) hl).mono ?_; rintro e w7 ⟨q7, _, _, rfl, hs7, _, hb⟩; have z7 : w6.heap.size ≤ w7.heap.size := hb.size; replace HB : Hid (Below w.heap.size w w7) := HB.out.trans (hb.mono (by omega)); replace HW : Hid (Own w7 w2.heap.size v3 L) := HW.out.below hb; replace HX : Hid (Sl Rec.cells 11 w7 (.slice (some ⟨q4, 0, none⟩) l.length l.length) l) := HX.out.below hb; replace HT : Hid (w7.there q4 0 (l.length * 11)) := there_below HT.out hb (by omega); replace HGg : Hid (Own w7 w4.heap.size v5 L) := HGg.out.below hb; clear hb)
    | (go_at_call 17; refine (eqRecordS_same _ _ l _ HX.out hs7).mono ?_; rintro e w8 ⟨rfl, hb⟩; have z8 : w7.heap.size ≤ w8.heap.size := hb.size; replace HB : Hid (Below w.heap.size w w8) := HB.out.trans (hb.mono (by omega)); replace HW : Hid (Own w8 w2.heap.size v3 L) := HW.out.below hb; replace HT : Hid (w8.there q4 0 (l.length * 11)) := there_below HT.out hb (by omega); replace HGg : Hid (Own w8 w4.heap.size v5 L) := HGg.out.below hb; clear hb hs7 HX)
    | (go_at_call 18; refine (markRecordS_any q4 l.length l.length _ HT.out (by omega) hl).mono ?_; rintro e w9 ⟨⟨mk, rfl⟩, hgm⟩; have z9 : w8.heap.size ≤ w9.heap.size := hgm.size; replace HB : Hid (Below w.heap.size w w9) := HB.out.grown hgm (by omega) (fun k e => by injection e with e; omega); replace HW : Hid (Own w9 w2.heap.size v3 L) := HW.out.rowR hgm (fun k e e' => by injection e' with e'; have := lt3 k e; omega); replace HGg : Hid (Own w9 w4.heap.size v5 L) := HGg.out.rowR hgm (fun k e e' => by injection e' with e'; have := (lt5 k e).1; omega); clear hgm HT)
    | (go_at_call 9; clear g6; refine (eqByteS_same _ _ L _ (HGg.out.bs hLm) (HW.out.bs hLm)).mono ?_; rintro e w10 ⟨rfl, hb⟩; have z10 : w9.heap.size ≤ w10.heap.size := hb.size; replace HB : Hid (Below w.heap.size w w10) := HB.out.trans (hb.mono (by omega)); replace HW : Hid (Own w10 w2.heap.size v3 L) := HW.out.below hb; replace HGg : Hid (Own w10 w4.heap.size v5 L) := HGg.out.below hb; clear hb)
    | (go_at_call 10; refine (markByteS_any _ L 1 _ _ HGg.out (by omega) (by omega)).mono ?_; rintro e w11 ⟨rfl, hm, hgm⟩; have z11 : w10.heap.size ≤ w11.heap.size := hgm.size; replace HB : Hid (Below w.heap.size w w11) := HB.out.grown hgm (by omega) (fun k e => by have := lt5 k e; omega); replace HW : Hid (Own w11 w2.heap.size v3 L) := HW.out.rowR hgm (fun k e e' => by have := lt3 k e; have := (lt5 k e').1; omega); have HM : Hid (Own w11 w4.heap.size v5 (marksL 1 L.length)) := hm; clear hgm hm HGg)
    | (go_at_call 19; refine (heldByteS_any _ 1 L.length _ (HM.out.bs (by rw [marksL_len]; exact hLm)) (by omega) (by omega)).mono ?_; rintro e w12 ⟨rfl, hw⟩; obtain rfl := hw.symm)
    | (go_at_call 15; refine (toRecordS_new _ l _ (HV.out.below HB.out) hl).mono ?_; rintro e w13 ⟨q13, _, _, rfl, hs13, _, hb⟩; have z13 : w11.heap.size ≤ w13.heap.size := hb.size; replace HB : Hid (Below w.heap.size w w13) := HB.out.trans (hb.mono (by omega)); replace HW : Hid (Own w13 w2.heap.size v3 L) := HW.out.below hb; replace HM : Hid (Own w13 w4.heap.size v5 (marksL 1 L.length)) := HM.out.below hb; clear hb)
    | (go_at_call 16; refine (HIm.out _ _ HB.out hs13).mono ?_; rintro e w14 ⟨v14, rfl, ho14, hb⟩; have z14 : w13.heap.size ≤ w14.heap.size := hb.size; replace HB : Hid (Below w.heap.size w w14) := HB.out.trans (hb.mono (by omega)); replace HW : Hid (Own w14 w2.heap.size v3 L) := HW.out.below hb; replace HM : Hid (Own w14 w4.heap.size v5 (marksL 1 L.length)) := HM.out.below hb; have HH : Hid (Own w14 w13.heap.size v14 L) := ho14; clear hb hs13 ho14)
    | (go_at_call 9; refine (eqByteS_same _ _ L _ (HH.out.bs hLm) (HW.out.bs hLm)).mono ?_; rintro e w15 ⟨rfl, hb⟩; have z15 : w14.heap.size ≤ w15.heap.size := hb.size; replace HB : Hid (Below w.heap.size w w15) := HB.out.trans (hb.mono (by omega)); replace HM : Hid (Own w15 w4.heap.size v5 (marksL 1 L.length)) := HM.out.below hb; clear hb HW HH))
  all_goals go_ret
  all_goals exact ⟨rfl, HB.out⟩
end Go.Proofs.YtdobgdbceonjkaeDoor
