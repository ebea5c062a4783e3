/-
  The walk of the law FnExactTellScript.
-/
import Derived.Test.YtabnanmfojppjaaDoorSkIm
import Derived.Test.YtabnanmfojppjaaDoorSkTs
import Derived.Test.YtabnanmfojppjaaDoorSkAg
namespace Go.Proofs.YtabnanmfojppjaaDoor
open Go.RowKit Go.Shelf
set_option linter.unusedVariables false
set_option linter.unusedSimpArgs false

theorem globPow : Tryd.prog.globalNamed "internal/strconv.uint64pow10" = some 2 := by kernel_rfl
theorem tab_below {w w' : World} (h : Lib.TabIs Tryd.prog w "internal/strconv.uint64pow10" .u64 Lib.pow10Tab) (hb : Below w.heap.size w w') : Lib.TabIs Tryd.prog w' "internal/strconv.uint64pow10" .u64 Lib.pow10Tab := by
  unfold Lib.TabIs World.var? at h ⊢
  rw [globPow] at h ⊢
  simp only [Option.bind_some] at h ⊢
  rcases Nat.lt_or_ge 2 w.heap.size with hl | hl
  · rw [hb.block _ hl]; exact h
  · rw [Array.getElem?_eq_none hl] at h; cases h

set_option maxHeartbeats 16000000 in
set_option maxRecDepth 100000 in
theorem lawTellScript_walk (us uc ue ub ur ud : Int) (vd vs : Value) (ds : List Int) (ss : List Stp) {w : World} (hD : Ix w vd ds) (hS : SlAStep w vs ss) (hT : Tabs w) (hTab : Lib.TabIs Tryd.prog w "internal/strconv.uint64pow10" .u64 Lib.pow10Tab) :
    Calls Tryd.prog 3 #[.agg #[.int .i64 us, .int .i64 uc, .int .i64 ue, .int .i64 ub, .int .i64 ur, .int .i64 ud, vd, vs]] w fun e w' => e = .returned (.bool true) ∧ Below w.heap.size w w' := by
  have HD : Hid (Ix w vd ds) := hD
  have HS : Hid (SlAStep w vs ss) := hS
  have HT : Hid (Tabs w) := hT
  have HTab : Hid (∀ w', Below w.heap.size w w' → Lib.TabIs Tryd.prog w' "internal/strconv.uint64pow10" .u64 Lib.pow10Tab) := fun w' h => tab_below hTab h
  have HSz : Hid (∀ z, Ix z vd ds → SlAStep z vs ss → Calls Tryd.prog 4 #[.agg #[.int .i64 us, .int .i64 uc, .int .i64 ue, .int .i64 ub, .int .i64 ur, .int .i64 ud, vd, vs], .int .i64 1048576] z fun r w' => (∃ s : Int, r = .returned (.int .i64 s) ∧ (0 ≤ s → ds.length ≤ 1048576 ∧ ss.length ≤ 1048576 ∧ ∀ x ∈ ss, x.small)) ∧ Below z.heap.size z w') := fun z h1 h2 => szScript_sk us uc ue ub ur ud vd vs ds ss z h1 h2
  have HTo : Hid (∀ z, Ix z vd ds → Sl stC 10 z vs ss → ds.length ≤ 1048576 → ss.length ≤ 1048576 → Calls Tryd.prog 6 #[.agg #[.int .i64 us, .int .i64 uc, .int .i64 ue, .int .i64 ub, .int .i64 ur, .int .i64 ud, vd, vs]] z fun r w' => ∃ qd qs, r = .returned (.agg #[.int .i64 us, .int .i64 uc, .int .i64 ue, .int .i64 ub, .int .i64 ur, .int .i64 ud, .slice (some ⟨qd, 0, none⟩) ds.length ds.length, .slice (some ⟨qs, 0, none⟩) ss.length ss.length]) ∧ Ix w' (.slice (some ⟨qd, 0, none⟩) ds.length ds.length) ds ∧ Sl stC 10 w' (.slice (some ⟨qs, 0, none⟩) ss.length ss.length) ss ∧ Below z.heap.size z w') := fun z h1 h2 h3 h4 => toScript_sk us uc ue ub ur ud vd vs ds ss z h1 h2 h3 h4
  have HSp : Hid (∀ z v1 v2, Ix z v1 ds → Sl stC 10 z v2 ss → (∀ x ∈ ss, x.small) → Calls Tryd.prog 5 #[.agg #[.int .i64 us, .int .i64 uc, .int .i64 ue, .int .i64 ub, .int .i64 ur, .int .i64 ud, v1, v2]] z fun e w' => e = .returned (.string (tellA ⟨us, uc, ue, ub, ur, ud⟩ ds ss)) ∧ Below z.heap.size z w') := fun z v1 v2 h1 h2 h3 => sTellScript_any ⟨us, uc, ue, ub, ur, ud⟩ v1 v2 ds ss z h1 h2 (fun x hx => (h3 x hx).fits)
  have HIm : Hid (∀ z v1 v2, Ix z v1 ds → Sl stC 10 z v2 ss → (∀ x ∈ ss, x.small) → Below w.heap.size w z → Calls Tryd.prog 7 #[.agg #[.int .i64 us, .int .i64 uc, .int .i64 ue, .int .i64 ub, .int .i64 ur, .int .i64 ud, v1, v2]] z fun e w' => e = .returned (.string (tellA ⟨us, uc, ue, ub, ur, ud⟩ ds ss)) ∧ Below z.heap.size z w') := fun z v1 v2 h1 h2 h3 h4 => iTellScript_any ⟨us, uc, ue, ub, ur, ud⟩ v1 v2 ds ss z h1 h2 (fun x hx => (h3 x hx).fits) (HT.out.below h4) (fun w' h => HTab.out w' (h4.trans (h.mono h4.size)))
  have HEq : Hid (∀ z v1 v2 v3 v4, Ix z v1 ds → Sl stC 10 z v2 ss → Ix z v3 ds → Sl stC 10 z v4 ss → Calls Tryd.prog 8 #[.agg #[.int .i64 us, .int .i64 uc, .int .i64 ue, .int .i64 ub, .int .i64 ur, .int .i64 ud, v1, v2], .agg #[.int .i64 us, .int .i64 uc, .int .i64 ue, .int .i64 ub, .int .i64 ur, .int .i64 ud, v3, v4]] z fun e w' => e = .returned (.bool true) ∧ Below z.heap.size z w') := fun z v1 v2 v3 v4 h1 h2 h3 h4 => eqScript_sk us uc ue ub ur ud v1 v2 v3 v4 ds ss z h1 h2 h3 h4
  generalize tellA ⟨us, uc, ue, ub, ur, ud⟩ ds ss = A at HSp HIm
  obtain ⟨_, da, dc, rfl, _⟩ := hD
  obtain ⟨⟨_, sa, sc, rfl, _⟩, _⟩ := hS
  clear hT hTab
  have G1 : Hid True := trivial
  have G2 : Hid True := trivial
  go_enter Tryd.func3, Tryd.ntmps3
  go_wp2_with (first
    | (go_at_call 4; refine Calls.mono (HSz.out _ (HD.out.below ((Below.refl _ _).alloc (Nat.le_refl _) _)) (HS.out.below ((Below.refl _ _).alloc (Nat.le_refl _) _))) ?_; rintro e w1 ⟨⟨s, rfl, hs⟩, hb⟩; have HS1 : Hid (0 ≤ s → ds.length ≤ 1048576 ∧ ss.length ≤ 1048576 ∧ ∀ x ∈ ss, x.small) := hs; have HB : Hid (Below w.heap.size w w1) := ((Below.refl _ _).alloc (Nat.le_refl _) _).trans (hb.mono (by simp)); have BA : Hid (Blk w1 w.heap.size #[.int .i64 us, .int .i64 uc, .int .i64 ue, .int .i64 ub, .int .i64 ur, .int .i64 ud, .slice da ds.length dc, .slice sa ss.length sc] 27) := (Blk.new _ _ _).below hb (by simp); have cA := BA.out.cell; clear hb hs)
    | (have hG := G1; go_at_call 6; clear hG G1; have K := HS1.out (by omega); have K1 : ds.length ≤ 1048576 := K.1; have K2 : ss.length ≤ 1048576 := K.2.1; have K3 : Hid (∀ x ∈ ss, x.small) := K.2.2; clear K; refine Calls.mono (HTo.out _ (HD.out.below HB.out) (HS.out.sl.below HB.out) K1 K2) ?_; rintro e w2 ⟨qa, qb, rfl, hI, hSl, hb⟩; have HI2 : Hid (Ix w2 (.slice (some ⟨qa, 0, none⟩) ds.length ds.length) ds) := hI; have HL2 : Hid (Sl stC 10 w2 (.slice (some ⟨qb, 0, none⟩) ss.length ss.length) ss) := hSl; replace BA : Hid (Blk w2 w.heap.size #[.int .i64 us, .int .i64 uc, .int .i64 ue, .int .i64 ub, .int .i64 ur, .int .i64 ud, .slice da ds.length dc, .slice sa ss.length sc] 27) := BA.out.below hb BA.out.lt; replace HB : Hid (Below w.heap.size w w2) := HB.out.trans (hb.mono HB.out.size); clear hI hSl hb cA)
    | (go_at_call 5; refine Calls.mono (HSp.out _ _ _ HI2.out HL2.out K3.out) ?_; rintro e w3 ⟨rfl, hb⟩; replace BA : Hid (Blk w3 w.heap.size #[.int .i64 us, .int .i64 uc, .int .i64 ue, .int .i64 ub, .int .i64 ur, .int .i64 ud, .slice da ds.length dc, .slice sa ss.length sc] 27) := BA.out.below hb BA.out.lt; replace HB : Hid (Below w.heap.size w w3) := HB.out.trans (hb.mono HB.out.size); have cA := BA.out.cell; clear hb HI2 HL2)
    | (have hG := G2; go_at_call 6; clear hG G2; refine Calls.mono (HTo.out _ (HD.out.below HB.out) (HS.out.sl.below HB.out) K1 K2) ?_; rintro e w4 ⟨qx, qy, rfl, hI, hSl, hb⟩; have HI4 : Hid (Ix w4 (.slice (some ⟨qx, 0, none⟩) ds.length ds.length) ds) := hI; have HL4 : Hid (Sl stC 10 w4 (.slice (some ⟨qy, 0, none⟩) ss.length ss.length) ss) := hSl; replace BA : Hid (Blk w4 w.heap.size #[.int .i64 us, .int .i64 uc, .int .i64 ue, .int .i64 ub, .int .i64 ur, .int .i64 ud, .slice da ds.length dc, .slice sa ss.length sc] 27) := BA.out.below hb BA.out.lt; replace HB : Hid (Below w.heap.size w w4) := HB.out.trans (hb.mono HB.out.size); have G3 : Hid True := trivial; have G4 : Hid True := trivial; clear hI hSl hb cA)
    | (have hBA := G3; refine gate_st 33 (.tmp 5) _ rfl ?_; clear hBA; refine wpl_store_last rfl 33 (.tmp 5) _ rfl (w4.heap.size) rfl rfl rfl sizeSc rfl rfl (by simp [Value.oneCell']) ?_; clear G3)
    | (have hBA := G4; refine gate_ld 33 (.tmp 5) rfl ?_; clear hBA; refine wpl_load_blk rfl 33 (.tmp 5) rfl (w4.heap.size) rfl (Blk.new _ _ _) Tryd.underlying33 rfl sizeSc rfl ?_; clear G4)
    | (go_at_call 7; refine Calls.mono (HIm.out _ _ _ (HI4.out.below ((Below.refl _ _).alloc (Nat.le_refl _) _)) (HL4.out.below ((Below.refl _ _).alloc (Nat.le_refl _) _)) K3.out (HB.out.alloc (by have := HB.out.size; omega) _)) ?_; rintro e w5 ⟨rfl, hb⟩; have hbb : Below w4.heap.size w4 w5 := ((Below.refl _ _).alloc (Nat.le_refl _) _).trans (hb.mono (by simp)); have BX : Hid (Blk w5 w4.heap.size #[.int .i64 us, .int .i64 uc, .int .i64 ue, .int .i64 ub, .int .i64 ur, .int .i64 ud, .slice (some ⟨qx, 0, none⟩) ds.length ds.length, .slice (some ⟨qy, 0, none⟩) ss.length ss.length] 33) := (Blk.new _ _ _).below hb (by simp); replace BA : Hid (Blk w5 w.heap.size #[.int .i64 us, .int .i64 uc, .int .i64 ue, .int .i64 ub, .int .i64 ur, .int .i64 ud, .slice da ds.length dc, .slice sa ss.length sc] 27) := BA.out.below hbb BA.out.lt; replace HB : Hid (Below w.heap.size w w5) := HB.out.trans (hbb.mono HB.out.size); have HI5 : Hid (Ix w5 (.slice (some ⟨qx, 0, none⟩) ds.length ds.length) ds) := HI4.out.below hbb; have HL5 : Hid (Sl stC 10 w5 (.slice (some ⟨qy, 0, none⟩) ss.length ss.length) ss) := HL4.out.below hbb; clear hb hbb HI4 HL4))
  · go_ret
    exact ⟨rfl, HB.out⟩
  have a0 : w5.cell? ⟨w.heap.size, 0, none⟩ = some (.int .i64 us) := BA.out.cell 0
  have a1 : w5.cell? ⟨w.heap.size, 1, none⟩ = some (.int .i64 uc) := BA.out.cell 1
  have a2 : w5.cell? ⟨w.heap.size, 2, none⟩ = some (.int .i64 ue) := BA.out.cell 2
  have a3 : w5.cell? ⟨w.heap.size, 3, none⟩ = some (.int .i64 ub) := BA.out.cell 3
  have a4 : w5.cell? ⟨w.heap.size, 4, none⟩ = some (.int .i64 ur) := BA.out.cell 4
  have a5 : w5.cell? ⟨w.heap.size, 5, none⟩ = some (.int .i64 ud) := BA.out.cell 5
  have a6 : w5.cell? ⟨w.heap.size, 6, none⟩ = some (.slice da ds.length dc) := BA.out.cell 6
  have a7 : w5.cell? ⟨w.heap.size, 7, none⟩ = some (.slice sa ss.length sc) := BA.out.cell 7
  have x0 : w5.cell? ⟨w4.heap.size, 0, none⟩ = some (.int .i64 us) := BX.out.cell 0
  have x1 : w5.cell? ⟨w4.heap.size, 1, none⟩ = some (.int .i64 uc) := BX.out.cell 1
  have x2 : w5.cell? ⟨w4.heap.size, 2, none⟩ = some (.int .i64 ue) := BX.out.cell 2
  have x3 : w5.cell? ⟨w4.heap.size, 3, none⟩ = some (.int .i64 ub) := BX.out.cell 3
  have x4 : w5.cell? ⟨w4.heap.size, 4, none⟩ = some (.int .i64 ur) := BX.out.cell 4
  have x5 : w5.cell? ⟨w4.heap.size, 5, none⟩ = some (.int .i64 ud) := BX.out.cell 5
  have x6 : w5.cell? ⟨w4.heap.size, 6, none⟩ = some (.slice (some ⟨qx, 0, none⟩) ds.length ds.length) := BX.out.cell 6
  have x7 : w5.cell? ⟨w4.heap.size, 7, none⟩ = some (.slice (some ⟨qy, 0, none⟩) ss.length ss.length) := BX.out.cell 7
  have hla : w.heap.size < w5.heap.size := BA.out.lt
  have hlx : w4.heap.size < w5.heap.size := BX.out.lt
  have hzz := HB.out.size
  go_region_held3 (fun w' => w'.cell? ⟨w.heap.size, 0, none⟩ = some (.int .i64 us) ∧ w'.cell? ⟨w.heap.size, 1, none⟩ = some (.int .i64 uc) ∧ w'.cell? ⟨w.heap.size, 2, none⟩ = some (.int .i64 ue) ∧ w'.cell? ⟨w.heap.size, 3, none⟩ = some (.int .i64 ub) ∧ w'.cell? ⟨w.heap.size, 4, none⟩ = some (.int .i64 ur) ∧ w'.cell? ⟨w.heap.size, 5, none⟩ = some (.int .i64 ud) ∧ w'.cell? ⟨w.heap.size, 6, none⟩ = some (.slice da ds.length dc) ∧ w'.cell? ⟨w.heap.size, 7, none⟩ = some (.slice sa ss.length sc) ∧ w'.cell? ⟨w4.heap.size, 0, none⟩ = some (.int .i64 us) ∧ w'.cell? ⟨w4.heap.size, 1, none⟩ = some (.int .i64 uc) ∧ w'.cell? ⟨w4.heap.size, 2, none⟩ = some (.int .i64 ue) ∧ w'.cell? ⟨w4.heap.size, 3, none⟩ = some (.int .i64 ub) ∧ w'.cell? ⟨w4.heap.size, 4, none⟩ = some (.int .i64 ur) ∧ w'.cell? ⟨w4.heap.size, 5, none⟩ = some (.int .i64 ud) ∧ w'.cell? ⟨w4.heap.size, 6, none⟩ = some (.slice (some ⟨qx, 0, none⟩) ds.length ds.length) ∧ w'.cell? ⟨w4.heap.size, 7, none⟩ = some (.slice (some ⟨qy, 0, none⟩) ss.length ss.length)) (simp [*, go_sem])
    (first
      | (go_at_call 6; refine Calls.mono (HTo.out _ (HD.out.below (by first | exact HB.out | exact HB.out.drew)) (HS.out.sl.below (by first | exact HB.out | exact HB.out.drew)) K1 K2) ?_; rintro e w6 ⟨qz, qt, rfl, hI, hSl, hb6⟩; have HI6 : Hid (Ix w6 (.slice (some ⟨qz, 0, none⟩) ds.length ds.length) ds) := hI; have HL6 : Hid (Sl stC 10 w6 (.slice (some ⟨qt, 0, none⟩) ss.length ss.length) ss) := hSl; have HB6 : Hid (Below w5.heap.size w5 w6) := (by first | exact hb6 | exact (Below.refl _ _).drew.trans hb6 | exact (Below.refl _ _).drew.drew.trans hb6); have z1 := fun (q : Nat) => hb6.cell (p := ⟨w.heap.size, q, none⟩) hla; have z2 := fun (q : Nat) => hb6.cell (p := ⟨w4.heap.size, q, none⟩) hlx; clear hI hSl)
      | (go_at_call 8; refine Calls.mono (HEq.out _ _ _ _ _ (HI5.out.below HB6.out) (HL5.out.below HB6.out) HI6.out HL6.out) ?_; rintro e w7 ⟨rfl, hb7⟩; have HB7 : Below w5.heap.size w5 w7 := HB6.out.trans (by first | exact hb7.mono HB6.out.size | exact ((Below.refl _ _).drew.trans hb7).mono HB6.out.size); have z3 := fun (q : Nat) => HB7.cell (p := ⟨w.heap.size, q, none⟩) hla; have z4 := fun (q : Nat) => HB7.cell (p := ⟨w4.heap.size, q, none⟩) hlx))
  all_goals go_wp2
  all_goals go_ret
  all_goals exact ⟨rfl, HB.out.trans (HB7.mono hzz)⟩
end Go.Proofs.YtabnanmfojppjaaDoor
