/-
  spec.l7scriptOk.
-/
import Derived.Test.YtabnanmfojppjaaDoorSkStA
import Derived.Deep.RegionHeld3
namespace Go.Proofs.YtabnanmfojppjaaDoor
open Go.RowKit
set_option linter.unusedVariables false
set_option linter.unusedSimpArgs false

theorem all_takeS {α : Type} {l : List α} {k : Nat} (h : k < l.length) (p : α → Bool) (h1 : (l.take k).all p = true) (h2 : p l[k] = true) : (l.take (k + 1)).all p = true := by
  rw [List.take_succ_eq_append_getElem h, List.all_append, h1]; simp [h2]
theorem all_noS {α : Type} {l : List α} {k : Nat} (h : k < l.length) (p : α → Bool) (h2 : p l[k] = false) : l.all p = false := by
  cases e : l.all p
  · rfl
  · rw [List.all_eq_true] at e; rw [e _ (List.getElem_mem h)] at h2; cases h2
theorem Stp.fits.all {l : List Stp} (h : ∀ x ∈ l, x.fits) {k : Nat} (hk : k < l.length) : l[k].fits := h _ (List.getElem_mem hk)

set_option maxHeartbeats 8000000 in
set_option maxRecDepth 100000 in
theorem l7scriptOk_any (u : Sup) (vd vs : Value) (ds : List Int) (ss : List Stp) (w : World) (hd : Ix w vd ds) (hs : Sl stC 10 w vs ss) (hf : ∀ x ∈ ss, x.fits) :
    Calls Tryd.prog 11 #[.agg #[.int .i64 u.s, .int .i64 u.c, .int .i64 u.el, .int .i64 u.b, .int .i64 u.r, .int .i64 u.d, vd, vs]] w fun e w' => e = .returned (.bool (scOk u ds ss)) ∧ Below w.heap.size w w' := by
  obtain ⟨hdl, da, dc, rfl, hdc⟩ := hd
  obtain ⟨hsl, sa, sc, rfl, hsc⟩ := hs
  have HD : Hid (∀ i, i < ds.length → ∃ b off, da = some ⟨b, off, none⟩ ∧ ∀ j (h : j < ds.length), w.cell? ⟨b, off + j, none⟩ = some (.int .i64 ds[j])) := hdc
  have HS : Hid (∀ i, i < ss.length → ∃ b off, sa = some ⟨b, off, none⟩ ∧ ∀ j (h : j < ss.length), w.rangeAt b (off + j * 10) (stC ss[j])) := hsc
  have HF : Hid (∀ x ∈ ss, x.fits) := hf
  clear hdc hsc hf
  unfold maxLen at hdl hsl
  have HK : Hid (scOk u ds ss = (decide (setF u.s u.c u.el u.b u.r u.d = 0) && decide (ds.length ≤ 4096) && decide (ss.length ≤ 4096) && ds.all (fun n => inB n 0 1073741824) && ss.all (stOk u.s u.c))) := rfl
  have HU : Hid (∀ x, Calls Tryd.prog 30 #[.agg #[.int .i64 u.s, .int .i64 u.c, .int .i64 u.el, .int .i64 u.b, .int .i64 u.r, .int .i64 u.d]] x fun e w' => e = .returned (.int .i64 (setF u.s u.c u.el u.b u.r u.d)) ∧ Below x.heap.size x w') := fun x => sSetupFault_any _ _ _ _ _ _ x
  generalize scOk u ds ss = R at HK
  generalize setF u.s u.c u.el u.b u.r u.d = F at HK HU
  by_cases hF : F = 0
  case neg =>
    go_enter Tryd.func11, Tryd.ntmps11
    go_wp2_with (go_at_call 30; refine (HU.out _).mono ?_; rintro e w1 ⟨rfl, hb⟩)
    all_goals go_ret
    all_goals exact ⟨by rw [HK.out]; go_light; simp [hF], ((Below.refl _ _).alloc (Nat.le_refl _) _).trans (hb.mono (by simp))⟩
  subst hF
  by_cases hd4 : ds.length ≤ 4096
  case neg =>
    have hd4' : (4096 : Int) < (ds.length : Int) := by omega
    go_enter Tryd.func11, Tryd.ntmps11
    go_wp2_with (go_at_call 30; refine (HU.out _).mono ?_; rintro e w1 ⟨rfl, hb⟩; have b6 : w1.cell? ⟨w.heap.size, 6, none⟩ = some (.slice da ds.length dc) := (hb.cell (p := ⟨w.heap.size, 6, none⟩) (by simp)).trans (by simp [go_sem]))
    all_goals go_ret
    all_goals exact ⟨by rw [HK.out]; go_light; simp [hd4], ((Below.refl _ _).alloc (Nat.le_refl _) _).trans (hb.mono (by simp))⟩
  have hd4' : ¬ (4096 : Int) < (ds.length : Int) := by omega
  by_cases hs4 : ss.length ≤ 4096
  case neg =>
    have hs4' : (4096 : Int) < (ss.length : Int) := by omega
    go_enter Tryd.func11, Tryd.ntmps11
    go_wp2_with (go_at_call 30; refine (HU.out _).mono ?_; rintro e w1 ⟨rfl, hb⟩; have b6 : w1.cell? ⟨w.heap.size, 6, none⟩ = some (.slice da ds.length dc) := (hb.cell (p := ⟨w.heap.size, 6, none⟩) (by simp)).trans (by simp [go_sem]); have b7 : w1.cell? ⟨w.heap.size, 7, none⟩ = some (.slice sa ss.length sc) := (hb.cell (p := ⟨w.heap.size, 7, none⟩) (by simp)).trans (by simp [go_sem]))
    all_goals go_ret
    all_goals exact ⟨by rw [HK.out]; go_light; simp [hs4], ((Below.refl _ _).alloc (Nat.le_refl _) _).trans (hb.mono (by simp))⟩
  have hs4' : ¬ (4096 : Int) < (ss.length : Int) := by omega
  replace HK : Hid (R = (ds.all (fun n => inB n 0 1073741824) && ss.all (stOk u.s u.c))) := by
    unfold Hid
    rw [HK.out]
    simp [hd4, hs4]
  go_enter Tryd.func11, Tryd.ntmps11
  go_wp2_with (go_at_call 30; refine (HU.out _).mono ?_; rintro e w1 ⟨rfl, hb⟩; have b6 : w1.cell? ⟨w.heap.size, 6, none⟩ = some (.slice da ds.length dc) := (hb.cell (p := ⟨w.heap.size, 6, none⟩) (by simp)).trans (by simp [go_sem]); have b7 : w1.cell? ⟨w.heap.size, 7, none⟩ = some (.slice sa ss.length sc) := (hb.cell (p := ⟨w.heap.size, 7, none⟩) (by simp)).trans (by simp [go_sem]))
  have HW : Hid (Below w.heap.size w (w.alloc (.cells #[.int .i64 u.s, .int .i64 u.c, .int .i64 u.el, .int .i64 u.b, .int .i64 u.r, .int .i64 u.d, .slice da ds.length dc, .slice sa ss.length sc] 33))) := (Below.refl _ _).alloc (Nat.le_refl _) _
  have hW : (w.alloc (.cells #[.int .i64 u.s, .int .i64 u.c, .int .i64 u.el, .int .i64 u.b, .int .i64 u.r, .int .i64 u.d, .slice da ds.length dc, .slice sa ss.length sc] 33)).heap.size = w.heap.size + 1 := by simp
  clear b6 b7
  go_loopw [3] (fun i wr => ∃ k : Nat, k ≤ ds.length ∧ i = .int .i64 k ∧ (ds.take k).all (fun n => inB n 0 1073741824) = true ∧ Below (w.alloc (.cells #[.int .i64 u.s, .int .i64 u.c, .int .i64 u.el, .int .i64 u.b, .int .i64 u.r, .int .i64 u.d, .slice da ds.length dc, .slice sa ss.length sc] 33)).heap.size (w.alloc (.cells #[.int .i64 u.s, .int .i64 u.c, .int .i64 u.el, .int .i64 u.b, .int .i64 u.r, .int .i64 u.d, .slice da ds.length dc, .slice sa ss.length sc] 33)) wr) (fun i _ => ds.length - (intOf i).toNat)
  case atStart => exact ⟨0, Nat.zero_le _, rfl, rfl, hb⟩
  case round =>
    obtain ⟨k, hk, rfl, hA, hB⟩ := hrel
    have HA : Hid ((ds.take k).all (fun n => inB n 0 1073741824) = true) := hA
    have HB : Hid (Below (w.alloc (.cells #[.int .i64 u.s, .int .i64 u.c, .int .i64 u.el, .int .i64 u.b, .int .i64 u.r, .int .i64 u.d, .slice da ds.length dc, .slice sa ss.length sc] 33)).heap.size (w.alloc (.cells #[.int .i64 u.s, .int .i64 u.c, .int .i64 u.el, .int .i64 u.b, .int .i64 u.r, .int .i64 u.d, .slice da ds.length dc, .slice sa ss.length sc] 33)) wr) := hB
    have b6 : wr.cell? ⟨w.heap.size, 6, none⟩ = some (.slice da ds.length dc) := (hB.cell (p := ⟨w.heap.size, 6, none⟩) (by simp)).trans (by simp [go_sem])
    clear hA hB hb
    by_cases hlt : k < ds.length
    · obtain ⟨b, off, rfl, hj⟩ := HD.out k hlt
      have hcell : wr.cell? ⟨b, off + k, none⟩ = some (.int .i64 ds[k]) := by
        have h1 := hj k hlt
        rw [HB.out.cell (p := ⟨b, off + k, none⟩) (by have := cell_lt h1; show b < _; rw [hW]; omega), HW.out.cell (p := ⟨b, off + k, none⟩) (cell_lt h1)]
        exact h1
      have HN : Hid (inB ds[k] 0 1073741824 = true → (ds.take (k + 1)).all (fun n => inB n 0 1073741824) = true) := fun h => all_takeS hlt _ HA.out h
      have HO : Hid (inB ds[k] 0 1073741824 = false → ds.all (fun n => inB n 0 1073741824) = false) := fun h => all_noS hlt _ h
      have hkl : (k : Int) < (ds.length : Int) := by omega
      clear hj
      generalize ds[k] = n at hcell HN HO
      cases hin : inB n 0 1073741824
      · go_wp2_with (go_at_call 31; refine (l1in_any _ _ _ _).mono ?_; rintro e w' ⟨rfl, rfl⟩)
        all_goals go_ret
        all_goals exact ⟨by rw [HK.out, HO.out hin]; rfl, HW.out.trans (HB.out.mono (by rw [hW]; omega))⟩
      · go_wp2_with (go_at_call 31; refine (l1in_any _ _ _ _).mono ?_; rintro e w' ⟨rfl, rfl⟩)
        go_roundw
        case rel => exact ⟨k + 1, by omega, by go_num, HN.out hin, HB.out⟩
        case measure => simp [intOf]; omega
    · obtain rfl : k = ds.length := by omega
      rw [List.take_length] at HA
      replace HK : Hid (R = ss.all (stOk u.s u.c)) := by
        unfold Hid
        rw [HK.out, HA.out]
        rfl
      go_wp2
      clear b6
      have HB0 := HB
      go_loopw [4] (fun i wr => ∃ k : Nat, k ≤ ss.length ∧ i = .int .i64 k ∧ (ss.take k).all (stOk u.s u.c) = true ∧ Below (w.alloc (.cells #[.int .i64 u.s, .int .i64 u.c, .int .i64 u.el, .int .i64 u.b, .int .i64 u.r, .int .i64 u.d, .slice da ds.length dc, .slice sa ss.length sc] 33)).heap.size (w.alloc (.cells #[.int .i64 u.s, .int .i64 u.c, .int .i64 u.el, .int .i64 u.b, .int .i64 u.r, .int .i64 u.d, .slice da ds.length dc, .slice sa ss.length sc] 33)) wr) (fun i _ => ss.length - (intOf i).toNat)
      case atStart => exact ⟨0, Nat.zero_le _, rfl, rfl, HB.out⟩
      case round =>
        obtain ⟨k, hk, rfl, hA, hB⟩ := hrel
        have HA2 : Hid ((ss.take k).all (stOk u.s u.c) = true) := hA
        have HB2 : Hid (Below (w.alloc (.cells #[.int .i64 u.s, .int .i64 u.c, .int .i64 u.el, .int .i64 u.b, .int .i64 u.r, .int .i64 u.d, .slice da ds.length dc, .slice sa ss.length sc] 33)).heap.size (w.alloc (.cells #[.int .i64 u.s, .int .i64 u.c, .int .i64 u.el, .int .i64 u.b, .int .i64 u.r, .int .i64 u.d, .slice da ds.length dc, .slice sa ss.length sc] 33)) wr) := hB
        have b0 : wr.cell? ⟨w.heap.size, 0, none⟩ = some (.int .i64 u.s) := (hB.cell (p := ⟨w.heap.size, 0, none⟩) (by simp)).trans (by simp [go_sem])
        have b1 : wr.cell? ⟨w.heap.size, 1, none⟩ = some (.int .i64 u.c) := (hB.cell (p := ⟨w.heap.size, 1, none⟩) (by simp)).trans (by simp [go_sem])
        have b2 : wr.cell? ⟨w.heap.size, 2, none⟩ = some (.int .i64 u.el) := (hB.cell (p := ⟨w.heap.size, 2, none⟩) (by simp)).trans (by simp [go_sem])
        have b3 : wr.cell? ⟨w.heap.size, 3, none⟩ = some (.int .i64 u.b) := (hB.cell (p := ⟨w.heap.size, 3, none⟩) (by simp)).trans (by simp [go_sem])
        have b4 : wr.cell? ⟨w.heap.size, 4, none⟩ = some (.int .i64 u.r) := (hB.cell (p := ⟨w.heap.size, 4, none⟩) (by simp)).trans (by simp [go_sem])
        have b5 : wr.cell? ⟨w.heap.size, 5, none⟩ = some (.int .i64 u.d) := (hB.cell (p := ⟨w.heap.size, 5, none⟩) (by simp)).trans (by simp [go_sem])
        have b7 : wr.cell? ⟨w.heap.size, 7, none⟩ = some (.slice sa ss.length sc) := (hB.cell (p := ⟨w.heap.size, 7, none⟩) (by simp)).trans (by simp [go_sem])
        clear hA hB HB HB0
        by_cases hlt2 : k < ss.length
        · obtain ⟨b, off, rfl, hj⟩ := HS.out k hlt2
          have hr : wr.rangeAt b (off + k * 10) (stC ss[k]) := range_below (range_below (hj k hlt2) HW.out) (HB2.out)
          have hbl : b < wr.heap.size := cell_lt (hr 0 _ rfl)
          have c0 : wr.cell? ⟨b, off + k * 10, none⟩ = some (.int .i64 ss[k].kd) := hr 0 _ rfl
          have c1 : wr.cell? ⟨b, off + k * 10 + 1, none⟩ = some (.int .i64 ss[k].a) := hr 1 _ rfl
          have c2 : wr.cell? ⟨b, off + k * 10 + 2, none⟩ = some (.int .i64 ss[k].b) := hr 2 _ rfl
          have c3 : wr.cell? ⟨b, off + k * 10 + 3, none⟩ = some (.int .i64 ss[k].c) := hr 3 _ rfl
          have c4 : wr.cell? ⟨b, off + k * 10 + 4, none⟩ = some (.int .i64 ss[k].cl) := hr 4 _ rfl
          have c5 : wr.cell? ⟨b, off + k * 10 + 5, none⟩ = some (.int .i64 ss[k].sq) := hr 5 _ rfl
          have c6 : wr.cell? ⟨b, off + k * 10 + 6, none⟩ = some (.int .i64 ss[k].op) := hr 6 _ rfl
          have c7 : wr.cell? ⟨b, off + k * 10 + 7, none⟩ = some (.string ss[k].k) := hr 7 _ rfl
          have c8 : wr.cell? ⟨b, off + k * 10 + 8, none⟩ = some (.string ss[k].v) := hr 8 _ rfl
          have c9 : wr.cell? ⟨b, off + k * 10 + 9, none⟩ = some (.string ss[k].o) := hr 9 _ rfl
          have HN : Hid (stOk u.s u.c ss[k] = true → (ss.take (k + 1)).all (stOk u.s u.c) = true) := fun h => all_takeS hlt2 _ HA2.out h
          have HO : Hid (stOk u.s u.c ss[k] = false → ss.all (stOk u.s u.c) = false) := fun h => all_noS hlt2 _ h
          have HE : Hid (∀ x, Calls Tryd.prog 32 #[.agg #[.int .i64 u.s, .int .i64 u.c, .int .i64 u.el, .int .i64 u.b, .int .i64 u.r, .int .i64 u.d], .agg #[.int .i64 ss[k].kd, .int .i64 ss[k].a, .int .i64 ss[k].b, .int .i64 ss[k].c, .int .i64 ss[k].cl, .int .i64 ss[k].sq, .int .i64 ss[k].op, .string ss[k].k, .string ss[k].v, .string ss[k].o]] x fun e w' => e = .returned (.bool (stOk u.s u.c ss[k])) ∧ Below x.heap.size x w') := fun x => l7stepOk_any u.s u.c u.el u.b u.r u.d ss[k] (Stp.fits.all HF.out hlt2) x
          have hkl : (k : Int) < (ss.length : Int) := by omega
          have hzr : w.heap.size < wr.heap.size := by have := HB2.out.size; rw [hW] at this; omega
          clear hj hr
          generalize stOk u.s u.c ss[k] = y at HN HO HE
          generalize ss[k] = x at c0 c1 c2 c3 c4 c5 c6 c7 c8 c9 HE
          go_wp2
          go_region_held3 (fun w' => w'.cell? ⟨w.heap.size, 0, none⟩ = some (.int .i64 u.s) ∧ w'.cell? ⟨w.heap.size, 1, none⟩ = some (.int .i64 u.c) ∧ w'.cell? ⟨w.heap.size, 2, none⟩ = some (.int .i64 u.el) ∧ w'.cell? ⟨w.heap.size, 3, none⟩ = some (.int .i64 u.b) ∧ w'.cell? ⟨w.heap.size, 4, none⟩ = some (.int .i64 u.r) ∧ w'.cell? ⟨w.heap.size, 5, none⟩ = some (.int .i64 u.d) ∧ w'.cell? ⟨w.heap.size, 7, none⟩ = some (.slice (some ⟨b, off, none⟩) ss.length sc) ∧ w'.cell? ⟨b, off + k * 10, none⟩ = some (.int .i64 x.kd) ∧ w'.cell? ⟨b, off + k * 10 + 1, none⟩ = some (.int .i64 x.a) ∧ w'.cell? ⟨b, off + k * 10 + 2, none⟩ = some (.int .i64 x.b) ∧ w'.cell? ⟨b, off + k * 10 + 3, none⟩ = some (.int .i64 x.c) ∧ w'.cell? ⟨b, off + k * 10 + 4, none⟩ = some (.int .i64 x.cl) ∧ w'.cell? ⟨b, off + k * 10 + 5, none⟩ = some (.int .i64 x.sq) ∧ w'.cell? ⟨b, off + k * 10 + 6, none⟩ = some (.int .i64 x.op) ∧ w'.cell? ⟨b, off + k * 10 + 7, none⟩ = some (.string x.k) ∧ w'.cell? ⟨b, off + k * 10 + 8, none⟩ = some (.string x.v) ∧ w'.cell? ⟨b, off + k * 10 + 9, none⟩ = some (.string x.o)) (simp [*, go_sem])
            (first
              | (go_at_call 32; refine Calls.mono (HE.out _) ?_; rintro e w3 ⟨rfl, hb3⟩; have q1 := fun (o : Nat) => hb3.cell (p := ⟨w.heap.size, o, none⟩) (show w.heap.size < wr.heap.size by omega); have q2 := fun (o : Nat) => hb3.cell (p := ⟨b, o, none⟩) (show b < wr.heap.size by omega)))
          have HB3 : Hid (Below (w.alloc (.cells #[.int .i64 u.s, .int .i64 u.c, .int .i64 u.el, .int .i64 u.b, .int .i64 u.r, .int .i64 u.d, .slice da ds.length dc, .slice (some ⟨b, off, none⟩) ss.length sc] 33)).heap.size (w.alloc (.cells #[.int .i64 u.s, .int .i64 u.c, .int .i64 u.el, .int .i64 u.b, .int .i64 u.r, .int .i64 u.d, .slice da ds.length dc, .slice (some ⟨b, off, none⟩) ss.length sc] 33)) w3) := HB2.out.trans ((((Below.refl _ _).drew).trans (hb3.mono (Nat.le_refl _))).mono HB2.out.size)
          cases y
          · go_wp2
            go_ret
            exact ⟨by rw [HK.out, HO.out (by trivial)]; rfl, HW.out.trans (HB3.out.mono (by rw [hW]; omega))⟩
          · go_wp2
            go_roundw
            case rel => exact ⟨k + 1, by omega, by go_num, HN.out (by trivial), HB3.out⟩
            case measure => simp [intOf]; omega
        · obtain rfl : k = ss.length := by omega
          rw [List.take_length] at HA2
          go_wp2
          go_ret
          exact ⟨by rw [HK.out, HA2.out]; rfl, HW.out.trans (HB2.out.mono (by rw [hW]; omega))⟩
end Go.Proofs.YtabnanmfojppjaaDoor
