/-
  impl.scriptFits.
-/
import Derived.Test.YtabnanmfojppjaaDoorSkIb
import Derived.Test.YtabnanmfojppjaaDoorIxB
import Derived.Test.YtabnanmfojppjaaDoorMidBase
namespace Go.Proofs.YtabnanmfojppjaaDoor
open Go.RowKit
set_option linter.unusedVariables false
set_option linter.unusedSimpArgs false

theorem all_takeI {α : Type} {l : List α} {k : Nat} (h : k < l.length) (p : α → Bool) (h1 : (l.take k).all p = true) (h2 : p l[k] = true) : (l.take (k + 1)).all p = true := by
  rw [List.take_succ_eq_append_getElem h, List.all_append, h1]; simp [h2]
theorem all_noI {α : Type} {l : List α} {k : Nat} (h : k < l.length) (p : α → Bool) (h2 : p l[k] = false) : l.all p = false := by
  rw [List.all_eq_false]
  exact ⟨l[k], List.getElem_mem h, by simp [h2]⟩
theorem sizeStI : (Tryd.prog.info? 47).map (·.size) = some 10 := by kernel_rfl

set_option maxHeartbeats 2000000 in
set_option maxRecDepth 100000 in
theorem idxDraws_any (v : Value) (ds : List Int) (w : World) (hv : Ix w v ds) :
    Calls Tryd.prog 59 #[v, .func (.func 37) #[] #[]] w fun e w' => (∃ i : Int, e = .returned (.int .i64 i) ∧ decide (0 ≤ i) = !(ds.all (fun n => inB n 0 1073741824))) ∧ w' = w := by
  obtain ⟨hl, a, cap, rfl, hc⟩ := hv
  have HC : Hid (∀ i, i < ds.length → ∃ b off, a = some ⟨b, off, none⟩ ∧ ∀ j (h : j < ds.length), w.cell? ⟨b, off + j, none⟩ = some (.int .i64 ds[j])) := hc
  unfold maxLen at hl
  clear hc
  go_enter Tryd.func59, Tryd.ntmps59
  go_wp2
  go_loopw [8] (fun i wr => ∃ k : Nat, k ≤ ds.length ∧ i = .int .i64 k ∧ (ds.take k).all (fun n => inB n 0 1073741824) = true ∧ wr = w) (fun i _ => ds.length - (intOf i).toNat)
  case atStart => exact ⟨0, Nat.zero_le _, rfl, rfl, rfl⟩
  case round =>
    obtain ⟨k, hk, rfl, hA, rfl⟩ := hrel
    have HA : Hid ((ds.take k).all (fun n => inB n 0 1073741824) = true) := hA
    clear hA
    by_cases hlt : k < ds.length
    · obtain ⟨b, off, rfl, hj⟩ := HC.out k hlt
      have hcell := hj k hlt
      have HN : Hid (inB ds[k] 0 1073741824 = true → (ds.take (k + 1)).all (fun n => inB n 0 1073741824) = true) := fun h => all_takeI hlt _ HA.out h
      have HO : Hid (inB ds[k] 0 1073741824 = false → ds.all (fun n => inB n 0 1073741824) = false) := fun h => all_noI hlt _ h
      have hkl : (k : Int) < (ds.length : Int) := by omega
      have HD : Hid (∀ u, Calls Tryd.prog 37 #[.int .i64 ds[k]] u fun e w' => e = .returned (.bool (!inB ds[k] 0 1073741824)) ∧ w' = u) := fun u => badDraw_any ds[k] u
      clear hj
      generalize inB ds[k] 0 1073741824 = y at HN HO HD
      generalize ds[k] = n at hcell HD
      cases y
      · go_wp2_with (go_at_call 37; refine (HD.out _).mono ?_; rintro e w' ⟨rfl, rfl⟩)
        go_ret
        exact ⟨⟨_, rfl, by rw [HO.out (by trivial)]; simp⟩, by trivial⟩
      · go_wp2_with (go_at_call 37; refine (HD.out _).mono ?_; rintro e w' ⟨rfl, rfl⟩)
        go_roundw
        case rel => exact ⟨k + 1, by omega, by go_num, HN.out (by trivial), by trivial⟩
        case measure => simp [intOf]; omega
    · obtain rfl : k = ds.length := by omega
      rw [List.take_length] at HA
      go_wp2
      go_ret
      exact ⟨⟨_, rfl, by rw [HA.out]; rfl⟩, by trivial⟩
theorem conDraws_any (v : Value) (ds : List Int) (w : World) (hv : Ix w v ds) :
    Calls Tryd.prog 41 #[v, .func (.func 37) #[] #[]] w fun e w' => e = .returned (.bool (!(ds.all (fun n => inB n 0 1073741824)))) ∧ w' = w := by
  have HI : Hid (∀ u, u = w → Calls Tryd.prog 59 #[v, .func (.func 37) #[] #[]] u fun e w' => (∃ i : Int, e = .returned (.int .i64 i) ∧ decide (0 ≤ i) = !(ds.all (fun n => inB n 0 1073741824))) ∧ w' = u) := fun u h => h ▸ idxDraws_any v ds w hv
  generalize (!(ds.all (fun n => inB n 0 1073741824))) = R at HI
  go_enter Tryd.func41, Tryd.ntmps41
  go_wp2_with (go_at_call 59; refine (HI.out _ rfl).mono ?_; rintro e w' ⟨⟨i, rfl, hi⟩, rfl⟩)
  go_ret
  exact ⟨by rw [← hi]; rfl, rfl⟩

set_option maxHeartbeats 2000000 in
set_option maxRecDepth 100000 in
theorem badStep_any (x : Stp) (hx : x.fits) (u : Sup) (vd vs : Value) (q : Nat) (w : World) (hb : Blk w q #[.int .i64 u.s, .int .i64 u.c, .int .i64 u.el, .int .i64 u.b, .int .i64 u.r, .int .i64 u.d, vd, vs] 33) (ht : Tabs w) :
    Calls Tryd.prog 39 #[.agg #[.int .i64 x.kd, .int .i64 x.a, .int .i64 x.b, .int .i64 x.c, .int .i64 x.cl, .int .i64 x.sq, .int .i64 x.op, .string x.k, .string x.v, .string x.o], .pointer (some ⟨q, 0, none⟩)] w fun e w' => e = .returned (.bool (!stOk u.s u.c x)) ∧ Below w.heap.size w w' := by
  have HS : Hid (∀ z, Tabs z → Calls Tryd.prog 40 #[.agg #[.int .i64 x.kd, .int .i64 x.a, .int .i64 x.b, .int .i64 x.c, .int .i64 x.cl, .int .i64 x.sq, .int .i64 x.op, .string x.k, .string x.v, .string x.o], .agg #[.int .i64 u.s, .int .i64 u.c, .int .i64 u.el, .int .i64 u.b, .int .i64 u.r, .int .i64 u.d]] z fun e w' => e = .returned (.bool (stOk u.s u.c x)) ∧ Below z.heap.size z w') := fun z h => stepFits_any x.kd x.a x.b x.c x.cl x.sq x.op x.k x.v x.o hx.k hx.v hx.o u.s u.c u.el u.b u.r u.d z h
  have HT : Hid (Tabs w) := ht
  have HB : Hid (Blk w q #[.int .i64 u.s, .int .i64 u.c, .int .i64 u.el, .int .i64 u.b, .int .i64 u.r, .int .i64 u.d, vd, vs] 33) := hb
  have hlt := hb.lt
  have c0 : ∀ ob : Obj, (w.alloc ob).cell? ⟨q, 0, none⟩ = some (.int .i64 u.s) := fun ob => (HB.out.alloc ob).cell 0
  have c1 : ∀ ob : Obj, (w.alloc ob).cell? ⟨q, 1, none⟩ = some (.int .i64 u.c) := fun ob => (HB.out.alloc ob).cell 1
  have c2 : ∀ ob : Obj, (w.alloc ob).cell? ⟨q, 2, none⟩ = some (.int .i64 u.el) := fun ob => (HB.out.alloc ob).cell 2
  have c3 : ∀ ob : Obj, (w.alloc ob).cell? ⟨q, 3, none⟩ = some (.int .i64 u.b) := fun ob => (HB.out.alloc ob).cell 3
  have c4 : ∀ ob : Obj, (w.alloc ob).cell? ⟨q, 4, none⟩ = some (.int .i64 u.r) := fun ob => (HB.out.alloc ob).cell 4
  have c5 : ∀ ob : Obj, (w.alloc ob).cell? ⟨q, 5, none⟩ = some (.int .i64 u.d) := fun ob => (HB.out.alloc ob).cell 5
  clear hb ht
  generalize stOk u.s u.c x = R at HS ⊢
  have G : Hid True := trivial
  go_enter Tryd.func39, Tryd.ntmps39
  go_wp2_with (first
    | (have hBA := G; refine gate_ld 47 (.tmp 2) rfl ?_; clear hBA; refine wpl_load_blk rfl 47 (.tmp 2) rfl (w.heap.size) rfl (Blk.new _ _ _) Tryd.underlying47 rfl sizeStI rfl ?_; clear G)
    | (go_at_call 40; refine (HS.out _ (HT.out.below ((Below.refl _ _).alloc (Nat.le_refl _) _))).mono ?_; rintro e w1 ⟨rfl, hb1⟩))
  go_ret
  exact ⟨rfl, ((Below.refl _ _).alloc (Nat.le_refl _) _).trans (hb1.mono (by simp))⟩

set_option maxHeartbeats 4000000 in
set_option maxRecDepth 100000 in
theorem idxSteps_any (v : Value) (ss : List Stp) (u : Sup) (vd vs : Value) (q : Nat) (w : World) (hv : Sl stC 10 w v ss) (hf : ∀ x ∈ ss, x.fits) (hb : Blk w q #[.int .i64 u.s, .int .i64 u.c, .int .i64 u.el, .int .i64 u.b, .int .i64 u.r, .int .i64 u.d, vd, vs] 33) (ht : Tabs w) :
    Calls Tryd.prog 60 #[v, .func (.func 39) #[] #[.pointer (some ⟨q, 0, none⟩)]] w fun e w' => (∃ i : Int, e = .returned (.int .i64 i) ∧ decide (0 ≤ i) = !(ss.all (stOk u.s u.c))) ∧ Below w.heap.size w w' := by
  obtain ⟨hl, a, cap, rfl, hc⟩ := hv
  have HC : Hid (∀ i, i < ss.length → ∃ b off, a = some ⟨b, off, none⟩ ∧ ∀ j (h : j < ss.length), w.rangeAt b (off + j * 10) (stC ss[j])) := hc
  have HF : Hid (∀ x ∈ ss, x.fits) := hf
  have HB : Hid (Blk w q #[.int .i64 u.s, .int .i64 u.c, .int .i64 u.el, .int .i64 u.b, .int .i64 u.r, .int .i64 u.d, vd, vs] 33) := hb
  have HT : Hid (Tabs w) := ht
  unfold maxLen at hl
  clear hc hf hb ht
  go_enter Tryd.func60, Tryd.ntmps60
  go_wp2
  go_loopw [8] (fun i wr => ∃ k : Nat, k ≤ ss.length ∧ i = .int .i64 k ∧ (ss.take k).all (stOk u.s u.c) = true ∧ Below w.heap.size w wr) (fun i _ => ss.length - (intOf i).toNat)
  case atStart => exact ⟨0, Nat.zero_le _, rfl, rfl, Below.refl _ _⟩
  case round =>
    obtain ⟨k, hk, rfl, hA, hBl⟩ := hrel
    have HA : Hid ((ss.take k).all (stOk u.s u.c) = true) := hA
    have HBl : Hid (Below w.heap.size w wr) := hBl
    clear hA hBl
    by_cases hlt : k < ss.length
    · obtain ⟨b, off, rfl, hj⟩ := HC.out k hlt
      have HR : Hid (wr.rangeAt b (off + k * 10) [.int .i64 ss[k].kd, .int .i64 ss[k].a, .int .i64 ss[k].b, .int .i64 ss[k].c, .int .i64 ss[k].cl, .int .i64 ss[k].sq, .int .i64 ss[k].op, .string ss[k].k, .string ss[k].v, .string ss[k].o]) := range_below (hj k hlt) HBl.out
      have HN : Hid (stOk u.s u.c ss[k] = true → (ss.take (k + 1)).all (stOk u.s u.c) = true) := fun h => all_takeI hlt _ HA.out h
      have HO : Hid (stOk u.s u.c ss[k] = false → ss.all (stOk u.s u.c) = false) := fun h => all_noI hlt _ h
      have hkl : (k : Int) < (ss.length : Int) := by omega
      have HD : Hid (Calls Tryd.prog 39 #[.agg #[.int .i64 ss[k].kd, .int .i64 ss[k].a, .int .i64 ss[k].b, .int .i64 ss[k].c, .int .i64 ss[k].cl, .int .i64 ss[k].sq, .int .i64 ss[k].op, .string ss[k].k, .string ss[k].v, .string ss[k].o], .pointer (some ⟨q, 0, none⟩)] wr fun e w' => e = .returned (.bool (!stOk u.s u.c ss[k])) ∧ Below wr.heap.size wr w') := badStep_any ss[k] (HF.out _ (List.getElem_mem hlt)) u vd vs q wr (HB.out.below HBl.out HB.out.lt) (HT.out.below HBl.out)
      have hz := HBl.out.size
      clear hj
      generalize stOk u.s u.c ss[k] = y at HN HO HD
      generalize ss[k] = x at HR HD
      have G : Hid True := trivial
      cases y
      · go_wp2_with (first
          | (have hBA := G; refine gate_ld 47 (.tmp 14) rfl ?_; clear hBA; refine wpList_load_mid rfl 47 (.tmp 14) rfl b (off + k * 10) rfl _ _ HR.out Tryd.underlying47 rfl sizeStI ?_; clear G)
          | (go_at_call 39; refine Calls.mono HD.out ?_; rintro e w1 ⟨rfl, hb1⟩))
        go_ret
        exact ⟨⟨_, rfl, by rw [HO.out (by trivial)]; simp⟩, HBl.out.trans (hb1.mono hz)⟩
      · go_wp2_with (first
          | (have hBA := G; refine gate_ld 47 (.tmp 14) rfl ?_; clear hBA; refine wpList_load_mid rfl 47 (.tmp 14) rfl b (off + k * 10) rfl _ _ HR.out Tryd.underlying47 rfl sizeStI ?_; clear G)
          | (go_at_call 39; refine Calls.mono HD.out ?_; rintro e w1 ⟨rfl, hb1⟩))
        go_roundw
        case rel => exact ⟨k + 1, by omega, by go_num, HN.out (by trivial), HBl.out.trans (hb1.mono hz)⟩
        case measure => simp [intOf]; omega
    · obtain rfl : k = ss.length := by omega
      rw [List.take_length] at HA
      go_wp2
      go_ret
      exact ⟨⟨_, rfl, by rw [HA.out]; rfl⟩, HBl.out⟩
theorem conSteps_any (v : Value) (ss : List Stp) (u : Sup) (vd vs : Value) (q : Nat) (w : World) (hv : Sl stC 10 w v ss) (hf : ∀ x ∈ ss, x.fits) (hb : Blk w q #[.int .i64 u.s, .int .i64 u.c, .int .i64 u.el, .int .i64 u.b, .int .i64 u.r, .int .i64 u.d, vd, vs] 33) (ht : Tabs w) :
    Calls Tryd.prog 42 #[v, .func (.func 39) #[] #[.pointer (some ⟨q, 0, none⟩)]] w fun e w' => e = .returned (.bool (!(ss.all (stOk u.s u.c)))) ∧ Below w.heap.size w w' := by
  have HI : Hid (∀ z, z = w → Calls Tryd.prog 60 #[v, .func (.func 39) #[] #[.pointer (some ⟨q, 0, none⟩)]] z fun e w' => (∃ i : Int, e = .returned (.int .i64 i) ∧ decide (0 ≤ i) = !(ss.all (stOk u.s u.c))) ∧ Below z.heap.size z w') := fun z h => h ▸ idxSteps_any v ss u vd vs q w hv hf hb ht
  generalize (!(ss.all (stOk u.s u.c))) = R at HI
  go_enter Tryd.func42, Tryd.ntmps42
  go_wp2_with (go_at_call 60; refine Calls.mono (HI.out _ rfl) ?_; rintro e w' ⟨⟨i, rfl, hi⟩, hb⟩)
  go_ret
  exact ⟨by rw [← hi]; rfl, hb⟩

set_option maxHeartbeats 4000000 in
set_option maxRecDepth 100000 in
theorem scriptFits_any (u : Sup) (vd vs : Value) (ds : List Int) (ss : List Stp) (w : World) (hd : Ix w vd ds) (hs : Sl stC 10 w vs ss) (hf : ∀ x ∈ ss, x.fits) (ht : Tabs w) :
    Calls Tryd.prog 21 #[.agg #[.int .i64 u.s, .int .i64 u.c, .int .i64 u.el, .int .i64 u.b, .int .i64 u.r, .int .i64 u.d, vd, vs]] w fun e w' => e = .returned (.bool (scOk u ds ss)) ∧ Below w.heap.size w w' := by
  have HK : Hid (scOk u ds ss = (decide (setF u.s u.c u.el u.b u.r u.d = 0) && decide (ds.length ≤ 4096) && decide (ss.length ≤ 4096) && ds.all (fun n => inB n 0 1073741824) && ss.all (stOk u.s u.c))) := rfl
  have HU : Hid (∀ x, Calls Tryd.prog 36 #[.agg #[.int .i64 u.s, .int .i64 u.c, .int .i64 u.el, .int .i64 u.b, .int .i64 u.r, .int .i64 u.d]] x fun e w' => e = .returned (.int .i64 (setF u.s u.c u.el u.b u.r u.d)) ∧ Below x.heap.size x w') := fun x => setupFault_any _ _ _ _ _ _ x
  have HD : Hid (∀ z, Ix z vd ds → Calls Tryd.prog 41 #[vd, .func (.func 37) #[] #[]] z fun e w' => e = .returned (.bool (!(ds.all (fun n => inB n 0 1073741824)))) ∧ w' = z) := fun z h => conDraws_any vd ds z h
  have HS : Hid (∀ z q, Sl stC 10 z vs ss → Blk z q #[.int .i64 u.s, .int .i64 u.c, .int .i64 u.el, .int .i64 u.b, .int .i64 u.r, .int .i64 u.d, vd, vs] 33 → Tabs z → Calls Tryd.prog 42 #[vs, .func (.func 39) #[] #[.pointer (some ⟨q, 0, none⟩)]] z fun e w' => e = .returned (.bool (!(ss.all (stOk u.s u.c)))) ∧ Below z.heap.size z w') := fun z q h1 h2 h3 => conSteps_any vs ss u vd vs q z h1 hf h2 h3
  have HdI : Hid (Ix w vd ds) := hd
  have HsI : Hid (Sl stC 10 w vs ss) := hs
  have HT : Hid (Tabs w) := ht
  obtain ⟨hdl, da, dc, rfl, _⟩ := hd
  obtain ⟨hsl, sa, sc, rfl, _⟩ := hs
  clear ht hf
  unfold maxLen at hdl hsl
  generalize scOk u ds ss = R at HK ⊢
  generalize setF u.s u.c u.el u.b u.r u.d = F at HK HU
  generalize ds.all (fun n => inB n 0 1073741824) = R1 at HK HD
  generalize ss.all (stOk u.s u.c) = R2 at HK HS
  by_cases hF : F = 0
  case neg =>
    have hF' : (F == 0) = false := by simpa using hF
    go_enter Tryd.func21, Tryd.ntmps21
    go_wp2_with (go_at_call 36; refine (HU.out _).mono ?_; rintro e w1 ⟨rfl, hb⟩)
    all_goals go_ret
    all_goals exact ⟨by rw [HK.out]; go_light; simp [hF], ((Below.refl _ _).alloc (Nat.le_refl _) _).trans (hb.mono (by simp))⟩
  subst hF
  by_cases hd4 : ds.length ≤ 4096
  case neg =>
    have hd4' : (4096 : Int) < (ds.length : Int) := by omega
    go_enter Tryd.func21, Tryd.ntmps21
    go_wp2_with (go_at_call 36; refine (HU.out _).mono ?_; rintro e w1 ⟨rfl, hb⟩; have b6 : w1.cell? ⟨w.heap.size, 6, none⟩ = some (.slice da ds.length dc) := (hb.cell (p := ⟨w.heap.size, 6, none⟩) (by simp)).trans (by simp [go_sem]))
    all_goals go_ret
    all_goals exact ⟨by rw [HK.out]; go_light; simp [hd4], ((Below.refl _ _).alloc (Nat.le_refl _) _).trans (hb.mono (by simp))⟩
  have hd4' : ¬ (4096 : Int) < (ds.length : Int) := by omega
  by_cases hs4 : ss.length ≤ 4096
  case neg =>
    have hs4' : (4096 : Int) < (ss.length : Int) := by omega
    go_enter Tryd.func21, Tryd.ntmps21
    go_wp2_with (go_at_call 36; refine (HU.out _).mono ?_; rintro e w1 ⟨rfl, hb⟩; have b6 : w1.cell? ⟨w.heap.size, 6, none⟩ = some (.slice da ds.length dc) := (hb.cell (p := ⟨w.heap.size, 6, none⟩) (by simp)).trans (by simp [go_sem]); have b7 : w1.cell? ⟨w.heap.size, 7, none⟩ = some (.slice sa ss.length sc) := (hb.cell (p := ⟨w.heap.size, 7, none⟩) (by simp)).trans (by simp [go_sem]))
    all_goals go_ret
    all_goals exact ⟨by rw [HK.out]; go_light; simp [hs4], ((Below.refl _ _).alloc (Nat.le_refl _) _).trans (hb.mono (by simp))⟩
  have hs4' : ¬ (4096 : Int) < (ss.length : Int) := by omega
  replace HK : Hid (R = (R1 && R2)) := by
    unfold Hid
    rw [HK.out]
    simp [hd4, hs4]
  clear hd4 hs4
  cases R1
  · go_enter Tryd.func21, Tryd.ntmps21
    go_wp2_with (first
      | (go_at_call 36; refine (HU.out _).mono ?_; rintro e w1 ⟨rfl, hb⟩; have b6 : w1.cell? ⟨w.heap.size, 6, none⟩ = some (.slice da ds.length dc) := (hb.cell (p := ⟨w.heap.size, 6, none⟩) (by simp)).trans (by simp [go_sem]); have b7 : w1.cell? ⟨w.heap.size, 7, none⟩ = some (.slice sa ss.length sc) := (hb.cell (p := ⟨w.heap.size, 7, none⟩) (by simp)).trans (by simp [go_sem]); have HB1 : Hid (Below w.heap.size w w1) := ((Below.refl _ _).alloc (Nat.le_refl _) _).trans (hb.mono (by simp)); have HK1 : Hid (Blk w1 w.heap.size #[.int .i64 u.s, .int .i64 u.c, .int .i64 u.el, .int .i64 u.b, .int .i64 u.r, .int .i64 u.d, .slice da ds.length dc, .slice sa ss.length sc] 33) := (Blk.new _ _ _).below hb (by simp))
      | (go_at_call 41; refine Calls.mono (HD.out _ (HdI.out.below HB1.out)) ?_; rintro e w2 ⟨rfl, rfl⟩))
    all_goals go_ret
    all_goals exact ⟨by rw [HK.out]; rfl, HB1.out⟩
  · go_enter Tryd.func21, Tryd.ntmps21
    go_wp2_with (first
      | (go_at_call 36; refine (HU.out _).mono ?_; rintro e w1 ⟨rfl, hb⟩; have b6 : w1.cell? ⟨w.heap.size, 6, none⟩ = some (.slice da ds.length dc) := (hb.cell (p := ⟨w.heap.size, 6, none⟩) (by simp)).trans (by simp [go_sem]); have b7 : w1.cell? ⟨w.heap.size, 7, none⟩ = some (.slice sa ss.length sc) := (hb.cell (p := ⟨w.heap.size, 7, none⟩) (by simp)).trans (by simp [go_sem]); have HB1 : Hid (Below w.heap.size w w1) := ((Below.refl _ _).alloc (Nat.le_refl _) _).trans (hb.mono (by simp)); have HK1 : Hid (Blk w1 w.heap.size #[.int .i64 u.s, .int .i64 u.c, .int .i64 u.el, .int .i64 u.b, .int .i64 u.r, .int .i64 u.d, .slice da ds.length dc, .slice sa ss.length sc] 33) := (Blk.new _ _ _).below hb (by simp))
      | (go_at_call 41; refine Calls.mono (HD.out _ (HdI.out.below HB1.out)) ?_; rintro e w2 ⟨rfl, rfl⟩)
      | (go_at_call 42; refine Calls.mono (HS.out _ _ (HsI.out.below HB1.out) HK1.out (HT.out.below HB1.out)) ?_; rintro e w3 ⟨rfl, hb3⟩))
    all_goals go_ret
    all_goals exact ⟨by rw [HK.out]; cases R2 <;> rfl, HB1.out.trans (hb3.mono HB1.out.size)⟩
end Go.Proofs.YtabnanmfojppjaaDoor
