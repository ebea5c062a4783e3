/-
  impl.TellScript.
-/
import Derived.Test.YtabnanmfojppjaaDoorSkSt
import Derived.Test.YtabnanmfojppjaaDoorSkIc
namespace Go.Proofs.YtabnanmfojppjaaDoor
open Go.RowKit Go.Shelf
set_option linter.unusedVariables false
set_option linter.unusedSimpArgs false

theorem sizeSuI : (Tryd.prog.info? 30).map (·.size) = some 6 := by kernel_rfl
set_option maxHeartbeats 16000000 in
set_option maxRecDepth 100000 in
theorem iTellScript_any (u : Sup) (vd vs : Value) (ds : List Int) (ss : List Stp) (w : World) (hd : Ix w vd ds) (hs : Sl stC 10 w vs ss) (hf : ∀ x ∈ ss, x.fits) (ht : Tabs w) (htab : ∀ w', Below w.heap.size w w' → Lib.TabIs Tryd.prog w' "internal/strconv.uint64pow10" .u64 Lib.pow10Tab) :
    Calls Tryd.prog 7 #[.agg #[.int .i64 u.s, .int .i64 u.c, .int .i64 u.el, .int .i64 u.b, .int .i64 u.r, .int .i64 u.d, vd, vs]] w fun e w' => e = .returned (.string (tellA u ds ss)) ∧ Below w.heap.size w w' := by
  have HOK : Hid (∀ x, Ix x vd ds → Sl stC 10 x vs ss → Tabs x → Calls Tryd.prog 21 #[.agg #[.int .i64 u.s, .int .i64 u.c, .int .i64 u.el, .int .i64 u.b, .int .i64 u.r, .int .i64 u.d, vd, vs]] x fun e w' => e = .returned (.bool (scOk u ds ss)) ∧ Below x.heap.size x w') := fun x h1 h2 h3 => scriptFits_any u vd vs ds ss x h1 h2 hf h3
  have HD : Hid (Ix w vd ds) := hd
  have HS : Hid (Sl stC 10 w vs ss) := hs
  have HT : Hid (Tabs w) := ht
  have HTab : Hid (∀ w', Below w.heap.size w w' → Lib.TabIs Tryd.prog w' "internal/strconv.uint64pow10" .u64 Lib.pow10Tab) := htab
  obtain ⟨hdl, da, dc, rfl, _⟩ := hd
  obtain ⟨hsl, sa, sc, rfl, _⟩ := hs
  have HF : Hid (∀ x ∈ ss, x.fits) := hf
  clear hf ht htab
  unfold maxLen at hdl hsl
  have HP : Hid (scOk u ds ss = true → ScP u ds ss) := scOk_parts
  have HA : Hid (tellA u ds ss = if (scOk u ds ss && ss.all tOkS && decide ((tellL u ds ss).length ≤ 65536)) = true then sOf (tellL u ds ss) else ⟨#[]⟩) := rfl
  generalize tellA u ds ss = A at HA ⊢
  cases hok : scOk u ds ss
  case false =>
    rw [hok] at HA HOK
    have HAe : Hid (A = ⟨#[]⟩) := by unfold Hid; rw [HA.out]; simp
    clear HA HP hok
    generalize u.s = us at *; generalize u.c = uc at *; generalize u.el = ue at *; generalize u.b = ub at *; generalize u.r = ur at *; generalize u.d = ud at *
    go_enter Tryd.func7, Tryd.ntmps7
    go_wp2_with (go_at_call 21; refine (HOK.out _ (HD.out.below ((Below.refl _ _).alloc (Nat.le_refl _) _)) (HS.out.below ((Below.refl _ _).alloc (Nat.le_refl _) _)) (HT.out.below ((Below.refl _ _).alloc (Nat.le_refl _) _))).mono ?_; rintro e w1 ⟨rfl, hb⟩)
    go_ret
    exact ⟨by rw [HAe.out]; rfl, ((Below.refl _ _).alloc (Nat.le_refl _) _).trans (hb.mono (by simp))⟩
  rw [hok] at HA HOK
  have hp := HP.out hok
  clear HP hok
  replace HA : Hid (A = if (ss.all tOkS && decide ((tellL u ds ss).length ≤ 65536)) = true then sOf (tellL u ds ss) else ⟨#[]⟩) := by unfold Hid; rw [HA.out]; simp
  have hdl4 := hp.dl
  have hsl4 := hp.sl
  have HSs : Hid (∀ x ∈ ss, StP x) := fun x hx => stOk_parts hp.s7 hp.c8 (hp.ss x hx)
  have hn6 := numsL_len (sup6 u) hp.six
  have hnd := numsL_len ds hp.ds
  have e6 : (sup6 u).length = 6 := rfl
  rw [e6] at hn6
  obtain ⟨T1, hT1⟩ : ∃ T, T = clusterW ++ numsL (sup6 u) ++ [10] := ⟨_, rfl⟩
  obtain ⟨T2, hT2⟩ : ∃ T, T = headL u ds := ⟨_, rfl⟩
  have hT1l : T1.length ≤ 100 := by rw [hT1]; simp [clusterW]; omega
  have hT2e : T2 = T1 ++ drawsW ++ numsL ds ++ [10] := by rw [hT2, hT1]; rfl
  have hT2l : T2.length ≤ 50000 := by rw [hT2e]; simp [drawsW]; omega
  have HL1 : Hid (∀ (z : World) (b : Nat) (vn : Value), Bu z b [] → Below w.heap.size w z → w.heap.size ≤ b → FarI b z vn (sup6 u) → Calls Tryd.prog 22 #[.pointer (some ⟨b, 0, none⟩), .string ⟨#[99, 108, 117, 115, 116, 101, 114]⟩, vn, .slice none 0 0] z fun e w' => e = .returned (.tuple #[]) ∧ Bu w' b T1 ∧ Fr b z w') := fun z b vn h1 h2 h3 h4 => by
    have h := tellLine_any z b [] clusterW vn (.slice none 0 0) (sup6 u) [] h1 h4 (fun w' hf => ⟨by simp [maxLen], _, _, rfl, fun i hi => absurd hi (by simp)⟩) (by simp) (by simp [clusterW]) (by simp [sup6]) hp.six (by simp) (by simp) (fun w' h => HTab.out w' (h2.trans (h.mono h3)))
    have e : [] ++ clusterW ++ numsL (sup6 u) ++ txsL [] ++ [10] = T1 := by rw [hT1]; simp [txsL, textsL]
    rw [e] at h
    exact h
  have HL2 : Hid (∀ (z : World) (b : Nat), Bu z b T1 → Below w.heap.size w z → w.heap.size ≤ b → Calls Tryd.prog 22 #[.pointer (some ⟨b, 0, none⟩), .string ⟨#[100, 114, 97, 119, 115]⟩, .slice da ds.length dc, .slice none 0 0] z fun e w' => e = .returned (.tuple #[]) ∧ Bu w' b T2 ∧ Fr b z w') := fun z b h1 h2 h3 => by
    have h := tellLine_any z b T1 drawsW (.slice da ds.length dc) (.slice none 0 0) ds [] h1 (fun w' hf => HD.out.below (h2.trans (hf.lo.mono h3))) (fun w' hf => ⟨by simp [maxLen], _, _, rfl, fun i hi => absurd hi (by simp)⟩) (by omega) (by simp [drawsW]) (by omega) hp.ds (by simp) (by simp) (fun w' h => HTab.out w' (h2.trans (h.mono h3)))
    have e : T1 ++ drawsW ++ numsL ds ++ txsL [] ++ [10] = T2 := by rw [hT2e]; simp [txsL, textsL]
    rw [e] at h
    exact h
  have HSx : Hid (∀ (z : World) (b : Nat) (o1 o2 : Obj), b = z.heap.size → FarI b (((z.alloc o1).alloc o2).alloc (.cells #[.int .i64 u.s, .int .i64 u.c, .int .i64 u.el, .int .i64 u.b, .int .i64 u.r, .int .i64 u.d] 3)) (.slice (some ⟨z.heap.size + 1 + 1, 0, none⟩) 6 6) (sup6 u)) := fun z b o1 o2 hb w' hf => by
    have h := OwnG.lit inLaw ((z.alloc o1).alloc o2) (z.heap.size + 1) (sup6 u) #[.int .i64 u.s, .int .i64 u.c, .int .i64 u.el, .int .i64 u.b, .int .i64 u.r, .int .i64 u.d] rfl (by simp [sup6, maxLen]) (by simp)
    have e1 : ((z.alloc o1).alloc o2).heap.size = z.heap.size + 1 + 1 := by simp
    rw [e1] at h
    exact ix_sl ((ownG_far (by decide) h (by omega) hf).sl inLaw (by simp [sup6, maxLen]))
  have HTL : Hid (tellL u ds ss = T2 ++ stepsL ss) := by unfold Hid tellL; rw [hT2]
  generalize tellL u ds ss = TL at HA HTL
  generalize sup6 u = SX at HL1 HSx
  clear hT1 hT2 hT2e hp hn6 hnd e6
  generalize u.s = us at *; generalize u.c = uc at *; generalize u.el = ue at *; generalize u.b = ub at *; generalize u.r = ur at *; generalize u.d = ud at *
  have G : Hid True := trivial
  have GL : Hid True := trivial
  go_enter Tryd.func7, Tryd.ntmps7
  go_wp2_with (first
    | (go_at_call 21; refine (HOK.out _ (HD.out.below ((Below.refl _ _).alloc (Nat.le_refl _) _)) (HS.out.below ((Below.refl _ _).alloc (Nat.le_refl _) _)) (HT.out.below ((Below.refl _ _).alloc (Nat.le_refl _) _))).mono ?_; rintro e w1 ⟨rfl, hb⟩; have HB1 : Hid (Below w.heap.size w w1) := ((Below.refl _ _).alloc (Nat.le_refl _) _).trans (hb.mono (by simp)); have HK1 : Hid (Blk w1 w.heap.size #[.int .i64 us, .int .i64 uc, .int .i64 ue, .int .i64 ub, .int .i64 ur, .int .i64 ud, .slice da ds.length dc, .slice sa ss.length sc] 33) := (Blk.new _ _ _).below hb (by simp); have hz1 : w.heap.size < w1.heap.size := HK1.out.lt; clear hb; have c0 : ∀ ob : Obj, (w1.alloc ob).cell? ⟨w.heap.size, 0, none⟩ = some (.int .i64 us) := fun ob => (HK1.out.alloc ob).cell 0; have c1 : ∀ ob : Obj, (w1.alloc ob).cell? ⟨w.heap.size, 1, none⟩ = some (.int .i64 uc) := fun ob => (HK1.out.alloc ob).cell 1; have c2 : ∀ ob : Obj, (w1.alloc ob).cell? ⟨w.heap.size, 2, none⟩ = some (.int .i64 ue) := fun ob => (HK1.out.alloc ob).cell 2; have c3 : ∀ ob : Obj, (w1.alloc ob).cell? ⟨w.heap.size, 3, none⟩ = some (.int .i64 ub) := fun ob => (HK1.out.alloc ob).cell 3; have c4 : ∀ ob : Obj, (w1.alloc ob).cell? ⟨w.heap.size, 4, none⟩ = some (.int .i64 ur) := fun ob => (HK1.out.alloc ob).cell 4; have c5 : ∀ ob : Obj, (w1.alloc ob).cell? ⟨w.heap.size, 5, none⟩ = some (.int .i64 ud) := fun ob => (HK1.out.alloc ob).cell 5)
    | (have hBA := G; refine gate_st 30 (.tmp 4) _ rfl ?_; clear hBA; refine wpl_store_last rfl 30 (.tmp 4) _ rfl (w1.heap.size + 1) rfl (by simp) rfl sizeSuI rfl rfl (by simp [Value.oneCell']) ?_; clear G)
    | (have hGL := GL; go_at_call 22; clear hGL GL; refine Calls.mono (HL1.out _ w1.heap.size _ ((Bu.new w1).below (((Below.refl _ _).alloc (Nat.le_refl _) _).alloc (by simp) _)) (((HB1.out.alloc (by omega) _).alloc (by simp <;> omega) _).alloc (by simp <;> omega) _) (by omega) (HSx.out w1 w1.heap.size _ _ rfl)) ?_; rintro e w2 ⟨rfl, hd2, hf2⟩; have HB2 : Hid (Below w1.heap.size w1 w2) := ((((Below.refl _ _).alloc (Nat.le_refl _) _).alloc (by simp) _).alloc (by simp <;> omega) _).trans hf2.lo; have b6 : w2.cell? ⟨w.heap.size, 6, none⟩ = some (.slice da ds.length dc) := (HK1.out.below HB2.out hz1).cell 6; clear hf2 c0 c1 c2 c3 c4 c5)
    | (have hGL := hd2; go_at_call 22; clear hGL; refine Calls.mono (HL2.out _ w1.heap.size hd2 (HB1.out.trans (HB2.out.mono (by omega))) (by omega)) ?_; rintro e w3 ⟨rfl, hd3, hf3⟩; have HB3 : Hid (Below w1.heap.size w1 w3) := HB2.out.trans hf3.lo; have b7 : w3.cell? ⟨w.heap.size, 7, none⟩ = some (.slice sa ss.length sc) := (HK1.out.below HB3.out hz1).cell 7; clear hf3 b6 hd2 HB2))
  have HD3 : Hid (Bu w3 w1.heap.size T2) := hd3
  have HSC : Hid (∀ wr, Below w1.heap.size w1 wr → ∀ b off k, sa = some ⟨b, off, none⟩ → (h : k < ss.length) → wr.rangeAt b (off + k * 10) (stC ss[k])) := fun wr hb b off k he h => by
    obtain ⟨_, a', c', e', hc⟩ := HS.out.below (HB1.out)
    injection e' with e1
    subst e1
    obtain ⟨b', off', e2, hj⟩ := hc k h
    rw [he] at e2
    cases e2
    exact range_below (hj k h) hb
  have HSE : Hid (∀ k, k < ss.length → ∃ b off, sa = some ⟨b, off, none⟩) := fun k h => by
    obtain ⟨_, a', c', e', hc⟩ := HS.out
    injection e' with e1
    subst e1
    obtain ⟨b', off', e2, _⟩ := hc k h
    exact ⟨b', off', e2⟩
  have hSl : Hid (∀ k, k ≤ ss.length → (stepsL (ss.take k)).length ≤ 4200000) := fun k h => by
    have h1 := stepsL_len (l := ss.take k) fun x hx => HSs.out x (List.mem_of_mem_take hx)
    rw [List.length_take_of_le h] at h1
    omega
  clear hd3 HD HS HL1 HL2 HSx HOK b7
  go_loopw [32] (fun i wr => ∃ k : Nat, k ≤ ss.length ∧ i = .int .i64 k ∧ Bu wr w1.heap.size (T2 ++ stepsL (ss.take k)) ∧ (ss.take k).all tOkS = true ∧ Below w1.heap.size w1 wr) (fun i _ => ss.length - (intOf i).toNat)
  case atStart => exact ⟨0, Nat.zero_le _, rfl, by simpa [stepsL] using HD3.out, rfl, HB3.out⟩
  case round =>
    clear HD3 HB3
    obtain ⟨k, hk, rfl, hO, hA, hB⟩ := hrel
    have HO : Hid (Bu wr w1.heap.size (T2 ++ stepsL (ss.take k))) := hO
    have HB : Hid (Below w1.heap.size w1 wr) := hB
    have HAl : Hid ((ss.take k).all tOkS = true) := hA
    have hzr := hB.size
    have HBw : Hid (Below w.heap.size w wr) := HB1.out.trans (hB.mono (by omega))
    have hlk := hSl.out k hk
    clear hO hB hA
    by_cases hlt : k < ss.length
    · obtain ⟨b, off, rfl⟩ := HSE.out k hlt
      have HR : Hid (wr.rangeAt b (off + k * 10) (stC ss[k])) := HSC.out wr HB.out b off k rfl hlt
      have hx := HSs.out _ (List.getElem_mem hlt)
      have hxf := HF.out _ (List.getElem_mem hlt)
      have htk := stepsL_take hlt
      have HLN : Hid (T2 ++ stepsL (ss.take k) ++ (stepL ss[k] ++ [10]) = T2 ++ stepsL (ss.take (k + 1))) := by unfold Hid; rw [htk, List.append_assoc]
      have HN : Hid (tOkS ss[k] = true → (ss.take (k + 1)).all tOkS = true) := fun h => all_takeT hlt _ HAl.out h
      have HNo : Hid (tOkS ss[k] = false → ss.all tOkS = false) := fun h => all_noT hlt _ h
      have hkl : (k : Int) < (ss.length : Int) := by omega
      have hll : (T2 ++ stepsL (ss.take k)).length ≤ 5000000 := by rw [List.length_append]; omega
      have HTS : Hid (∀ z, Bu z w1.heap.size (T2 ++ stepsL (ss.take k)) → Below w.heap.size w z → Calls Tryd.prog 23 #[.pointer (some ⟨w1.heap.size, 0, none⟩), .agg #[.int .i64 ss[k].kd, .int .i64 ss[k].a, .int .i64 ss[k].b, .int .i64 ss[k].c, .int .i64 ss[k].cl, .int .i64 ss[k].sq, .int .i64 ss[k].op, .string ss[k].k, .string ss[k].v, .string ss[k].o]] z fun e w' => e = .returned (.bool (tOkS ss[k])) ∧ (tOkS ss[k] = true → Bu w' w1.heap.size (T2 ++ stepsL (ss.take k) ++ (stepL ss[k] ++ [10]))) ∧ Fr w1.heap.size z w') := fun z h1 h2 => tellStep_any ss[k] hx hxf w1.heap.size _ z h1 (by omega) (HT.out.below h2) (fun w' h => HTab.out w' (h2.trans (h.mono (by omega))))
      rw [HLN.out] at HTS
      clear htk hlk HLN hx hxf
      generalize T2 ++ stepsL (ss.take k) = LK at *
      obtain ⟨LN, hLN⟩ : ∃ l, l = T2 ++ stepsL (ss.take (k + 1)) := ⟨_, rfl⟩
      rw [← hLN] at HTS
      have HLn : Hid (LN = T2 ++ stepsL (ss.take (k + 1))) := hLN
      clear hLN
      generalize tOkS ss[k] = y at *
      generalize ss[k] = x at *
      have HRc : Hid (wr.rangeAt b (off + k * 10) [.int .i64 x.kd, .int .i64 x.a, .int .i64 x.b, .int .i64 x.c, .int .i64 x.cl, .int .i64 x.sq, .int .i64 x.op, .string x.k, .string x.v, .string x.o]) := HR.out
      clear HR
      have G1 : Hid True := trivial
      have G2 : Hid True := trivial
      have G3 : Hid True := trivial
      cases y
      · go_wp2_with (first
          | (have hBA := G1; refine gate_ld 47 (.tmp 34) rfl ?_; clear hBA; refine wpList_load_mid rfl 47 (.tmp 34) rfl b (off + k * 10) rfl _ _ HRc.out Tryd.underlying47 rfl sizeStI ?_; clear G1)
          | (have hBA := G2; refine gate_st 47 (.tmp 6) _ rfl ?_; clear hBA; refine wpl_store_last rfl 47 (.tmp 6) _ rfl (wr.heap.size) rfl rfl rfl sizeStI rfl rfl (by simp [Value.oneCell']) ?_; clear G2)
          | (have hBA := G3; refine gate_ld 47 (.tmp 6) rfl ?_; clear hBA; refine wpl_load_blk rfl 47 (.tmp 6) rfl (wr.heap.size) rfl (Blk.new _ _ _) Tryd.underlying47 rfl sizeStI rfl ?_; clear G3)
          | (go_at_call 23; refine Calls.mono (HTS.out _ (HO.out.below ((Below.refl _ _).alloc (Nat.le_refl _) _)) (HBw.out.alloc (by omega) _)) ?_; rintro e w5 ⟨rfl, _, hf5⟩))
        go_ret
        exact ⟨by rw [HA.out, HNo.out (by trivial)]; rfl, (HBw.out.alloc (by omega) _).trans (hf5.lo.mono (by omega))⟩
      · go_wp2_with (first
          | (have hBA := G1; refine gate_ld 47 (.tmp 34) rfl ?_; clear hBA; refine wpList_load_mid rfl 47 (.tmp 34) rfl b (off + k * 10) rfl _ _ HRc.out Tryd.underlying47 rfl sizeStI ?_; clear G1)
          | (have hBA := G2; refine gate_st 47 (.tmp 6) _ rfl ?_; clear hBA; refine wpl_store_last rfl 47 (.tmp 6) _ rfl (wr.heap.size) rfl rfl rfl sizeStI rfl rfl (by simp [Value.oneCell']) ?_; clear G2)
          | (have hBA := G3; refine gate_ld 47 (.tmp 6) rfl ?_; clear hBA; refine wpl_load_blk rfl 47 (.tmp 6) rfl (wr.heap.size) rfl (Blk.new _ _ _) Tryd.underlying47 rfl sizeStI rfl ?_; clear G3)
          | (go_at_call 23; refine Calls.mono (HTS.out _ (HO.out.below ((Below.refl _ _).alloc (Nat.le_refl _) _)) (HBw.out.alloc (by omega) _)) ?_; rintro e w5 ⟨rfl, hd5, hf5⟩))
        go_roundw
        case rel => exact ⟨k + 1, by omega, by go_num, by rw [← HLn.out]; exact hd5 (by trivial), HN.out (by trivial), (HB.out.alloc hzr _).trans hf5.lo⟩
        case measure => simp [intOf]; omega
    · obtain rfl : k = ss.length := by omega
      rw [List.take_length] at HO HAl hlk
      rw [← HTL.out] at HO
      have HLe : Hid (Calls Tryd.prog 24 #[.pointer (some ⟨w1.heap.size, 0, none⟩)] wr fun e w' => e = .returned (.int .i64 TL.length) ∧ w' = wr) := bdLen_any wr w1.heap.size TL HO.out
      have HSt : Hid (Calls Tryd.prog 25 #[.pointer (some ⟨w1.heap.size, 0, none⟩)] wr fun e w' => e = .returned (.string (sOf TL)) ∧ Below w1.heap.size wr w') := bdString_any wr w1.heap.size TL HO.out
      by_cases hbig : TL.length ≤ 65536
      · have hbig' : ¬ (65536 : Int) < (TL.length : Int) := by omega
        go_wp2_with (first
          | (go_at_call 24; refine Calls.mono HLe.out ?_; rintro e w' ⟨rfl, hww⟩; have hww2 := hww.symm; subst hww2)
          | (go_at_call 25; refine Calls.mono HSt.out ?_; rintro e w5 ⟨rfl, hb5⟩))
        go_ret
        exact ⟨by rw [HA.out, HAl.out, decide_eq_true hbig]; rfl, HBw.out.trans (hb5.mono (by omega))⟩
      · have hbig' : (65536 : Int) < (TL.length : Int) := by omega
        go_wp2_with (first
          | (go_at_call 24; refine Calls.mono HLe.out ?_; rintro e w' ⟨rfl, hww⟩; have hww2 := hww.symm; subst hww2))
        go_ret
        exact ⟨by rw [HA.out, HAl.out, decide_eq_false hbig]; rfl, HBw.out⟩
end Go.Proofs.YtabnanmfojppjaaDoor
