/-
  spec.Linear.
-/
import Derived.Test.YtnoihfincifphaaLnImpl
import Derived.Test.YtnoihfincifphaaLnSTurn
import Derived.Test.YtnoihfincifphaaLnRows
import Derived.Test.YtnoihfincifphaaTsL5
namespace Go.Proofs.Ytnoihfincifphaa
open Go.RowKit Go.Maps
set_option linter.unusedVariables false
set_option linter.unusedSimpArgs false

set_option maxHeartbeats 16000000 in
set_option maxRecDepth 100000 in
theorem specLinear_any (ea : Option Addr) (ec : Nat) (oa : Option Addr) (oc : Nat) (es : List Evn) (os : List Cm) (w : World) (hE : Evs w (.slice ea es.length ec) es) (hO : Cms w (.slice oa os.length oc) os) (hle : es.length ≤ 1048576) (hlo : os.length ≤ 1048576) :
    Calls Try.prog 8 #[.slice ea es.length ec, .slice oa os.length oc] w fun e w' => e = .returned (.agg #[.int .i64 (linA es os (rsC os)).1, .int .i64 (linA es os (rsC os)).2]) ∧ Below w.heap.size w w' := by
  have HE : Hid (Evs w (.slice ea es.length ec) es) := hE
  have HO : Hid (Cms w (.slice oa os.length oc) os) := hO
  clear hE hO
  obtain ⟨X, hX⟩ : ∃ X, X = linA es os (rsC os) := ⟨_, rfl⟩
  have HX : Hid (X = linA es os (rsC os)) := hX
  rw [← hX]
  clear hX
  by_cases h1 : 4096 < es.length
  · have h1i : (4096 : Int) < (es.length : Int) := by omega
    have HX9 : Hid (X = (9, 0)) := by show _ = _; rw [HX.out]; exact lin_big _ (.inl h1)
    go_enter Try.func8, Try.ntmps8
    go_wp2
    refine bodyPost_ret (v := .agg #[.int .i64 9, .int .i64 0]) (by simp [results, Try.results8, go_sem]) rfl ⟨by rw [HX9.out], ?_⟩
    exact (Below.refl _ _).alloc (Nat.le_refl _) _
  have h1i : ¬ (4096 : Int) < (es.length : Int) := by omega
  by_cases h2 : 4096 < os.length
  · have h2i : (4096 : Int) < (os.length : Int) := by omega
    have HX9 : Hid (X = (9, 0)) := by show _ = _; rw [HX.out]; exact lin_big _ (.inr h2)
    go_enter Try.func8, Try.ntmps8
    go_wp2
    refine bodyPost_ret (v := .agg #[.int .i64 9, .int .i64 0]) (by simp [results, Try.results8, go_sem]) rfl ⟨by rw [HX9.out], ?_⟩
    exact (Below.refl _ _).alloc (Nat.le_refl _) _
  have h2i : ¬ (4096 : Int) < (os.length : Int) := by omega
  have HNB : Hid (¬ (4096 < es.length ∨ 4096 < os.length)) := fun x => by omega
  obtain ⟨Y, hY⟩ : ∃ Y, Y = fstOf (q1 es) es.length := ⟨_, rfl⟩
  have HTU : Hid (∀ u, Below w.heap.size w u → Calls Try.prog 34 #[.slice ea es.length ec] u fun e w' => e = .returned (.int .i64 Y) ∧ Below u.heap.size u w') := fun u hb => by rw [hY]; exact turns_any ea ec es u (HE.out.below hb) (by omega)
  by_cases hneg : Y < 0
  case neg =>
    have hge : (0 : Int) ≤ Y := by omega
    have HX1 : Hid (X = (1, Y)) := by show _ = _; rw [HX.out, hY]; exact lin_1 _ HNB.out (by rw [← hY]; exact hge)
    clear hY
    go_enter Try.func8, Try.ntmps8
    go_wp2_with (go_at_call 34; refine (HTU.out _ ((Below.refl _ _).alloc (Nat.le_refl _) _)).mono ?_; rintro e w1 ⟨rfl, hb⟩; have HB1 : Hid (Below w.heap.size w w1) := ((Below.refl _ _).alloc (Nat.le_refl _) _).trans (hb.mono (by simp)); have BA : Hid (Blk w1 w.heap.size #[.int .i64 0, .int .i64 0] 27) := (Blk.new w _ _).below hb (by simp); have r0 : w1.cell? ⟨w.heap.size, 0, none⟩ = some (.int .i64 0) := BA.out.cell 0; have r1 : w1.cell? ⟨w.heap.size, 1, none⟩ = some (.int .i64 0) := BA.out.cell 1; have fr := BA.out.free; clear hb)
    refine bodyPost_ret (v := .agg #[.int .i64 1, .int .i64 Y]) (by simp [results, Try.results8, go_sem, *]) rfl ⟨by rw [HX1.out], (HB1.out.setCell (Nat.le_refl _) _).setCell (Nat.le_refl _) _⟩
  have hng : ¬ (0 : Int) ≤ Y := by omega
  have HF1 : Hid (fstOf (q1 es) es.length < 0) := by show _ < _; rw [← hY]; exact hneg
  clear hY
  go_enter Try.func8, Try.ntmps8
  go_upto_region 6 with (go_at_call 34; refine (HTU.out _ ((Below.refl _ _).alloc (Nat.le_refl _) _)).mono ?_; rintro e w1 ⟨rfl, hb⟩; have HB1 : Hid (Below w.heap.size w w1) := ((Below.refl _ _).alloc (Nat.le_refl _) _).trans (hb.mono (by simp)); have BA : Hid (Blk w1 w.heap.size #[.int .i64 0, .int .i64 0] 27) := (Blk.new w _ _).below hb (by simp); clear hb)
  have hzw := HB1.out.size
  have hz1 := BA.out.lt
  clear HTU hneg
  go_upto_region 8 with fail
  obtain ⟨W2, hW2⟩ : ∃ W2, W2 = (w1.alloc (.cells #[] 3)).alloc (.cells #[] 3) := ⟨_, rfl⟩
  have HAR : Hid (AR W2 (w.heap.size + 1) (.slice (some ⟨w1.heap.size, 0, none⟩) 0 0) (.slice (some ⟨w1.heap.size + 1, 0, none⟩) 0 0) [] []) := by
    show AR _ _ _ _ _ _
    rw [hW2]
    refine ⟨(OwnI.made w1 _ (by omega)).below ((Below.refl _ _).alloc (Nat.le_refl _) _), ?_, fun k h1 h2 => ?_⟩
    · have := OwnI.made (w1.alloc (.cells #[] 3)) (w.heap.size + 1) (by simp; omega)
      simpa using this
    · simp [Value.ownBlock] at h1 h2; omega
  have HB2 : Hid (Below w.heap.size w W2) := by show Below _ _ _; rw [hW2]; exact (HB1.out.alloc (by omega) _).alloc (by simp; omega) _
  have BA2 : Hid (Blk W2 w.heap.size #[.int .i64 0, .int .i64 0] 27) := by show Blk _ _ _ _; rw [hW2]; exact (BA.out.alloc _).alloc _
  have hz2 : W2.heap.size = w1.heap.size + 2 := by rw [hW2]; simp
  rw [← hW2]
  clear hW2 HB1 BA
  obtain ⟨va, hva⟩ : ∃ va, va = w1.heap.size := ⟨_, rfl⟩
  rw [← hva] at HAR hz2 hz1 hzw ⊢
  clear hva
  clear w1
  go_wp2
  go_loopw [6, 7, 8] (fun A R i wr => ∃ (k : Nat) (aa : Option Addr) (ac : Nat) (ra : Option Addr) (rc : Nat), k ≤ os.length ∧ i = .int .i64 k ∧ A = .slice aa k ac ∧ R = .slice ra k rc ∧ (∀ j, j < k → q2 es os j = false) ∧ AR wr (w.heap.size + 1) (.slice aa k ac) (.slice ra k rc) (asL 1 es os k) (asL 2 es os k) ∧ Blk wr w.heap.size #[.int .i64 0, .int .i64 0] 27 ∧ Below w.heap.size w wr ∧ w.heap.size < wr.heap.size) (fun _ _ i _ => os.length - (RowKit.intOf i).toNat)
  case atStart => exact ⟨0, _, _, _, _, Nat.zero_le _, rfl, rfl, rfl, by simp, HAR.out, BA2.out, HB2.out, by omega⟩
  case round =>
    obtain ⟨k, aa, ac, ra, rc, hk, rfl, rfl, rfl, hA, hAR, hBA, hBw, hzr⟩ := hrel
    have HA : Hid (∀ j, j < k → q2 es os j = false) := hA
    have HARk : Hid (AR wr (w.heap.size + 1) (.slice aa k ac) (.slice ra k rc) (asL 1 es os k) (asL 2 es os k)) := hAR
    have HBA : Hid (Blk wr w.heap.size #[.int .i64 0, .int .i64 0] 27) := hBA
    have HBw : Hid (Below w.heap.size w wr) := hBw
    clear hA hAR hBA hBw HAR HB2 BA2 hz2 hz1 hzw
    by_cases hlt : k < os.length
    · obtain ⟨b, off, rfl, hr⟩ := HO.out.at_ hlt
      have HRG : Hid (∀ u, Below w.heap.size w u → u.rangeAt b (off + k * 6) [.int .i64 os[k].cl, .int .i64 os[k].sq, .int .i64 os[k].op, .string os[k].k, .string os[k].v, .string os[k].o]) := fun u hb => range_below (hr k hlt) hb
      have hfit := HO.out.fits os[k] (List.getElem_mem hlt)
      have HAS : Hid (∀ u, Below wr.heap.size wr u → Calls Try.prog 35 #[.slice ea es.length ec, .agg #[.int .i64 os[k].cl, .int .i64 os[k].sq, .int .i64 os[k].op, .string os[k].k, .string os[k].v, .string os[k].o]] u fun e w' => e = .returned (.int .i64 (askV 1 es os[k])) ∧ Below u.heap.size u w') := fun u hb => askOf_any ea ec es os[k] u (HE.out.below (HBw.out.trans (hb.mono (by omega)))) hle
      have HRP : Hid (∀ u, Evs u (.slice ea es.length ec) es → Calls Try.prog 37 #[.slice ea es.length ec, .agg #[.int .i64 os[k].cl, .int .i64 os[k].sq, .int .i64 os[k].op, .string os[k].k, .string os[k].v, .string os[k].o]] u fun e w' => e = .returned (.int .i64 (askV 2 es os[k])) ∧ Below u.heap.size u w') := fun u hb => replyOf_any ea ec es os[k] u hb hle
      have HPS : Hid (∀ u, Below wr.heap.size wr u → Calls Try.prog 36 #[.slice (some ⟨b, off, none⟩) os.length oc, .agg #[.int .i64 os[k].cl, .int .i64 os[k].sq, .int .i64 os[k].op, .string os[k].k, .string os[k].v, .string os[k].o]] u fun e w' => e = .returned (.int .i64 (plV os os[k])) ∧ Below u.heap.size u w') := fun u hb => placeOf_any _ oc os os[k] u (HO.out.below (HBw.out.trans (hb.mono (by omega)))) hlo
      have HAN : Hid (asL 1 es os (k + 1) = asL 1 es os k ++ [askV 1 es os[k]]) := by show _ = _; rw [asL_succ, cmAt_eq hlt]
      have HRN : Hid (asL 2 es os (k + 1) = asL 2 es os k ++ [askV 2 es os[k]]) := by show _ = _; rw [asL_succ, cmAt_eq hlt]
      have HQ : Hid (q2 es os k = ((findK 1 es os[k]).isNone || inCs (os.take k) os[k])) := by show _ = _; rw [q2, cmAt_eq hlt]
      have HPL := plV_lt hlt
      obtain ⟨A1, hA1⟩ : ∃ A1, A1 = askV 1 es os[k] := ⟨_, rfl⟩
      obtain ⟨R1, hR1⟩ : ∃ R1, R1 = askV 2 es os[k] := ⟨_, rfl⟩
      obtain ⟨P1, hP1⟩ : ∃ P1, P1 = plV os os[k] := ⟨_, rfl⟩
      rw [← hA1] at HAS HAN
      rw [← hR1] at HRP HRN
      rw [← hP1] at HPS HPL
      have hkl : (k : Int) < (os.length : Int) := by omega
      have HAV : Hid (A1 = askV 1 es os[k]) := hA1
      obtain ⟨c, hc⟩ : ∃ c, c = os[k] := ⟨_, rfl⟩
      rw [← hc] at HRG hfit HAS HRP HPS HQ HPL HAV
      clear hA1 hR1 hP1 hc hr
      have hr0 := HRG.out wr HBw.out
      have c0 : wr.cell? ⟨b, off + k * 6, none⟩ = some (.int .i64 c.cl) := hr0 0 _ rfl
      have c1 : wr.cell? ⟨b, off + k * 6 + 1, none⟩ = some (.int .i64 c.sq) := hr0 1 _ rfl
      have c2 : wr.cell? ⟨b, off + k * 6 + 2, none⟩ = some (.int .i64 c.op) := hr0 2 _ rfl
      have c3 : wr.cell? ⟨b, off + k * 6 + 3, none⟩ = some (.string c.k) := hr0 3 _ rfl
      have c4 : wr.cell? ⟨b, off + k * 6 + 4, none⟩ = some (.string c.v) := hr0 4 _ rfl
      have c5 : wr.cell? ⟨b, off + k * 6 + 5, none⟩ = some (.string c.o) := hr0 5 _ rfl
      clear hr0
      have g1 : True := trivial
      have HW0 : Hid (Below (w.heap.size + 1) wr wr) := Below.refl _ _
      cases hfk : findK 1 es c with
      | none =>
        have hAn : A1 = -1 := by rw [HAV.out]; exact askV_none hfk
        have HXk : Hid (X = (2, (k : Int))) := by
          show _ = _
          have : fstOf (q2 es os) os.length = k := fst_hit HA.out hlt (by rw [HQ.out, hfk]; rfl)
          rw [HX.out, lin_2 _ HNB.out HF1.out (by rw [this]; omega), this]
        subst hAn
        clear hfk
        go_wp2_with (go_at_call 35; refine (HAS.out _ (Below.refl _ _)).mono ?_; rintro e w2 ⟨rfl, hb⟩; have HV2 : Hid (Below wr.heap.size wr w2) := hb; have HU2 : Hid (Below w.heap.size w w2) := HBw.out.trans (hb.mono (by omega)); have BA2 : Hid (Blk w2 w.heap.size #[.int .i64 0, .int .i64 0] 27) := HBA.out.below HV2.out HBA.out.lt; have r0 : w2.cell? ⟨w.heap.size, 0, none⟩ = some (.int .i64 0) := BA2.out.cell 0; have r1 : w2.cell? ⟨w.heap.size, 1, none⟩ = some (.int .i64 0) := BA2.out.cell 1; have fr := BA2.out.free; clear hb)
        refine bodyPost_ret (v := .agg #[.int .i64 2, .int .i64 k]) (by simp [results, Try.results8, go_sem, *]) rfl ⟨by rw [HXk.out], (HU2.out.setCell (Nat.le_refl _) _).setCell (Nat.le_refl _) _⟩
      | some a =>
        have hAn : A1 = (a : Int) := by rw [HAV.out]; exact askV_some hfk
        have hge : ¬ (a : Int) < 0 := by omega
        subst hAn
        by_cases hpl : P1 < (k : Int)
        · have HXk : Hid (X = (2, (k : Int))) := by
            show _ = _
            have : fstOf (q2 es os) os.length = k := fst_hit HA.out hlt (by rw [HQ.out, HPL.1 hpl]; simp)
            rw [HX.out, lin_2 _ HNB.out HF1.out (by rw [this]; omega), this]
          clear hfk HPL
          go_wp2_with (first
            | (go_at_call 35; refine (HAS.out _ (Below.refl _ _)).mono ?_; rintro e w2 ⟨rfl, hb⟩; have HV2 : Hid (Below wr.heap.size wr w2) := hb; have HU2 : Hid (Below w.heap.size w w2) := HBw.out.trans (hb.mono (by omega)); have hr2 := HRG.out w2 HU2.out; have p0 : w2.cell? ⟨b, off + k * 6, none⟩ = some (.int .i64 c.cl) := hr2 0 _ rfl; have p1 : w2.cell? ⟨b, off + k * 6 + 1, none⟩ = some (.int .i64 c.sq) := hr2 1 _ rfl; have p2 : w2.cell? ⟨b, off + k * 6 + 2, none⟩ = some (.int .i64 c.op) := hr2 2 _ rfl; have p3 : w2.cell? ⟨b, off + k * 6 + 3, none⟩ = some (.string c.k) := hr2 3 _ rfl; have p4 : w2.cell? ⟨b, off + k * 6 + 4, none⟩ = some (.string c.v) := hr2 4 _ rfl; have p5 : w2.cell? ⟨b, off + k * 6 + 5, none⟩ = some (.string c.o) := hr2 5 _ rfl; clear hb hr2)
            | (go_at_call 36; refine (HPS.out _ HV2.out).mono ?_; rintro e w3 ⟨rfl, hb⟩; have HV3 : Hid (Below wr.heap.size wr w3) := HV2.out.trans (hb.mono HV2.out.size); have HW3 : Hid (Below (w.heap.size + 1) wr w3) := HV3.out.mono (by omega); have HU3 : Hid (Below w.heap.size w w3) := HBw.out.trans (HV3.out.mono (by omega)); have BA3 : Hid (Blk w3 w.heap.size #[.int .i64 0, .int .i64 0] 27) := HBA.out.below HV3.out HBA.out.lt; have r0 : w3.cell? ⟨w.heap.size, 0, none⟩ = some (.int .i64 0) := BA3.out.cell 0; have r1 : w3.cell? ⟨w.heap.size, 1, none⟩ = some (.int .i64 0) := BA3.out.cell 1; have fr := BA3.out.free; clear hb))
          refine bodyPost_ret (v := .agg #[.int .i64 2, .int .i64 k]) (by simp [results, Try.results8, go_sem, *]) rfl ⟨by rw [HXk.out], (HU3.out.setCell (Nat.le_refl _) _).setCell (Nat.le_refl _) _⟩
        · have HN : Hid (∀ j, j < k + 1 → q2 es os j = false) := fun j hj => by
            by_cases e : j = k
            · subst e
              rw [HQ.out, hfk]
              cases x : inCs (os.take j) c
              · rfl
              · exact absurd (HPL.2 x) hpl
            · exact HA.out j (by omega)
          clear hfk HPL
          go_wp2_with (first
            | (go_at_call 35; refine (HAS.out _ (Below.refl _ _)).mono ?_; rintro e w2 ⟨rfl, hb⟩; have HV2 : Hid (Below wr.heap.size wr w2) := hb; have HU2 : Hid (Below w.heap.size w w2) := HBw.out.trans (hb.mono (by omega)); have hr2 := HRG.out w2 HU2.out; have p0 : w2.cell? ⟨b, off + k * 6, none⟩ = some (.int .i64 c.cl) := hr2 0 _ rfl; have p1 : w2.cell? ⟨b, off + k * 6 + 1, none⟩ = some (.int .i64 c.sq) := hr2 1 _ rfl; have p2 : w2.cell? ⟨b, off + k * 6 + 2, none⟩ = some (.int .i64 c.op) := hr2 2 _ rfl; have p3 : w2.cell? ⟨b, off + k * 6 + 3, none⟩ = some (.string c.k) := hr2 3 _ rfl; have p4 : w2.cell? ⟨b, off + k * 6 + 4, none⟩ = some (.string c.v) := hr2 4 _ rfl; have p5 : w2.cell? ⟨b, off + k * 6 + 5, none⟩ = some (.string c.o) := hr2 5 _ rfl; clear hb hr2)
            | (go_at_call 36; refine (HPS.out _ HV2.out).mono ?_; rintro e w3 ⟨rfl, hb⟩; have HV3 : Hid (Below wr.heap.size wr w3) := HV2.out.trans (hb.mono HV2.out.size); have HW3 : Hid (Below (w.heap.size + 1) wr w3) := HV3.out.mono (by omega); have HU3 : Hid (Below w.heap.size w w3) := HBw.out.trans (HV3.out.mono (by omega)); clear hb)
            | (at_builtin; have hG := g1; clear hG g1; refine wpl_appendI rfl (.tmp 59) (.tmp 61) rfl (a : Int) ((HARk.out.below HV3.out).ia.below ((Below.refl _ _).alloc (Nat.le_refl _) _)) rfl w3.heap.size 1 (by simp [World.cell?_alloc_new]) rfl (by rw [asL_len]; omega) (by have := HV3.out.size; simp; omega) ?_; intro v4 w4 ho4 hg4; rw [← HAN.out] at ho4; obtain ⟨a4, c4, e4⟩ := ho4.shape; rw [asL_len] at e4; subst e4; have HAR4 : Hid (AR w4 (w.heap.size + 1) (.slice a4 (k + 1) c4) (.slice ra k rc) (asL 1 es os (k + 1)) (asL 2 es os k)) := ((HARk.out.below HV3.out).below ((Below.refl _ _).alloc (Nat.le_refl _) _)).appA ho4 hg4; have HZ4 : Hid (Below (w.heap.size + 1) wr w4) := (HW3.out.alloc (by have := HV3.out.size; omega) _).trans (growI hg4 ((HARk.out.below HV3.out).ia.below ((Below.refl _ _).alloc (Nat.le_refl _) _)) (by have := HV3.out.size; simp; omega)); have HU4 : Hid (Below w.heap.size w w4) := HBw.out.trans (HZ4.out.mono (by omega)); have hr4 := HRG.out w4 HU4.out; have q0 : w4.cell? ⟨b, off + k * 6, none⟩ = some (.int .i64 c.cl) := hr4 0 _ rfl; have q1 : w4.cell? ⟨b, off + k * 6 + 1, none⟩ = some (.int .i64 c.sq) := hr4 1 _ rfl; have q2 : w4.cell? ⟨b, off + k * 6 + 2, none⟩ = some (.int .i64 c.op) := hr4 2 _ rfl; have q3 : w4.cell? ⟨b, off + k * 6 + 3, none⟩ = some (.string c.k) := hr4 3 _ rfl; have q4 : w4.cell? ⟨b, off + k * 6 + 4, none⟩ = some (.string c.v) := hr4 4 _ rfl; have q5 : w4.cell? ⟨b, off + k * 6 + 5, none⟩ = some (.string c.o) := hr4 5 _ rfl; have HE4 : Hid (Evs w4 (.slice ea es.length ec) es) := HE.out.below HU4.out; have hz4 := HZ4.out.size; clear ho4 hg4 hr4)
            | (go_at_call 37; refine (HRP.out _ HE4.out).mono ?_; rintro e w5 ⟨rfl, hb⟩; have HV5 : Hid (Below w4.heap.size w4 w5) := hb; have hz5 := hb.size; clear hb)
            | (at_builtin; have hG := HV5; refine wpl_appendI rfl (.tmp 63) (.tmp 70) rfl R1 ((HAR4.out.below HV5.out).ib.below ((Below.refl _ _).alloc (Nat.le_refl _) _)) rfl w5.heap.size 1 (by simp [World.cell?_alloc_new]) rfl (by rw [asL_len]; omega) (by simp; omega) ?_; intro v6 w6 ho6 hg6; rw [← HRN.out] at ho6; obtain ⟨a6, c6, e6⟩ := ho6.shape; rw [asL_len] at e6; subst e6; have HAR6 : Hid (AR w6 (w.heap.size + 1) (.slice a4 (k + 1) c4) (.slice a6 (k + 1) c6) (asL 1 es os (k + 1)) (asL 2 es os (k + 1))) := ((HAR4.out.below HV5.out).below ((Below.refl _ _).alloc (Nat.le_refl _) _)).appB ho6 hg6; have HZ6 : Hid (Below (w.heap.size + 1) wr w6) := ((HZ4.out.trans (HV5.out.mono (by omega))).alloc (by omega) _).trans (growI hg6 ((HAR4.out.below HV5.out).ib.below ((Below.refl _ _).alloc (Nat.le_refl _) _)) (by simp; omega)); clear ho6 hg6 hG))
          go_roundw
          case rel => exact ⟨k + 1, a4, c4, a6, c6, by omega, by go_num, rfl, rfl, HN.out, HAR6.out, HBA.out.below HZ6.out (by omega), HBw.out.trans (HZ6.out.mono (by omega)), by have := HZ6.out.size; omega⟩
          case measure => simp [RowKit.intOf]; omega
    · obtain rfl : k = os.length := by omega
      have HF2 : Hid (fstOf (q2 es os) os.length < 0) := by show _ < _; rw [fst_no HA.out]; omega
      clear HA hlt hk
      obtain ⟨W3, hW3⟩ : ∃ W3, W3 = wr := ⟨_, rfl⟩
      rw [← hW3] at HARk HBA HBw hzr ⊢
      clear hW3
      clear wr
      go_wp2
      go_loopw [10] (fun i wr => ∃ k : Nat, k ≤ es.length ∧ i = .int .i64 k ∧ (∀ j, j < k → q3 es os j = false) ∧ Below W3.heap.size W3 wr) (fun i _ => es.length - (RowKit.intOf i).toNat)
      case atStart => exact ⟨0, Nat.zero_le _, rfl, by simp, Below.refl _ _⟩
      case round =>
        obtain ⟨k, hk, rfl, hA, hB4⟩ := hrel
        have HA : Hid (∀ j, j < k → q3 es os j = false) := hA
        have HB4 : Hid (Below W3.heap.size W3 wr) := hB4
        have hz4 := hB4.size
        clear hA hB4
        by_cases hlt : k < es.length
        · obtain ⟨b, off, rfl, hr⟩ := (HE.out.below (HBw.out.trans (HB4.out.mono (by omega)))).at_ hlt
          have HQ : Hid (q3 es os k = (decide (es[k].kd = 2) && !inCs os es[k].c)) := by show _ = _; rw [q3, evAt_eq hlt]
          have hr0 := hr k hlt
          have HPS : Hid (∀ u, Below wr.heap.size wr u → Calls Try.prog 36 #[.slice oa os.length oc, .agg #[.int .i64 es[k].c.cl, .int .i64 es[k].c.sq, .int .i64 es[k].c.op, .string es[k].c.k, .string es[k].c.v, .string es[k].c.o]] u fun e w' => e = .returned (.int .i64 (plV os es[k].c)) ∧ Below u.heap.size u w') := fun u hb => placeOf_any _ oc os es[k].c u (HO.out.below ((HBw.out.trans (HB4.out.mono (by omega))).trans (hb.mono (by omega)))) hlo
          have HPL := plV_neg os es[k].c
          obtain ⟨⟨kd, c, cd, v⟩, he⟩ : ∃ e, e = es[k] := ⟨_, rfl⟩
          rw [← he] at HQ hr0 HPS HPL
          clear he hr
          dsimp only at HQ HPS HPL
          have e0 : wr.cell? ⟨b, off + k * 9, none⟩ = some (.int .i64 kd) := hr0 0 _ rfl
          have e1 : wr.cell? ⟨b, off + k * 9 + 1, none⟩ = some (.int .i64 c.cl) := hr0 1 _ rfl
          have e2 : wr.cell? ⟨b, off + k * 9 + 2, none⟩ = some (.int .i64 c.sq) := hr0 2 _ rfl
          have e3 : wr.cell? ⟨b, off + k * 9 + 3, none⟩ = some (.int .i64 c.op) := hr0 3 _ rfl
          have e4 : wr.cell? ⟨b, off + k * 9 + 4, none⟩ = some (.string c.k) := hr0 4 _ rfl
          have e5 : wr.cell? ⟨b, off + k * 9 + 5, none⟩ = some (.string c.v) := hr0 5 _ rfl
          have e6 : wr.cell? ⟨b, off + k * 9 + 6, none⟩ = some (.string c.o) := hr0 6 _ rfl
          clear hr0
          have hkl : (k : Int) < (es.length : Int) := by omega
          by_cases h2 : kd = 2
          case neg =>
            have h2b : (kd == 2) = false := by simpa using h2
            have HN : Hid (∀ j, j < k + 1 → q3 es os j = false) := fun j hj => by
              by_cases e : j = k
              · subst e; rw [HQ.out]; simp [h2]
              · exact HA.out j (by omega)
            clear HPL
            go_wp2_with fail
            go_roundw
            case rel => exact ⟨k + 1, by omega, by go_num, HN.out, HB4.out⟩
            case measure => simp [RowKit.intOf]; omega
          case pos =>
            subst h2
            obtain ⟨P1, hP1⟩ : ∃ P1, P1 = plV os c := ⟨_, rfl⟩
            rw [← hP1] at HPS HPL
            clear hP1
            by_cases hpn : P1 < 0
            · have HXk : Hid (X = (3, (k : Int))) := by
                show _ = _
                have : fstOf (q3 es os) es.length = k := fst_hit HA.out hlt (by rw [HQ.out, HPL.1 hpn]; rfl)
                rw [HX.out, lin_3 _ HNB.out HF1.out HF2.out (by rw [this]; omega), this]
              clear HPL
              go_wp2_with (go_at_call 36; refine (HPS.out _ (Below.refl _ _)).mono ?_; rintro e w2 ⟨rfl, hb⟩; have HV : Hid (Below W3.heap.size W3 w2) := HB4.out.trans (hb.mono hz4); have BA2 : Hid (Blk w2 w.heap.size #[.int .i64 0, .int .i64 0] 27) := HBA.out.below HV.out HBA.out.lt; have r0 : w2.cell? ⟨w.heap.size, 0, none⟩ = some (.int .i64 0) := BA2.out.cell 0; have r1 : w2.cell? ⟨w.heap.size, 1, none⟩ = some (.int .i64 0) := BA2.out.cell 1; have fr := BA2.out.free; clear hb)
              refine bodyPost_ret (v := .agg #[.int .i64 3, .int .i64 k]) (by simp [results, Try.results8, go_sem, *]) rfl ⟨by rw [HXk.out], ((HBw.out.trans (HV.out.mono (by omega))).setCell (Nat.le_refl _) _).setCell (Nat.le_refl _) _⟩
            · have HN : Hid (∀ j, j < k + 1 → q3 es os j = false) := fun j hj => by
                by_cases e : j = k
                · subst e
                  rw [HQ.out]
                  cases x : inCs os c
                  · exact absurd (HPL.2 x) hpn
                  · rfl
                · exact HA.out j (by omega)
              clear HPL
              go_wp2_with (go_at_call 36; refine (HPS.out _ (Below.refl _ _)).mono ?_; rintro e w2 ⟨rfl, hb⟩; have HV : Hid (Below W3.heap.size W3 w2) := HB4.out.trans (hb.mono hz4); clear hb)
              go_roundw
              case rel => exact ⟨k + 1, by omega, by go_num, HN.out, HV.out⟩
              case measure => simp [RowKit.intOf]; omega
        · obtain rfl : k = es.length := by omega
          have HF3 : Hid (fstOf (q3 es os) es.length < 0) := by show _ < _; rw [fst_no HA.out]; omega
          have HAR4 : Hid (AR wr (w.heap.size + 1) (.slice aa os.length ac) (.slice ra os.length rc) (asL 1 es os os.length) (asL 2 es os os.length)) := HARk.out.below HB4.out
          have HBA4 : Hid (Blk wr w.heap.size #[.int .i64 0, .int .i64 0] 27) := HBA.out.below HB4.out HBA.out.lt
          have HBw4 : Hid (Below w.heap.size w wr) := HBw.out.trans (HB4.out.mono (by omega))
          clear HA hlt hk HARk HBA HBw HB4
          obtain ⟨W4, hW4⟩ : ∃ W4, W4 = wr := ⟨_, rfl⟩
          rw [← hW4] at HAR4 HBA4 HBw4 hz4 ⊢
          have hz5 : w.heap.size < W4.heap.size := by omega
          clear hW4 hz4 hzr
          clear wr
          go_upto_region 22 with fail
          obtain ⟨W5, hW5⟩ : ∃ W5, W5 = W4.alloc (.cells #[.slice none 0 0, .slice none 0 0] 42) := ⟨_, rfl⟩
          obtain ⟨tb, htb⟩ : ∃ tb, tb = W4.heap.size := ⟨_, rfl⟩
          have BT5 : Hid (Blk W5 tb #[.slice none 0 0, .slice none 0 0] 42) := by show Blk _ _ _ _; rw [hW5]; exact Blk.new' _ _ _ htb
          have HB5 : Hid (Below tb W4 W5) := by show Below _ _ _; rw [hW5, htb]; exact (Below.refl _ _).alloc (Nat.le_refl _) _
          rw [← hW5, ← htb]
          have hz6 : w.heap.size < tb := by omega
          rw [← htb] at hz5
          have HTB : Hid (tb = W4.heap.size) := htb
          clear hW5 htb
          go_wp2
          go_loopw [12] (fun i wr => ∃ (k : Nat) (va : Option Addr) (vc : Nat) (ua : Option Addr) (uc : Nat), k ≤ os.length ∧ i = .int .i64 k ∧ (∀ j, j < k → q4 es os (rsC os) j = false) ∧ TabO wr (tb + 1) (.slice va (rnC (os.take k)).1.length vc) (.slice ua (rnC (os.take k)).2.length uc) (rnC (os.take k)).1 (rnC (os.take k)).2 ∧ Blk wr tb #[.slice va (rnC (os.take k)).1.length vc, .slice ua (rnC (os.take k)).2.length uc] 42 ∧ Below tb W4 wr) (fun i _ => os.length - (RowKit.intOf i).toNat)
          case atStart => exact ⟨0, none, 0, none, 0, Nat.zero_le _, rfl, by simp, ⟨OwnG.nil _ _ _ _ _, OwnG.nil _ _ _ _ _, fun k e => by cases e⟩, BT5.out, HB5.out⟩
          case round =>
            obtain ⟨k, va', vc, ua, uc, hk, rfl, hA, hT, hBT, hB6⟩ := hrel
            have HA : Hid (∀ j, j < k → q4 es os (rsC os) j = false) := hA
            have HT : Hid (TabO wr (tb + 1) (.slice va' (rnC (os.take k)).1.length vc) (.slice ua (rnC (os.take k)).2.length uc) (rnC (os.take k)).1 (rnC (os.take k)).2) := hT
            have HBT : Hid (Blk wr tb #[.slice va' (rnC (os.take k)).1.length vc, .slice ua (rnC (os.take k)).2.length uc] 42) := hBT
            have HB6 : Hid (Below tb W4 wr) := hB6
            have htl := hBT.lt
            clear hA hT hBT hB6 BT5 HB5
            have HUw : Hid (Below w.heap.size w wr) := HBw4.out.trans (HB6.out.mono (by omega))
            by_cases hlt : k < os.length
            · obtain ⟨b, off, rfl, hr⟩ := HO.out.at_ hlt
              have HRG : Hid (wr.rangeAt b (off + k * 6) [.int .i64 os[k].cl, .int .i64 os[k].sq, .int .i64 os[k].op, .string os[k].k, .string os[k].v, .string os[k].o]) := range_below (hr k hlt) HUw.out
              have hcm := cms_good HF1.out HF2.out os[k] (List.getElem_mem hlt)
              have hok := rnC_ok (os.take k)
              have HRT : Hid (rnC (os.take (k + 1)) = stpC (rnC (os.take k)) os[k]) := rnC_take hlt
              have hco := cmF_ok hcm
              have HAP : Hid (∀ u', Below wr.heap.size wr u' → Calls Try.prog 38 #[.agg #[.slice va' (rnC (os.take k)).1.length vc, .slice ua (rnC (os.take k)).2.length uc], .agg #[.int .i64 os[k].cl, .int .i64 os[k].sq, .int .i64 os[k].op, .string os[k].k, .string os[k].v, .string os[k].o]] u' fun e w' => AnsT u' w' e (apC (rnC (os.take k)) os[k])) := fun u' hb => by
                rw [apC_eq _ hcm]
                exact l5apply_any _ _ _ _ _ _ _ _ _ _ u' ((HT.out.prs.sl prLaw (by have := hok.1.len; unfold maxLen; omega)).below hb) ((HT.out.ses.sl seLaw (by have := hok.2.len; unfold maxLen; omega)).below hb) hok.1 hok.2 (by have := hok.2.len; omega) (by omega) (fun _ => hco.1)
              have HQ : Hid (q4 es os (rsC os) k = lk4 es (findK 2 es os[k]) (apC (rnC (os.take k)) os[k]).2.1 (apC (rnC (os.take k)) os[k]).2.2.1) := by show _ = _; rw [q4_eq, rsC_eq hlt, cmAt_eq hlt]
              have HRV : Hid (∀ hj : k < (asL 2 es os os.length).length, (asL 2 es os os.length)[k] = askV 2 es os[k]) := fun hj => by rw [asL_at, cmAt_eq hlt]
              rw [stpC] at HRT
              obtain ⟨x, hx⟩ : ∃ x, x = apC (rnC (os.take k)) os[k] := ⟨_, rfl⟩
              rw [← hx] at HAP HQ HRT
              clear hx
              obtain ⟨y1, y2, y3, x3, x4⟩ := x
              unfold AnsT at HAP
              dsimp only at HAP HQ HRT
              obtain ⟨pn, hpn⟩ : ∃ pn, pn = (rnC (os.take k)).1.length := ⟨_, rfl⟩
              obtain ⟨sn, hsn⟩ : ∃ sn, sn = (rnC (os.take k)).2.length := ⟨_, rfl⟩
              rw [← hpn, ← hsn] at HAP HBT
              obtain ⟨c, hc⟩ : ∃ c, c = os[k] := ⟨_, rfl⟩
              rw [← hc] at HRG HAP HQ HRV
              clear hc hr hcm hok hco hpn hsn HT
              have c0 : wr.cell? ⟨b, off + k * 6, none⟩ = some (.int .i64 c.cl) := HRG.out 0 _ rfl
              have c1 : wr.cell? ⟨b, off + k * 6 + 1, none⟩ = some (.int .i64 c.sq) := HRG.out 1 _ rfl
              have c2 : wr.cell? ⟨b, off + k * 6 + 2, none⟩ = some (.int .i64 c.op) := HRG.out 2 _ rfl
              have c3 : wr.cell? ⟨b, off + k * 6 + 3, none⟩ = some (.string c.k) := HRG.out 3 _ rfl
              have c4 : wr.cell? ⟨b, off + k * 6 + 4, none⟩ = some (.string c.v) := HRG.out 4 _ rfl
              have c5 : wr.cell? ⟨b, off + k * 6 + 5, none⟩ = some (.string c.o) := HRG.out 5 _ rfl
              have hkl : (k : Int) < (os.length : Int) := by omega
              have hbl := cell_lt c0
              have nb : ¬ b = wr.heap.size := by omega
              have nt : ¬ tb = wr.heap.size := by omega
              have t0 : wr.cell? ⟨tb, 0, none⟩ = some (.slice va' pn vc) := HBT.out.cell 0
              have t1 : wr.cell? ⟨tb, 1, none⟩ = some (.slice ua sn uc) := HBT.out.cell 1
              go_upto_region 25 with fail
              go_cut [12, 13] from 97 to 143 (fun x12 x13 wc => x12 = .int .i64 k ∧ ∃ (ob : Nat) (va2 : Option Addr) (vc2 : Nat) (ua2 : Option Addr) (uc2 : Nat), x13 = .pointer (some ⟨ob, 0, none⟩) ∧ wr.heap.size ≤ ob ∧ Blk wc ob #[.int .i64 y1, .int .i64 y2, .string y3, .slice va2 x3.length vc2, .slice ua2 x4.length uc2] 60 ∧ TabO wc wr.heap.size (.slice va2 x3.length vc2) (.slice ua2 x4.length uc2) x3 x4 ∧ Below wr.heap.size wr wc)
              case first =>
                go_region_law
                  (first | (refine stp_callT (N := 38) rfl rfl (fun _ _ => by go_simp) #[.agg #[.slice va' pn vc, .slice ua sn uc], .agg #[.int .i64 c.cl, .int .i64 c.sq, .int .i64 c.op, .string c.k, .string c.v, .string c.o]] (by first | rfl | simp [Act.eval]) ?_; refine (HAP.out _ (by first | exact (Below.refl _ _).drew | exact ((Below.refl _ _).alloc (Nat.le_refl _) _).drew)).mono ?_; rintro r w2 ⟨va2, vc2, ua2, uc2, rfl, hT2, hb2⟩; refine ⟨_, rfl, ?_⟩; have HT2 : Hid (TabO w2 _ (.slice va2 x3.length vc2) (.slice ua2 x4.length uc2) x3 x4) := hT2; have HB2 : Hid (Below _ _ w2) := hb2; (first | (have BO : Hid (Blk w2 wr.heap.size #[.int .i64 0, .int .i64 0, .string ⟨#[]⟩, .slice none 0 0, .slice none 0 0] 60) := (Blk.new wr _ _).drew.below hb2 (by simp); have z0 : w2.cell? ⟨wr.heap.size, 0, none⟩ = some (.int .i64 0) := BO.out.cell 0; have z1 : w2.cell? ⟨wr.heap.size, 1, none⟩ = some (.int .i64 0) := BO.out.cell 1; have z2 : w2.cell? ⟨wr.heap.size, 2, none⟩ = some (.string ⟨#[]⟩) := BO.out.cell 2; have z3 : w2.cell? ⟨wr.heap.size, 3, none⟩ = some (.slice none 0 0) := BO.out.cell 3; have z4 : w2.cell? ⟨wr.heap.size, 4, none⟩ = some (.slice none 0 0) := BO.out.cell 4; have zf := BO.out.free) | skip); clear hT2 hb2))
                all_goals go_wp2_with fail
                all_goals go_meet
                all_goals first
                  | exact ⟨rfl, w2.heap.size, va2, vc2, ua2, uc2, rfl, HB2.out.size, Blk.new _ _ _, HT2.out.keep (Nat.le_refl _) (fun j _ hj => Below.heap_alloc _ _ _ hj), ((Below.refl _ _).drew.trans HB2.out).alloc HB2.out.size _⟩
                  | exact ⟨rfl, wr.heap.size, va2, vc2, ua2, uc2, rfl, Nat.le_refl _, (by simpa using ((((BO.out.set 0 (.int .i64 y1)).set 1 (.int .i64 y2)).set 2 (.string y3)).set 3 (.slice va2 x3.length vc2)).set 4 (.slice ua2 x4.length uc2)), HT2.out.keep (by show wr.heap.size ≤ (wr.alloc _).heap.size; simp) (fun j hj _ => by have hj' : (wr.alloc (.cells #[.int .i64 0, .int .i64 0, .string ⟨#[]⟩, .slice none 0 0, .slice none 0 0] 60)).heap.size ≤ j := hj; simp at hj'; rw [Below.heap_setCell _ _ _ _ (by simp only []; omega), Below.heap_setCell _ _ _ _ (by simp only []; omega), Below.heap_setCell _ _ _ _ (by simp only []; omega), Below.heap_setCell _ _ _ _ (by simp only []; omega), Below.heap_setCell _ _ _ _ (by simp only []; omega)]), (((((((Below.refl _ _).alloc (Nat.le_refl _) _).drew.trans (HB2.out.mono (by show wr.heap.size ≤ (wr.alloc _).heap.size; simp))).setCell (Nat.le_refl _) _).setCell (Nat.le_refl _) _).setCell (Nat.le_refl _) _).setCell (Nat.le_refl _) _).setCell (Nat.le_refl _) _⟩
              case rest =>
                obtain ⟨h12, ob, va2, vc2, ua2, uc2, h13, hob, hBO, hTO, hBO2⟩ := hcut
                rw [h12, h13]
                have HBO : Hid (Blk wc ob #[.int .i64 y1, .int .i64 y2, .string y3, .slice va2 x3.length vc2, .slice ua2 x4.length uc2] 60) := hBO
                have HTO : Hid (TabO wc wr.heap.size (.slice va2 x3.length vc2) (.slice ua2 x4.length uc2) x3 x4) := hTO
                have HB7 : Hid (Below wr.heap.size wr wc) := hBO2
                have hz7 := hBO2.size
                have HBT7 : Hid (Blk wc tb #[.slice va' pn vc, .slice ua sn uc] 42) := HBT.out.below hBO2 htl
                clear h12 h13 hBO hTO hBO2 HAP t0 t1 nb nt hbl c0 c1 c2 c3 c4 c5 HRG HBT
                have t0 : wc.cell? ⟨tb, 0, none⟩ = some (.slice va' pn vc) := HBT7.out.cell 0
                have t1 : wc.cell? ⟨tb, 1, none⟩ = some (.slice ua sn uc) := HBT7.out.cell 1
                have tf := HBT7.out.free
                have o3 : wc.cell? ⟨ob, 3, none⟩ = some (.slice va2 x3.length vc2) := HBO.out.cell 3
                have o4 : wc.cell? ⟨ob, 4, none⟩ = some (.slice ua2 x4.length uc2) := HBO.out.cell 4
                have not_ : ¬ ob = tb := by omega
                have not2 : ¬ tb = ob := by omega
                go_upto_region 27 with fail
                obtain ⟨W8, hW8⟩ : ∃ W8, W8 = (wc.setCell ⟨tb, 0, none⟩ (.slice va2 x3.length vc2)).setCell ⟨tb, 1, none⟩ (.slice ua2 x4.length uc2) := ⟨_, rfl⟩
                have HT8 : Hid (TabO W8 (tb + 1) (.slice va2 x3.length vc2) (.slice ua2 x4.length uc2) x3 x4) := by show TabO _ _ _ _ _ _; rw [hW8]; exact HTO.out.keep (by omega) (fun j hj _ => by rw [Below.heap_setCell _ _ _ _ (by simp only []; omega), Below.heap_setCell _ _ _ _ (by simp only []; omega)])
                have HBT8 : Hid (Blk W8 tb #[.slice va2 x3.length vc2, .slice ua2 x4.length uc2] 42) := by show Blk _ _ _ _; rw [hW8]; simpa using (HBT7.out.set 0 (.slice va2 x3.length vc2)).set 1 (.slice ua2 x4.length uc2)
                have HBO8 : Hid (Blk W8 ob #[.int .i64 y1, .int .i64 y2, .string y3, .slice va2 x3.length vc2, .slice ua2 x4.length uc2] 60) := by show Blk _ _ _ _; rw [hW8]; exact (HBO.out.set_other _ (by simp only []; omega)).set_other _ (by simp only []; omega)
                have HB8 : Hid (Below tb W4 W8) := by show Below _ _ _; rw [hW8]; exact ((HB6.out.trans (HB7.out.mono (by omega))).setCell (Nat.le_refl _) _).setCell (Nat.le_refl _) _
                rw [← hW8]
                clear hW8 t0 t1 tf o3 o4 HBO HTO HB7 HBT7 HB6 HUw
                clear hz7
                clear wc
                have HU8 : Hid (Below w.heap.size w W8) := HBw4.out.trans (HB8.out.mono (by omega))
                have o1 : W8.cell? ⟨ob, 1, none⟩ = some (.int .i64 y2) := HBO8.out.cell 1
                have o2 : W8.cell? ⟨ob, 2, none⟩ = some (.string y3) := HBO8.out.cell 2
                have hAR8 := HAR4.out.below (HB8.out.mono (by have := HTB.out; omega))
                obtain ⟨g2, hg2, _, hgc⟩ := hAR8.ib.at_ (j := k) (by rw [asL_len]; exact hlt)
                subst hg2
                have hgk := hgc k (by rw [asL_len]; exact hlt)
                rw [HRV.out] at hgk
                obtain ⟨R1, hR1⟩ : ∃ R1, R1 = askV 2 es c := ⟨_, rfl⟩
                rw [← hR1] at hgk
                have HR1 : Hid (R1 = askV 2 es c) := hR1
                clear hR1 hgc hAR8 HRV
                have BA8 : Hid (Blk W8 w.heap.size #[.int .i64 0, .int .i64 0] 27) := HBA4.out.below HB8.out hz6
                have a0 : W8.cell? ⟨w.heap.size, 0, none⟩ = some (.int .i64 0) := BA8.out.cell 0
                have a1 : W8.cell? ⟨w.heap.size, 1, none⟩ = some (.int .i64 0) := BA8.out.cell 1
                have af := BA8.out.free
                cases hfr : findK 2 es c with
                | none =>
                  have hRn : R1 = -1 := by rw [HR1.out]; exact askV_none hfr
                  subst hRn
                  have HN : Hid (∀ j, j < k + 1 → q4 es os (rsC os) j = false) := fun j hj => by
                    by_cases e : j = k
                    · subst e; rw [HQ.out, hfr]; rfl
                    · exact HA.out j (by omega)
                  clear hfr HQ HR1
                  go_wp2_with fail
                  go_quiet (fail)
                  go_wp2
                  go_roundw
                  case rel => exact ⟨k + 1, va2, vc2, ua2, uc2, by omega, by go_num, HN.out, by rw [HRT.out]; exact HT8.out.keep (Nat.le_refl _) (fun _ _ _ => rfl), by rw [HRT.out]; exact HBT8.out, below_dN HB8.out _⟩
                  case measure => simp [RowKit.intOf]; omega
                | some r =>
                  have hRn : R1 = (r : Int) := by rw [HR1.out]; exact askV_some hfr
                  obtain ⟨hrl, _, _, _⟩ := findK_lt hfr
                  have HQ2 : Hid (q4 es os (rsC os) k = (decide (es[r].cd ≠ y2) || decide (es[r].v ≠ y3))) := by show _ = _; rw [HQ.out, hfr, lk4, evAt_eq hrl]
                  subst hRn
                  obtain ⟨eb, eo, rfl, hre⟩ := (HE.out.below HU8.out).at_ hrl
                  have r7 : W8.cell? ⟨eb, eo + r * 9 + 7, none⟩ = some (.int .i64 es[r].cd) := hre r hrl 7 _ rfl
                  have r8 : W8.cell? ⟨eb, eo + r * 9 + 8, none⟩ = some (.string es[r].v) := hre r hrl 8 _ rfl
                  obtain ⟨cd, hcd⟩ : ∃ cd, cd = es[r].cd := ⟨_, rfl⟩
                  obtain ⟨v, hv⟩ : ∃ v, v = es[r].v := ⟨_, rfl⟩
                  rw [← hcd] at r7 HQ2
                  rw [← hv] at r8 HQ2
                  have hgi : (r : Int) < (es.length : Int) := by omega
                  have hg0 : (0 : Int) ≤ (r : Int) := by omega
                  have hg1 : decide ((0 : Int) ≤ (r : Int)) = true := decide_eq_true hg0
                  clear hcd hv hre hfr HR1 HQ
                  by_cases hx : cd = y2
                  · have hn1 : (cd != y2) = false := by simp [hx]
                    by_cases hy : v = y3
                    · have HN : Hid (∀ j, j < k + 1 → q4 es os (rsC os) j = false) := fun j hj => by
                        by_cases e : j = k
                        · subst e; rw [HQ2.out, hx, hy]; simp
                        · exact HA.out j (by omega)
                      have hs1 : (v.toList == y3.toList) = true := by rw [tl_beq]; exact decide_eq_true hy
                      have hs2 : (v.toList != y3.toList) = false := by rw [bne, hs1]; rfl
                      clear hx hy
                      go_wp2_with fail
                      go_quiet (fail)
                      go_wp2
                      go_roundw
                      case rel => exact ⟨k + 1, va2, vc2, ua2, uc2, by omega, by go_num, HN.out, by rw [HRT.out]; exact HT8.out.keep (Nat.le_refl _) (fun _ _ _ => rfl), by rw [HRT.out]; exact HBT8.out, below_dN HB8.out _⟩
                      case measure => simp [RowKit.intOf]; omega
                    · have HXk : Hid (X = (4, (k : Int))) := by
                        show _ = _
                        have : fstOf (q4 es os (rsC os)) os.length = k := fst_hit HA.out hlt (by rw [HQ2.out]; simp [hy])
                        rw [HX.out, lin_4 _ HNB.out HF1.out HF2.out HF3.out (by rw [this]; omega), this]
                      have hs1 : (v.toList == y3.toList) = false := by rw [tl_beq]; exact decide_eq_false hy
                      have hs2 : (v.toList != y3.toList) = true := by rw [bne, hs1]; rfl
                      clear hx hy
                      go_wp2_with fail
                      go_quiet (fail)
                      go_wp2
                      refine bodyPost_ret (v := .agg #[.int .i64 4, .int .i64 k]) (by simp [results, Try.results8, go_sem, *]) rfl ⟨by rw [HXk.out], ((below_dN HU8.out _).setCell (Nat.le_refl _) _).setCell (Nat.le_refl _) _⟩
                  · have HXk : Hid (X = (4, (k : Int))) := by
                      show _ = _
                      have : fstOf (q4 es os (rsC os)) os.length = k := fst_hit HA.out hlt (by rw [HQ2.out]; simp [hx])
                      rw [HX.out, lin_4 _ HNB.out HF1.out HF2.out HF3.out (by rw [this]; omega), this]
                    have hn1 : (cd != y2) = true := by simpa using hx
                    clear hx
                    go_wp2_with fail
                    go_quiet (fail)
                    go_wp2
                    refine bodyPost_ret (v := .agg #[.int .i64 4, .int .i64 k]) (by simp [results, Try.results8, go_sem, *]) rfl ⟨by rw [HXk.out], ((below_dN HU8.out _).setCell (Nat.le_refl _) _).setCell (Nat.le_refl _) _⟩
            · obtain rfl : k = os.length := by omega
              have HF4 : Hid (fstOf (q4 es os (rsC os)) os.length < 0) := by show _ < _; rw [fst_no HA.out]; omega
              have HAR9 : Hid (AR wr (w.heap.size + 1) (.slice aa os.length ac) (.slice ra os.length rc) (asL 1 es os os.length) (asL 2 es os os.length)) := HAR4.out.below (HB6.out.mono (by have := HTB.out; omega))
              have HBA9 : Hid (Blk wr w.heap.size #[.int .i64 0, .int .i64 0] 27) := HBA4.out.below HB6.out hz6
              clear HA hlt hk HT HBT HB6 HAR4 HBA4 HBw4
              obtain ⟨W9, hW9⟩ : ∃ W9, W9 = wr := ⟨_, rfl⟩
              rw [← hW9] at HAR9 HBA9 HUw htl ⊢
              clear hW9
              clear wr
              have hz9 : w.heap.size < W9.heap.size := HBA9.out.lt
              have HALL : Hid (∀ i, i < os.length → (findK 1 es (cmAt os i)).isSome = true) := asked_all HF2.out
              go_wp2
              go_loopw [14] (fun i wr => ∃ k : Nat, k ≤ os.length ∧ i = .int .i64 k ∧ (∀ j, j < k → q5 es os j = false) ∧ Below W9.heap.size W9 wr) (fun i _ => os.length - (RowKit.intOf i).toNat)
              case atStart => exact ⟨0, Nat.zero_le _, rfl, by simp, Below.refl _ _⟩
              case round =>
                obtain ⟨k, hk, rfl, hA, hB10⟩ := hrel
                have HA : Hid (∀ j, j < k → q5 es os j = false) := hA
                have HB10 : Hid (Below W9.heap.size W9 wr) := hB10
                clear hA hB10
                by_cases hlt : k < os.length
                · have hkl : (k : Int) < (os.length : Int) := by omega
                  have HAI : Hid (askV 1 es (cmAt os k) = (askI es os k : Int)) := by
                    show _ = _
                    obtain ⟨a, ha⟩ := Option.isSome_iff_exists.1 (HALL.out k hlt)
                    rw [askV_some ha, askI, ha]; rfl
                  obtain ⟨V, hV⟩ : ∃ V, V = wr := ⟨_, rfl⟩
                  rw [← hV] at HB10 ⊢
                  clear hV
                  clear wr
                  have hwk : IntKind.i64.wrap ((k : Int) + 1) = (k : Int) + 1 := by rw [IntKind.wrap_i64]; omega
                  go_wp2
                  go_loopw [15] (fun i wr => ∃ j : Nat, k + 1 ≤ j ∧ j ≤ os.length ∧ i = .int .i64 j ∧ (∀ q, k < q → q < j → ear es os k q = false) ∧ Below W9.heap.size W9 wr) (fun i _ => os.length - (RowKit.intOf i).toNat)
                  case atStart => exact ⟨k + 1, Nat.le_refl _, by omega, by go_num, fun q h1 h2 => by omega, HB10.out⟩
                  case round =>
                    obtain ⟨j, hj1, hj2, rfl, hJ, hB11⟩ := hrel
                    have HJ : Hid (∀ q, k < q → q < j → ear es os k q = false) := hJ
                    have HB11 : Hid (Below W9.heap.size W9 wr) := hB11
                    clear hJ hB11
                    have hARr := HAR9.out.below HB11.out
                    have BAr : Hid (Blk wr w.heap.size #[.int .i64 0, .int .i64 0] 27) := HBA9.out.below HB11.out hz9
                    have HUr : Hid (Below w.heap.size w wr) := HUw.out.trans (HB11.out.mono (by omega))
                    by_cases hjl : j < os.length
                    · have hjli : (j : Int) < (os.length : Int) := by omega
                      obtain ⟨g2, hg2, _, hgc⟩ := hARr.ib.at_ (j := j) (by rw [asL_len]; exact hjl)
                      obtain ⟨g1, hg1, _, hac⟩ := hARr.ia.at_ (j := j) (by rw [asL_len]; exact hjl)
                      subst hg2 hg1
                      have hgk := hgc j (by rw [asL_len]; exact hjl)
                      have hak := hac k (by rw [asL_len]; exact hlt)
                      rw [asL_at] at hgk hak
                      rw [HAI.out] at hak
                      obtain ⟨A1, hA1⟩ : ∃ A1, A1 = askI es os k := ⟨_, rfl⟩
                      rw [← hA1] at hak
                      have HEA : Hid (ear es os k j = (match findK 2 es (cmAt os j) with | some r => decide (r < A1) | none => false)) := by show _ = _; rw [hA1]; rfl
                      clear hA1 hgc hac hARr
                      have a0 : wr.cell? ⟨w.heap.size, 0, none⟩ = some (.int .i64 0) := BAr.out.cell 0
                      have a1 : wr.cell? ⟨w.heap.size, 1, none⟩ = some (.int .i64 0) := BAr.out.cell 1
                      have af := BAr.out.free
                      cases hfr : findK 2 es (cmAt os j) with
                      | none =>
                        rw [askV_none hfr] at hgk
                        have HN : Hid (∀ q, k < q → q < j + 1 → ear es os k q = false) := fun q h1 h2 => by
                          by_cases e : q = j
                          · subst e; rw [HEA.out, hfr]
                          · exact HJ.out q h1 (by omega)
                        clear hfr HEA
                        go_wp2_with fail
                        go_quiet (fail)
                        go_wp2
                        go_roundw
                        case rel => exact ⟨j + 1, by omega, by omega, by go_num, HN.out, below_dN HB11.out _⟩
                        case measure => simp [RowKit.intOf]; omega
                      | some r =>
                        rw [askV_some hfr] at hgk
                        have hg0 : (0 : Int) ≤ (r : Int) := by omega
                        have hg1 : decide ((0 : Int) ≤ (r : Int)) = true := decide_eq_true hg0
                        by_cases hra : r < A1
                        · have HXk : Hid (X = (5, (k : Int))) := by
                            show _ = _
                            have : fstOf (q5 es os) os.length = k := fst_hit HA.out hlt (by
                              unfold q5
                              refine List.any_eq_true.2 ⟨j, List.mem_range.2 hjl, ?_⟩
                              rw [HEA.out, hfr]
                              simp [hra]; omega)
                            rw [HX.out, lin_5 _ HNB.out HF1.out HF2.out HF3.out HF4.out (by rw [this]; omega), this]
                          have hq1 : decide ((r : Int) < (A1 : Int)) = true := decide_eq_true (by omega)
                          have hq2 : decide (r < A1) = true := decide_eq_true hra
                          have hq3 : (r : Int) < (A1 : Int) := by omega
                          clear hfr HEA
                          go_wp2_with fail
                          go_quiet (fail)
                          go_wp2
                          refine bodyPost_ret (v := .agg #[.int .i64 5, .int .i64 k]) (by simp [results, Try.results8, go_sem, *]) rfl ⟨by rw [HXk.out], ((below_dN HUr.out _).setCell (Nat.le_refl _) _).setCell (Nat.le_refl _) _⟩
                        · have HN : Hid (∀ q, k < q → q < j + 1 → ear es os k q = false) := fun q h1 h2 => by
                            by_cases e : q = j
                            · subst e; rw [HEA.out, hfr]; simp [hra]
                            · exact HJ.out q h1 (by omega)
                          have hq1 : decide ((r : Int) < (A1 : Int)) = false := decide_eq_false (by omega)
                          have hq2 : decide (r < A1) = false := decide_eq_false hra
                          have hq3 : ¬ (r : Int) < (A1 : Int) := by omega
                          clear hfr HEA
                          go_wp2_with fail
                          go_quiet (fail)
                          go_wp2
                          go_roundw
                          case rel => exact ⟨j + 1, by omega, by omega, by go_num, HN.out, below_dN HB11.out _⟩
                          case measure => simp [RowKit.intOf]; omega
                    · obtain rfl : j = os.length := by omega
                      have HN : Hid (∀ q, q < k + 1 → q5 es os q = false) := fun q hq => by
                        by_cases e : q = k
                        · subst e
                          cases x : q5 es os q
                          · rfl
                          · exfalso
                            unfold q5 at x
                            obtain ⟨z, hz1, hz2⟩ := List.any_eq_true.1 x
                            simp only [Bool.and_eq_true, decide_eq_true_eq] at hz2
                            have := HJ.out z hz2.1 (List.mem_range.1 hz1)
                            rw [this] at hz2
                            cases hz2.2
                        · exact HA.out q (by omega)
                      clear HJ hARr
                      go_wp2
                      go_roundw
                      case rel => exact ⟨k + 1, by omega, by go_num, HN.out, HB11.out⟩
                      case measure => simp [RowKit.intOf]; omega
                · obtain rfl : k = os.length := by omega
                  have HF5 : Hid (fstOf (q5 es os) os.length < 0) := by show _ < _; rw [fst_no HA.out]; omega
                  have HXk : Hid (X = (0, 0)) := by show _ = _; rw [HX.out]; exact lin_0 _ HNB.out HF1.out HF2.out HF3.out HF4.out HF5.out
                  have BAr : Hid (Blk wr w.heap.size #[.int .i64 0, .int .i64 0] 27) := HBA9.out.below HB10.out hz9
                  have HUr : Hid (Below w.heap.size w wr) := HUw.out.trans (HB10.out.mono (by omega))
                  have a0 : wr.cell? ⟨w.heap.size, 0, none⟩ = some (.int .i64 0) := BAr.out.cell 0
                  have a1 : wr.cell? ⟨w.heap.size, 1, none⟩ = some (.int .i64 0) := BAr.out.cell 1
                  have af := BAr.out.free
                  go_wp2
                  refine bodyPost_ret (v := .agg #[.int .i64 0, .int .i64 0]) (by simp [results, Try.results8, go_sem, *]) rfl ⟨by rw [HXk.out], (HUr.out.setCell (Nat.le_refl _) _).setCell (Nat.le_refl _) _⟩
end Go.Proofs.Ytnoihfincifphaa
