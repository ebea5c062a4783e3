/-
  (*impl.judge).unlike.
-/
import Derived.Test.YtnoihfincifphaaLnMiss
import Derived.Test.YtnoihfincifphaaLnRun
namespace Go.Proofs.Ytnoihfincifphaa
open Go.RowKit Go.Maps
set_option linter.unusedVariables false
set_option linter.unusedSimpArgs false

set_option maxHeartbeats 8000000 in
set_option maxRecDepth 100000 in
theorem unlike_any (jb bt bp bl bo : Nat) (ea : Option Addr) (ec : Nat) (oa : Option Addr) (oc : Nat) (es : List Evn) (os : List Cm) (n : Nat) (w : World)
    (h : JB w jb bt bp bl bo (.slice ea es.length ec) (.slice oa os.length oc)) (hM : MT w bt n (tn es.length es)) (hE : Evs w (.slice ea es.length ec) es) (hO : Cms w (.slice oa os.length oc) os) (hl : es.length ≤ 4096) (hl2 : os.length ≤ 4096) (hF : ∀ i, i < os.length → (findK 1 es (cmAt os i)).isSome = true) (hC : ∀ c ∈ os, cmF c = 0) :
    Calls Try.prog 43 #[.pointer (some ⟨jb, 0, none⟩)] w fun e w' => e = .returned (.int .i64 (fstOf (q4 es os (rsC os)) os.length)) ∧ Below w.heap.size w w' := by
  have HJB : Hid (Blk w jb #[.slice ea es.length ec, .slice oa os.length oc, .map (some bt), .map (some bp), .map (some bl), .map (some bo)] 84) := h.blk
  have HE : Hid (Evs w (.slice ea es.length ec) es) := hE
  have HO : Hid (Cms w (.slice oa os.length oc) os) := hO
  have HM : Hid (MT w bt n (tn es.length es)) := hM
  have HFO : Hid (∀ i, i < os.length → (findK 1 es (cmAt os i)).isSome = true) := hF
  have HCO : Hid (∀ c ∈ os, cmF c = 0) := hC
  have hjl := h.blk.lt
  have hlt' := h.lt.1
  clear h hE hO hM hF hC
  obtain ⟨F, hF⟩ : ∃ F, F = fstOf (q4 es os (rsC os)) os.length := ⟨_, rfl⟩
  have HF : Hid (F = fstOf (q4 es os (rsC os)) os.length) := hF
  rw [← hF]
  clear hF
  have HTO : Hid (Calls Try.prog 51 #[.agg #[.slice none 0 0, .slice none 0 0]] w fun e w' => e = .returned (.agg #[.map (some (w.heap.size + 2)), .map (some (w.heap.size + 3))]) ∧ MP w' (w.heap.size + 2) [] ∧ MS w' (w.heap.size + 3) [] ∧ Below w.heap.size w w') := tableOf_any _ _ [] [] w ⟨by simp, _, _, rfl, fun i hi => absurd hi (by simp)⟩ ⟨by simp, _, _, rfl, fun i hi => absurd hi (by simp)⟩ nilPs_ok nilSs_ok (by simp)
  go_enter Try.func43, Try.ntmps43
  go_upto_region 2 with (go_at_call 51; refine HTO.out.mono ?_; rintro r w2 ⟨rfl, hm2, hs2, hb2⟩)
  obtain ⟨M, hMM⟩ : ∃ M, M = w.heap.size := ⟨_, rfl⟩
  rw [← hMM] at hm2 hs2 ⊢
  obtain ⟨W2, hW2⟩ : ∃ W2, W2 = w2.alloc (.cells #[.map (some (M + 2)), .map (some (M + 3))] 99) := ⟨_, rfl⟩
  obtain ⟨tb, htb⟩ : ∃ tb, tb = w2.heap.size := ⟨_, rfl⟩
  have BT2 : Hid (Blk W2 tb #[.map (some (M + 2)), .map (some (M + 3))] 99) := by show Blk _ _ _ _; rw [hW2]; exact Blk.new' _ _ _ htb
  have HM3 : Hid (MP W2 (M + 2) []) := by show MP _ _ _; rw [hW2]; exact hm2.alloc _
  have HS3 : Hid (MS W2 (M + 3) []) := by show MS _ _ _; rw [hW2]; exact hs2.alloc _
  have HB2 : Hid (Below w.heap.size w W2) := by show Below _ _ _; rw [hW2]; exact hb2.alloc (by have := hb2.size; omega) _
  have htw : M ≤ tb := by have := hb2.size; omega
  have ht2 : M + 3 < tb := by have := hs2.lt; omega
  rw [← hW2, ← htb]
  clear hW2 htb hm2 hs2 hb2 HTO
  have j1 : W2.cell? ⟨jb, 1, none⟩ = some (.slice oa os.length oc) := (HJB.out.keep (HB2.out.block jb hjl)).cell 1
  have HMM : Hid (M = w.heap.size) := hMM
  have hMz : w.heap.size ≤ M := by omega
  clear hMM
  go_wp2
  go_loopw [15] (fun i wr => ∃ k : Nat, k ≤ os.length ∧ i = .int .i64 k ∧ (∀ j, j < k → q4 es os (rsC os) j = false) ∧ MP wr (M + 2) (rnC (os.take k)).1 ∧ MS wr (M + 3) (rnC (os.take k)).2 ∧ Blk wr tb #[.map (some (M + 2)), .map (some (M + 3))] 99 ∧ Below w.heap.size w wr) (fun i _ => os.length - (RowKit.intOf i).toNat)
  case atStart => exact ⟨0, Nat.zero_le _, rfl, by simp, HM3.out, HS3.out, BT2.out, HB2.out⟩
  case round =>
    obtain ⟨k, hk, rfl, hA, hMk, hSk, hBT, hBw⟩ := hrel
    have HA : Hid (∀ j, j < k → q4 es os (rsC os) j = false) := hA
    have HMk : Hid (MP wr (M + 2) (rnC (os.take k)).1) := hMk
    have HSk : Hid (MS wr (M + 3) (rnC (os.take k)).2) := hSk
    have HBT : Hid (Blk wr tb #[.map (some (M + 2)), .map (some (M + 3))] 99) := hBT
    have HBw : Hid (Below w.heap.size w wr) := hBw
    have hzw := hBw.size
    have htl := hBT.lt
    clear hA hMk hSk hBT hBw HM3 HS3 BT2 HB2 j1
    by_cases hlt : k < os.length
    · obtain ⟨b, off, rfl, hr⟩ := (HO.out.below HBw.out).at_ hlt
      have HR : Hid (wr.rangeAt b (off + k * 6) [.int .i64 os[k].cl, .int .i64 os[k].sq, .int .i64 os[k].op, .string os[k].k, .string os[k].v, .string os[k].o]) := hr k hlt
      have hcf := HO.out.fits os[k] (List.getElem_mem hlt)
      have hcm := HCO.out os[k] (List.getElem_mem hlt)
      have hok := rnC_ok (os.take k)
      have HAP : Hid (∀ u', Below wr.heap.size wr u' → Calls Try.prog 52 #[.agg #[.map (some (M + 2)), .map (some (M + 3))], .agg #[.int .i64 os[k].cl, .int .i64 os[k].sq, .int .i64 os[k].op, .string os[k].k, .string os[k].v, .string os[k].o]] u' fun e w' => e = .returned (.agg #[.int .i64 (apC (rnC (os.take k)) os[k]).1, .int .i64 (apC (rnC (os.take k)) os[k]).2.1, .string (apC (rnC (os.take k)) os[k]).2.2.1]) ∧ MP w' (M + 2) (rnC (os.take (k + 1))).1 ∧ MS w' (M + 3) (rnC (os.take (k + 1))).2 ∧ TchT (fun j => j = M + 2 ∨ j = M + 3) u' w') := fun u' hb => (apply_any (M + 2) (M + 3) _ _ _ _ _ _ _ _ u' (HMk.out.below hb) (HSk.out.below hb) (by omega) hok.1 hok.2 hcf.cl hcf.k hcf.v hcf.o).mono fun e w' ⟨h1, h2, h3, h4⟩ => ⟨h1, by rw [rnC_take hlt]; exact h2, by rw [rnC_take hlt]; exact h3, h4⟩
      have hfk := HFO.out k hlt
      have HQ : Hid (q4 es os (rsC os) k = lk4 es (findK 2 es os[k]) (apC (rnC (os.take k)) os[k]).2.1 (apC (rnC (os.take k)) os[k]).2.2.1) := by show _ = _; rw [q4_eq, rsC_eq hlt, cmAt_eq hlt]
      rw [cmAt_eq hlt] at hfk
      obtain ⟨y1, y2, y3, hy1, hy2, hy3⟩ : ∃ y1 y2 y3, y1 = (apC (rnC (os.take k)) os[k]).1 ∧ y2 = (apC (rnC (os.take k)) os[k]).2.1 ∧ y3 = (apC (rnC (os.take k)) os[k]).2.2.1 := ⟨_, _, _, rfl, rfl, rfl⟩
      rw [← hy1, ← hy2, ← hy3] at HAP
      rw [← hy2, ← hy3] at HQ
      clear hy1 hy2 hy3 hok
      obtain ⟨RN, hRN⟩ : ∃ RN, RN = rnC (os.take (k + 1)) := ⟨_, rfl⟩
      rw [← hRN] at HAP
      have HRN : Hid (RN = rnC (os.take (k + 1))) := hRN
      obtain ⟨c, he⟩ : ∃ c, c = os[k] := ⟨_, rfl⟩
      rw [← he] at HR hcf hcm HAP hfk HQ
      clear he hr hRN HMk HSk
      obtain ⟨ak, hak⟩ := Option.isSome_iff_exists.1 hfk
      have HTN : Hid (tn es.length es c = some (ak, (findK 2 es c).getD es.length)) := by show _ = _; unfold tn; rw [hak]; rfl
      clear hak hfk hcm
      have hkl : (k : Int) < (os.length : Int) := by omega
      have t0 : wr.cell? ⟨tb, 0, none⟩ = some (.map (some (M + 2))) := HBT.out.cell 0
      have t1 : wr.cell? ⟨tb, 1, none⟩ = some (.map (some (M + 3))) := HBT.out.cell 1
      have ta : ∀ (ob : Obj) (j : Nat), (wr.alloc ob).cell? ⟨tb, j, none⟩ = wr.cell? ⟨tb, j, none⟩ := fun ob j => World.cell?_alloc_lt _ _ _ (by show tb < wr.heap.size; omega)
      have g1 : True := trivial
      go_upto_region 6 with (first
        | (have hG := g1; refine gate_ld 63 (.tmp 18) rfl ?_; clear hG g1; refine wpList_load_mid rfl 63 (.tmp 18) rfl b (off + k * 6) rfl _ _ HR.out Try.underlying63 rfl infoCm ?_)
        | (go_at_call 52; refine (HAP.out _ ((Below.refl _ _).alloc (Nat.le_refl _) _)).mono ?_; rintro r w3 ⟨rfl, hm3, hs3, ht3⟩))
      obtain ⟨W4, hW4⟩ : ∃ W4, W4 = w3.alloc (.cells #[.int .i64 y1, .int .i64 y2, .string y3] 102) := ⟨_, rfl⟩
      obtain ⟨ob, hob⟩ : ∃ ob, ob = w3.heap.size := ⟨_, rfl⟩
      have hs4 := ht3.size
      simp at hs4
      have HC4 : Hid (Blk W4 wr.heap.size #[.int .i64 c.cl, .int .i64 c.sq, .int .i64 c.op, .string c.k, .string c.v, .string c.o] 63) := by show Blk _ _ _ _; rw [hW4]; exact ((Blk.new wr _ _).keep (ht3.block _ (by simp) (by omega))).alloc _
      have HOB : Hid (Blk W4 ob #[.int .i64 y1, .int .i64 y2, .string y3] 102) := by show Blk _ _ _ _; rw [hW4]; exact Blk.new' _ _ _ hob
      have HB3 : Hid (Below w.heap.size w w3) := HBw.out.trans ⟨ht3.os, ht3.tape, ht3.output, by omega, fun j hj => by rw [ht3.block j (by simp; omega) (by omega), Below.heap_alloc wr _ j (by omega)]⟩
      have HB4 : Hid (Below w.heap.size w W4) := by show Below _ _ _; rw [hW4]; exact HB3.out.alloc (by omega) _
      have HM4 : Hid (MP W4 (M + 2) RN.1) := by show MP _ _ _; rw [hW4]; exact hm3.alloc _
      have HS4 : Hid (MS W4 (M + 3) RN.2) := by show MS _ _ _; rw [hW4]; exact hs3.alloc _
      have HBT4 : Hid (Blk W4 tb #[.map (some (M + 2)), .map (some (M + 3))] 99) := by show Blk _ _ _ _; rw [hW4]; exact ((HBT.out.alloc _).keep (ht3.block _ (by simp; omega) (by omega))).alloc _
      have HJ4 : Hid (Blk W4 jb #[.slice ea es.length ec, .slice (some ⟨b, off, none⟩) os.length oc, .map (some bt), .map (some bp), .map (some bl), .map (some bo)] 84) := HJB.out.keep (HB4.out.block jb hjl)
      rw [← hW4, ← hob]
      clear hW4 hob hm3 hs3 ht3 HAP t0 t1 ta HBT HR HB3 hs4
      have j2 : W4.cell? ⟨jb, 2, none⟩ = some (.map (some bt)) := HJ4.out.cell 2
      have d0 : W4.cell? ⟨wr.heap.size, 0, none⟩ = some (.int .i64 c.cl) := HC4.out.cell 0
      have d1 : W4.cell? ⟨wr.heap.size, 1, none⟩ = some (.int .i64 c.sq) := HC4.out.cell 1
      have d2 : W4.cell? ⟨wr.heap.size, 2, none⟩ = some (.int .i64 c.op) := HC4.out.cell 2
      have d3 : W4.cell? ⟨wr.heap.size, 3, none⟩ = some (.string c.k) := HC4.out.cell 3
      have d4 : W4.cell? ⟨wr.heap.size, 4, none⟩ = some (.string c.v) := HC4.out.cell 4
      have d5 : W4.cell? ⟨wr.heap.size, 5, none⟩ = some (.string c.o) := HC4.out.cell 5
      obtain ⟨rp, hrp⟩ : ∃ rp, rp = (findK 2 es c).getD es.length := ⟨_, rfl⟩
      have l0 : ∀ q, (Instr.lookup 79 (.map (some bt)) (.agg #[.int .i64 c.cl, .int .i64 c.sq, .int .i64 c.op, .string c.k, .string c.v, .string c.o]) false).run Try.prog (W4.drewN q) = .ok (.agg #[.int .i64 ak, .int .i64 rp]) (W4.drewN q) := fun q => by
        have := HM.out.look lawC Try.underlying79 zeroTn c hcf (W4.drewN q) (HB4.out.block bt hlt')
        rw [HTN.out, ← hrp] at this
        exact this
      have HRP : Hid (rp = (findK 2 es c).getD es.length) := hrp
      have hfd := field_t1
      clear hrp HTN
      go_quiet (fail)
      go_upto_region 7 with fail
      obtain ⟨W5, hW5⟩ : ∃ W5, W5 = W4.drewN nq := ⟨_, rfl⟩
      have HB5 : Hid (Below w.heap.size w W5) := by show Below _ _ _; rw [hW5]; exact below_dN HB4.out _
      have HJ5 : Hid (Blk W5 jb #[.slice ea es.length ec, .slice (some ⟨b, off, none⟩) os.length oc, .map (some bt), .map (some bp), .map (some bl), .map (some bo)] 84) := by show Blk _ _ _ _; rw [hW5]; exact HJ4.out
      have HO5 : Hid (Blk W5 ob #[.int .i64 y1, .int .i64 y2, .string y3] 102) := by show Blk _ _ _ _; rw [hW5]; exact HOB.out
      have HM5 : Hid (MP W5 (M + 2) RN.1) := by show MP _ _ _; rw [hW5]; exact HM4.out
      have HS5 : Hid (MS W5 (M + 3) RN.2) := by show MS _ _ _; rw [hW5]; exact HS4.out
      have HT5 : Hid (Blk W5 tb #[.map (some (M + 2)), .map (some (M + 3))] 99) := by show Blk _ _ _ _; rw [hW5]; exact HBT4.out
      rw [← hW5]
      clear hW5 l0 hfd j2 d0 d1 d2 d3 d4 d5 HB4 HJ4 HOB HC4 HM4 HS4 HBT4
      have i0 : W5.cell? ⟨jb, 0, none⟩ = some (.slice ea es.length ec) := HJ5.out.cell 0
      have o1 : W5.cell? ⟨ob, 1, none⟩ = some (.int .i64 y2) := HO5.out.cell 1
      have o2 : W5.cell? ⟨ob, 2, none⟩ = some (.string y3) := HO5.out.cell 2
      cases hfr : findK 2 es c with
      | none =>
        have hrn : rp = es.length := by rw [HRP.out, hfr]; rfl
        have HQ2 : Hid (q4 es os (rsC os) k = false) := by show _ = _; rw [HQ.out, hfr]; rfl
        have hg : decide ((rp : Int) < (es.length : Int)) = false := by rw [hrn]; simp
        have hg2 : decide (rp < es.length) = false := by rw [hrn]; simp
        have hg3 : ¬ rp < es.length := by omega
        have HN : Hid (∀ j, j < k + 1 → q4 es os (rsC os) j = false) := fun j hj => by
          by_cases e : j = k
          · subst e; exact HQ2.out
          · exact HA.out j (by omega)
        clear hrn hfr HRP HQ
        go_quiet (fail)
        go_wp2
        go_roundw
        case rel => exact ⟨k + 1, by omega, by go_num, HN.out, by rw [← HRN.out]; exact HM5.out, by rw [← HRN.out]; exact HS5.out, HT5.out, below_dN HB5.out _⟩
        case measure => simp [RowKit.intOf]; omega
      | some r =>
        have hrn : rp = r := by rw [HRP.out, hfr]; rfl
        obtain ⟨hrl, _, _, _⟩ := findK_lt hfr
        have HQ2 : Hid (q4 es os (rsC os) k = (decide (es[r].cd ≠ y2) || decide (es[r].v ≠ y3))) := by show _ = _; rw [HQ.out, hfr, lk4, evAt_eq hrl]
        subst hrn
        obtain ⟨eb, eo, rfl, hre⟩ := (HE.out.below HB5.out).at_ hrl
        have r7 : W5.cell? ⟨eb, eo + rp * 9 + 7, none⟩ = some (.int .i64 es[rp].cd) := hre rp hrl 7 _ rfl
        have r8 : W5.cell? ⟨eb, eo + rp * 9 + 8, none⟩ = some (.string es[rp].v) := hre rp hrl 8 _ rfl
        obtain ⟨cd, hcd⟩ : ∃ cd, cd = es[rp].cd := ⟨_, rfl⟩
        obtain ⟨v, hv⟩ : ∃ v, v = es[rp].v := ⟨_, rfl⟩
        rw [← hcd] at r7 HQ2
        rw [← hv] at r8 HQ2
        have hg : decide ((rp : Int) < (es.length : Int)) = true := decide_eq_true (by omega)
        have hgi : (rp : Int) < (es.length : Int) := by omega
        have hg2 : decide (rp < es.length) = true := decide_eq_true hrl
        clear hcd hv hre hfr HRP HQ
        by_cases hx : cd = y2
        · have hn1 : (y2 != cd) = false := by simp [hx]
          by_cases hy : v = y3
          · have HN : Hid (∀ j, j < k + 1 → q4 es os (rsC os) j = false) := fun j hj => by
              by_cases e : j = k
              · subst e; rw [HQ2.out, hx, hy]; simp
              · exact HA.out j (by omega)
            have hs1 : (y3.toList == v.toList) = true := by rw [tl_beq]; exact decide_eq_true hy.symm
            have hs2 : (y3.toList != v.toList) = false := by rw [bne, hs1]; rfl
            clear hx hy
            go_quiet (fail)
            go_wp2
            go_roundw
            case rel => exact ⟨k + 1, by omega, by go_num, HN.out, by rw [← HRN.out]; exact HM5.out, by rw [← HRN.out]; exact HS5.out, HT5.out, below_dN HB5.out _⟩
            case measure => simp [RowKit.intOf]; omega
          · have HFk : Hid (F = k) := by show _ = _; rw [HF.out]; exact fst_hit HA.out hlt (by rw [HQ2.out]; simp [hy])
            have hs1 : (y3.toList == v.toList) = false := by rw [tl_beq]; exact decide_eq_false fun e => hy e.symm
            have hs2 : (y3.toList != v.toList) = true := by rw [bne, hs1]; rfl
            clear hx hy
            go_quiet (fail)
            go_wp2
            go_ret
            exact ⟨by rw [HFk.out]; rfl, below_dN HB5.out _⟩
        · have HFk : Hid (F = k) := by show _ = _; rw [HF.out]; exact fst_hit HA.out hlt (by rw [HQ2.out]; simp [hx])
          have hn1 : (y2 != cd) = true := by simp; exact fun e => hx e.symm
          clear hx
          go_quiet (fail)
          go_wp2
          go_ret
          exact ⟨by rw [HFk.out]; rfl, below_dN HB5.out _⟩
    · obtain rfl : k = os.length := by omega
      have HFk : Hid (F = -1) := by show _ = _; rw [HF.out]; exact fst_no HA.out
      go_wp2
      go_ret
      exact ⟨by rw [HFk.out]; rfl, HBw.out⟩
end Go.Proofs.Ytnoihfincifphaa
