/-
  impl.tellLine.
-/
import Derived.Test.YtabnanmfojppjaaDoorSkBd
import Derived.Test.YtabnanmfojppjaaDoorSkTx
import Derived.Test.YtabnanmfojppjaaDoorSkWk
namespace Go.Proofs.YtabnanmfojppjaaDoor
open Go.RowKit Go.Shelf
set_option linter.unusedVariables false
set_option linter.unusedSimpArgs false

/-- a slice of ints or of texts that the writers of the builder b leave: it lies below b, or in a block of another kind -/
def FarI (b : Nat) (w : World) (v : Value) (l : List Int) : Prop := ∀ w', Fr b w w' → Ix w' v l
def FarT (b : Nat) (w : World) (v : Value) (l : List ByteArray) : Prop := ∀ w', Fr b w w' → Sl txC 1 w' v l
theorem FarI.next {b : Nat} {w w' : World} {v : Value} {l : List Int} (h : FarI b w v l) (hf : Fr b w w') : FarI b w' v l := fun w2 h2 => h w2 (hf.trans h2)
theorem FarT.next {b : Nat} {w w' : World} {v : Value} {l : List ByteArray} (h : FarT b w v l) (hf : Fr b w w') : FarT b w' v l := fun w2 h2 => h w2 (hf.trans h2)
theorem txsL_lenI : ∀ l : List ByteArray, (∀ t ∈ l, t.size ≤ 1048576) → (txsL l).length ≤ l.length * 1048577
  | [], _ => by simp [txsL, textsL]
  | t :: r, h => by
    have h1 := txsL_lenI r fun x hx => h x (List.mem_cons_of_mem _ hx)
    have h2 := h t (List.mem_cons_self ..)
    have e : txsL (t :: r) = 32 :: t.data.toList ++ txsL r := by simp [txsL, textsL]
    have h3 : t.data.toList.length = t.size := rfl
    rw [e]
    simp only [List.length_append, List.length_cons, List.cons_append]
    omega

set_option maxHeartbeats 4000000 in
set_option maxRecDepth 100000 in
theorem tellLine_any (w : World) (b : Nat) (L wd : List UInt8) (vn vt : Value) (ns : List Int) (ts : List ByteArray) (hB : Bu w b L) (hn : FarI b w vn ns) (ht : FarT b w vt ts)
    (hL : L.length ≤ 100000000) (hw : wd.length ≤ 1000) (hnl : ns.length ≤ 4096) (hns : ∀ n ∈ ns, 0 ≤ n ∧ n < 10000000000) (htl : ts.length ≤ 4) (hts : ∀ t ∈ ts, t.size ≤ 1048576)
    (htab : ∀ w', Below b w w' → Lib.TabIs Tryd.prog w' "internal/strconv.uint64pow10" .u64 Lib.pow10Tab) :
    Calls Tryd.prog 22 #[.pointer (some ⟨b, 0, none⟩), .string (sOf wd), vn, vt] w fun e w' => e = .returned (.tuple #[]) ∧ Bu w' b (L ++ wd ++ numsL ns ++ txsL ts ++ [10]) ∧ Fr b w w' := by
  have HNs : Hid (∀ n ∈ ns, 0 ≤ n ∧ n < 10000000000) := hns
  have HTs : Hid (∀ t ∈ ts, t.size ≤ 1048576) := hts
  have HB : Hid (Bu w b L) := hB
  have HN : Hid (FarI b w vn ns) := hn
  have HT : Hid (FarT b w vt ts) := ht
  have HTab : Hid (∀ w', Below b w w' → Lib.TabIs Tryd.prog w' "internal/strconv.uint64pow10" .u64 Lib.pow10Tab) := htab
  obtain ⟨hl1, na, nc, rfl, _⟩ := hn w (Fr.refl _ _)
  obtain ⟨hl2, ta, tc, rfl, _⟩ := ht w (Fr.refl _ _)
  have HNA : Hid (∀ k, k < ns.length → ∃ q off, na = some ⟨q, off, none⟩) := fun k h => by
    obtain ⟨_, a, c, e, hc⟩ := HN.out w (Fr.refl _ _)
    injection e with e1
    subst e1
    obtain ⟨q, off, e2, _⟩ := hc k h
    exact ⟨q, off, e2⟩
  have HNC : Hid (∀ w' q off k, Fr b w w' → na = some ⟨q, off, none⟩ → (h : k < ns.length) → w'.cell? ⟨q, off + k, none⟩ = some (.int .i64 ns[k])) := fun w' q off k hf e0 h => by
    obtain ⟨_, a, c, e, hc⟩ := HN.out w' hf
    injection e with e1
    subst e1
    obtain ⟨q', off', e2, hj⟩ := hc k h
    rw [e0] at e2
    cases e2
    exact hj k h
  have HTA : Hid (∀ k, k < ts.length → ∃ q off, ta = some ⟨q, off, none⟩) := fun k h => by
    obtain ⟨_, a, c, e, hc⟩ := HT.out w (Fr.refl _ _)
    injection e with e1
    subst e1
    obtain ⟨q, off, e2, _⟩ := hc k h
    exact ⟨q, off, e2⟩
  have HTC : Hid (∀ w' q off k, Fr b w w' → ta = some ⟨q, off, none⟩ → (h : k < ts.length) → w'.cell? ⟨q, off + k, none⟩ = some (.string ts[k])) := fun w' q off k hf e0 h => by
    obtain ⟨_, a, c, e, hc⟩ := HT.out w' hf
    injection e with e1
    subst e1
    obtain ⟨q', off', e2, hj⟩ := hc k h
    rw [e0] at e2
    cases e2
    have h2 := hj k h 0 _ rfl
    simpa using h2
  clear hn ht htab hns hts hB
  unfold maxLen at hl1 hl2
  have HW1 : Hid (Calls Tryd.prog 43 #[.pointer (some ⟨b, 0, none⟩), .string (sOf wd)] w fun e w' => e = .returned (.tuple #[.int .i64 wd.length, .nilIface]) ∧ Bd w' b (.pointer (some ⟨b, 0, none⟩)) (L ++ wd) ∧ Fr b w w') := writeString_any w b L wd HB.out (by omega) (by omega)
  generalize sOf wd = WD at *
  obtain ⟨L1, hL1⟩ : ∃ M, M = L ++ wd := ⟨_, rfl⟩
  rw [← hL1] at HW1
  have hL1l : L1.length ≤ 100001000 := by rw [hL1, List.length_append]; omega
  have HE : Hid (L ++ wd ++ numsL ns ++ txsL ts ++ [10] = L1 ++ numsL ns ++ txsL ts ++ [10]) := by unfold Hid; rw [hL1]
  rw [HE.out]
  clear HE hL1
  have hNl : Hid (∀ k, k ≤ ns.length → (numsL (ns.take k)).length ≤ 46000) := fun k h => by
    have h1 := numsL_len (ns.take k) fun n hn => HNs.out n (List.mem_of_mem_take hn)
    rw [List.length_take_of_le h] at h1
    omega
  have hTl : Hid (∀ k, k ≤ ts.length → (txsL (ts.take k)).length ≤ 4300000) := fun k h => by
    have h1 := txsL_lenI (ts.take k) fun n hn => HTs.out n (List.mem_of_mem_take hn)
    rw [List.length_take_of_le h] at h1
    have h2 : k * 1048577 ≤ 4 * 1048577 := Nat.mul_le_mul_right _ (by omega)
    omega
  go_enter Tryd.func22, Tryd.ntmps22
  go_wp2_with (go_at_call 43; refine Calls.mono HW1.out ?_; rintro e w1 ⟨rfl, hd1, hf1⟩)
  have HF1 : Hid (Fr b w w1) := hf1
  have HD1 : Hid (Bu w1 b L1) := .inr hd1
  clear hd1 hf1 HB
  go_loopw [17] (fun i wr => ∃ k : Nat, k ≤ ns.length ∧ i = .int .i64 k ∧ Bu wr b (L1 ++ numsL (ns.take k)) ∧ Fr b w wr) (fun i _ => ns.length - (intOf i).toNat)
  case atStart => exact ⟨0, Nat.zero_le _, rfl, by simpa [numsL] using HD1.out, HF1.out⟩
  case round =>
    clear HD1 HF1
    obtain ⟨k, hk, rfl, hb, hf⟩ := hrel
    have HB : Hid (Bu wr b (L1 ++ numsL (ns.take k))) := hb
    have HF : Hid (Fr b w wr) := hf
    have hlk := hNl.out k hk
    clear hb hf
    by_cases hlt : k < ns.length
    · obtain ⟨q, off, rfl⟩ := HNA.out k hlt
      obtain ⟨n0, n1⟩ := HNs.out _ (List.getElem_mem hlt)
      have hcell := HNC.out wr q off k HF.out rfl hlt
      have hil := itoa_len n0 n1
      have ht := numsL_take hlt
      have HLN : Hid (L1 ++ numsL (ns.take k) ++ [32] ++ Lib.itoa ns[k] = L1 ++ numsL (ns.take (k + 1))) := by unfold Hid; rw [ht]; simp
      have hlm : (L1 ++ numsL (ns.take k)).length ≤ 100100000 := by rw [List.length_append]; omega
      have HWB : Hid (∀ z, Bu z b (L1 ++ numsL (ns.take k)) → Calls Tryd.prog 44 #[.pointer (some ⟨b, 0, none⟩), .int .u8 32] z fun e w' => e = .returned .nilIface ∧ Bd w' b (.pointer (some ⟨b, 0, none⟩)) (L1 ++ numsL (ns.take k) ++ [32]) ∧ Fr b z w') := fun z h => writeByte_any z b _ 32 h (by omega)
      have HWS : Hid (∀ z, Bu z b (L1 ++ numsL (ns.take k) ++ [32]) → Calls Tryd.prog 43 #[.pointer (some ⟨b, 0, none⟩), .string (sOf (Lib.itoa ns[k]))] z fun e w' => e = .returned (.tuple #[.int .i64 (Lib.itoa ns[k]).length, .nilIface]) ∧ Bd w' b (.pointer (some ⟨b, 0, none⟩)) (L1 ++ numsL (ns.take (k + 1))) ∧ Fr b z w') := fun z h => by
        rw [← HLN.out]
        exact writeString_any z b _ (Lib.itoa ns[k]) h (by rw [List.length_append]; simp only [List.length_cons, List.length_nil]; omega) (by omega)
      have HIt : Hid (∀ z, Below b w z → Calls Tryd.prog 45 #[.int .i64 ns[k]] z fun e w' => e = .returned (.string (sOf (Lib.itoa ns[k]))) ∧ Below z.heap.size z w') := fun z h => itoa_any ns[k] n0 n1 z (HTab.out z h)
      have hkl : (k : Int) < (ns.length : Int) := by omega
      clear ht hlk HLN
      generalize sOf (Lib.itoa ns[k]) = SI at *
      generalize (Lib.itoa ns[k]).length = il at *
      generalize ns[k] = n at *
      generalize L1 ++ numsL (ns.take k) ++ [32] = La at *
      obtain ⟨Lb, hLb⟩ : ∃ M, M = L1 ++ numsL (ns.take (k + 1)) := ⟨_, rfl⟩
      rw [← hLb] at HWS
      have HLb : Hid (Lb = L1 ++ numsL (ns.take (k + 1))) := hLb
      clear hLb
      generalize L1 ++ numsL (ns.take k) = Lc at *
      go_wp2_with (first
        | (go_at_call 44; refine Calls.mono (HWB.out _ HB.out) ?_; rintro e w2 ⟨rfl, hd2, hf2⟩; have HF2 : Hid (Fr b w w2) := HF.out.trans hf2)
        | (go_at_call 45; refine Calls.mono (HIt.out _ HF2.out.lo) ?_; rintro e w3 ⟨rfl, hb3⟩; have hd3 := hd2.below hb3; have HF3 : Hid (Fr b w w3) := HF2.out.trans (Fr.of_below hb3 (Nat.le_of_lt hd2.lt)))
        | (go_at_call 43; refine Calls.mono (HWS.out _ (.inr hd3)) ?_; rintro e w4 ⟨rfl, hd4, hf4⟩))
      go_roundw
      case rel => exact ⟨k + 1, by omega, by go_num, by rw [← HLb.out]; exact .inr hd4, HF3.out.trans hf4⟩
      case measure => simp [intOf]; omega
    · obtain rfl : k = ns.length := by omega
      rw [List.take_length] at HB hlk
      go_wp2
      have HB0 : Hid (Bu wr b (L1 ++ numsL ns)) := HB.out
      have HF0 : Hid (Fr b w wr) := HF.out
      obtain ⟨L2, hL2⟩ : ∃ M, M = L1 ++ numsL ns := ⟨_, rfl⟩
      rw [← hL2] at HB0
      have hL2l : L2.length ≤ 100100000 := by rw [hL2, List.length_append]; omega
      clear HB HF hlk
      go_loopw [30] (fun i wr => ∃ k : Nat, k ≤ ts.length ∧ i = .int .i64 k ∧ Bu wr b (L2 ++ txsL (ts.take k)) ∧ Fr b w wr) (fun i _ => ts.length - (intOf i).toNat)
      case atStart => exact ⟨0, Nat.zero_le _, rfl, by simpa [txsL, textsL] using HB0.out, HF0.out⟩
      case round =>
        clear HB0 HF0
        obtain ⟨k, hk, rfl, hb, hf⟩ := hrel
        have HB : Hid (Bu wr b (L2 ++ txsL (ts.take k))) := hb
        have HF : Hid (Fr b w wr) := hf
        have hlk := hTl.out k hk
        clear hb hf
        by_cases hlt : k < ts.length
        · obtain ⟨q, off, rfl⟩ := HTA.out k hlt
          have hts := HTs.out _ (List.getElem_mem hlt)
          have hcell := HTC.out wr q off k HF.out rfl hlt
          have ht := txsL_take hlt
          have HLN : Hid (L2 ++ txsL (ts.take k) ++ [32] ++ ts[k].data.toList = L2 ++ txsL (ts.take (k + 1))) := by unfold Hid; rw [ht]; simp
          have hlm : (L2 ++ txsL (ts.take k)).length ≤ 200000000 := by rw [List.length_append]; omega
          have HWB : Hid (∀ z, Bu z b (L2 ++ txsL (ts.take k)) → Calls Tryd.prog 44 #[.pointer (some ⟨b, 0, none⟩), .int .u8 32] z fun e w' => e = .returned .nilIface ∧ Bd w' b (.pointer (some ⟨b, 0, none⟩)) (L2 ++ txsL (ts.take k) ++ [32]) ∧ Fr b z w') := fun z h => writeByte_any z b _ 32 h (by omega)
          have HWS : Hid (∀ z, Bu z b (L2 ++ txsL (ts.take k) ++ [32]) → Calls Tryd.prog 43 #[.pointer (some ⟨b, 0, none⟩), .string ts[k]] z fun e w' => e = .returned (.tuple #[.int .i64 ts[k].data.toList.length, .nilIface]) ∧ Bd w' b (.pointer (some ⟨b, 0, none⟩)) (L2 ++ txsL (ts.take (k + 1))) ∧ Fr b z w') := fun z h => by
            rw [← HLN.out]
            have h2 := writeString_any z b _ ts[k].data.toList h (by rw [List.length_append]; simp only [List.length_cons, List.length_nil]; omega) (by show ts[k].size ≤ _; omega)
            rw [sOf_list] at h2
            exact h2
          have hkl : (k : Int) < (ts.length : Int) := by omega
          clear ht hlk HLN
          generalize ts[k].data.toList.length = tl at *
          generalize ts[k] = t at *
          generalize L2 ++ txsL (ts.take k) ++ [32] = La at *
          obtain ⟨Lb, hLb⟩ : ∃ M, M = L2 ++ txsL (ts.take (k + 1)) := ⟨_, rfl⟩
          rw [← hLb] at HWS
          have HLb : Hid (Lb = L2 ++ txsL (ts.take (k + 1))) := hLb
          clear hLb
          generalize L2 ++ txsL (ts.take k) = Lc at *
          go_wp2_with (first
            | (go_at_call 44; refine Calls.mono (HWB.out _ HB.out) ?_; rintro e w2 ⟨rfl, hd2, hf2⟩; have HF2 : Hid (Fr b w w2) := HF.out.trans hf2)
            | (go_at_call 43; refine Calls.mono (HWS.out _ (.inr hd2)) ?_; rintro e w4 ⟨rfl, hd4, hf4⟩))
          go_roundw
          case rel => exact ⟨k + 1, by omega, by go_num, by rw [← HLb.out]; exact .inr hd4, HF2.out.trans hf4⟩
          case measure => simp [intOf]; omega
        · obtain rfl : k = ts.length := by omega
          rw [List.take_length] at HB hlk
          have hlm : (L2 ++ txsL ts).length ≤ 200000000 := by rw [List.length_append]; omega
          have HWB : Hid (Calls Tryd.prog 44 #[.pointer (some ⟨b, 0, none⟩), .int .u8 10] wr fun e w' => e = .returned .nilIface ∧ Bd w' b (.pointer (some ⟨b, 0, none⟩)) (L2 ++ txsL ts ++ [10]) ∧ Fr b wr w') := writeByte_any wr b _ 10 HB.out (by omega)
          go_wp2_with (go_at_call 44; refine Calls.mono HWB.out ?_; rintro e w2 ⟨rfl, hd2, hf2⟩)
          go_end0
          exact ⟨rfl, by rw [← hL2]; exact .inr hd2, HF.out.trans hf2⟩
end Go.Proofs.YtabnanmfojppjaaDoor
