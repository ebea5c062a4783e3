/-
  The methods of msgBody, impl.encodeBody at a msgBody, impl.EncodeMsg.
-/
import Derived.Test.YtfcmffdljfljkaaPutEntry
import Derived.Test.YtfcmffdljfljkaaSeal
import Derived.Test.YtfcmffdljfljkaaMsgFault
namespace Go.Proofs.Ytfcmffdljfljkaa
open Go.RowKit
set_option linter.unusedVariables false

theorem Ints.nine (w : World) (fr tq tm li lt cm ok hi n : Nat) : ∀ j, j < [fr, tq, tm, li, lt, cm, ok, hi, n].length → (w.alloc (.cells #[.int .i64 fr, .int .i64 tq, .int .i64 tm, .int .i64 li, .int .i64 lt, .int .i64 cm, .int .i64 ok, .int .i64 hi, .int .i64 n] 3)).cell? ⟨w.heap.size, j, none⟩ = some (.int .i64 ([fr, tq, tm, li, lt, cm, ok, hi, n][j]?.getD 0 : Nat)) := by
  intro j hj
  rw [World.cell?_alloc_new]
  match j, hj with
  | 0, _ => rfl
  | 1, _ => rfl
  | 2, _ => rfl
  | 3, _ => rfl
  | 4, _ => rfl
  | 5, _ => rfl
  | 6, _ => rfl
  | 7, _ => rfl
  | 8, _ => rfl

/-- the body of a message -/
def msgL (ki fr tq tm li lt cm ok hi : Nat) (l : List Ent) : List Int := (ki : Int) :: (numsL [fr, tq, tm, li, lt, cm, ok, hi, l.length] ++ entsL l)

theorem msgBody_fault_any (ki fr tq tm li lt cm ok hi : Int) (ev : Value) (l : List Ent) (w : World) (hv : Es w ev l) (hll : l.length ≤ 1048576) :
    Calls Try.prog 159 #[.agg #[.int .i64 ki, .int .i64 fr, .int .i64 tq, .int .i64 tm, .int .i64 li, .int .i64 lt, .int .i64 cm, .int .i64 ok, .int .i64 hi, ev]] w fun r w' => r = .returned (.int .i64 (msgF ki fr tq tm li lt cm ok hi l)) ∧ Below w.heap.size w w' := by
  have hV : Hid (Es w ev l) := hv
  obtain ⟨hl, hf, a, cap, rfl, hc⟩ := hv
  clear hc hf
  go_enter Try.func159, Try.ntmps159
  go_wp2_with (go_at_call 161; refine (implMsgFault_any ki fr tq tm li lt cm ok hi _ l _ (hV.out.below ((Below.refl _ _).alloc (Nat.le_refl _) _)) hll).mono ?_; rintro e w1 ⟨rfl, hb⟩)
  go_ret
  exact ⟨rfl, ((Below.refl _ _).alloc (Nat.le_refl _) _).trans (hb.mono (by simp))⟩

set_option maxHeartbeats 8000000 in
set_option maxRecDepth 100000 in
theorem msgBody_put_any (ki fr tq tm li lt cm ok hi : Nat) (ev : Value) (l : List Ent) (w : World) (hv : Es w ev l) (b0 : ki ≤ 6) (b1 : fr ≤ 7) (b2 : tq ≤ 7) (b3 : tm ≤ 1073741824) (b4 : li ≤ 4096) (b5 : lt ≤ 1073741824) (b6 : cm ≤ 4096) (b7 : ok ≤ 1) (b8 : hi ≤ 4096) (hl32 : l.length ≤ 32) (hall : ∀ e ∈ l, entB e = true) :
    Calls Try.prog 160 #[.agg #[.int .i64 ki, .int .i64 fr, .int .i64 tq, .int .i64 tm, .int .i64 li, .int .i64 lt, .int .i64 cm, .int .i64 ok, .int .i64 hi, ev], .slice none 0 0] w fun e w' => ∃ v', e = .returned v' ∧ Own w' w.heap.size v' (msgL ki fr tq tm li lt cm ok hi l) ∧ Below w.heap.size w w' := by
  obtain ⟨hl, hf, a, cap, rfl, hc⟩ := hv
  have hn9 : (numsL [fr, tq, tm, li, lt, cm, ok, hi, l.length]).length ≤ 81 := numsL_len [fr, tq, tm, li, lt, cm, ok, hi, l.length] (by simp; omega)
  have hnm : Hid (∀ n ∈ [fr, tq, tm, li, lt, cm, ok, hi, l.length], n < 9223372036854775808) := (by simp; omega : ∀ n ∈ [fr, tq, tm, li, lt, cm, ok, hi, l.length], n < 9223372036854775808)
  go_enter Try.func160, Try.ntmps160
  go_wp2_with (first
    | (at_builtin; refine wpl_append rfl (.tmp 7) (.tmp 11) rfl (Own.nil _ w.heap.size) rfl (u := .slice (some ⟨w.heap.size + 1, 0, none⟩) 1 1) (l2 := [(ki : Int)]) (Bs.cell1 (by simp [go_sem]) (by omega)) rfl (by simp) (by simp) (by simp; omega) ?_; intro v1 w1 ho1 hg1; have hB1 : Below w.heap.size w w1 := Below.trans ((((Below.refl _ _).alloc (Nat.le_refl _) _).alloc (by simp) _)) (hg1.below (Own.nil _ w.heap.size) (by simp; omega)); have hz1 : w.heap.size < w1.heap.size := (by have := hg1.g.size; simp at this; omega); have hcc := fun (o : Nat) => hg1.cell (k := w.heap.size) (o := o) (by simp; omega) (by simp [Value.ownBlock]); have f1 : v1.ownBlock ≠ some w.heap.size := hg1.far (by simp; omega) (by simp [Value.ownBlock]); have n1 := ho1.ne (Nat.le_refl _); replace ho1 := ho1.below ((Below.refl w1.heap.size w1).alloc (Nat.le_refl _) (.cells #[.int .i64 fr, .int .i64 tq, .int .i64 tm, .int .i64 li, .int .i64 lt, .int .i64 cm, .int .i64 ok, .int .i64 hi, .int .i64 (l.length : Nat)] 3)); have hI := Ints.nine w1 fr tq tm li lt cm ok hi l.length)
    | (go_at_call 162; refine (putNumbers_any _ _ [fr, tq, tm, li, lt, cm, ok, hi, l.length] w1.heap.size 9 _ w.heap.size ho1 (by simp; omega) (by simp) hnm.out (by simp) hI n1).mono ?_; rintro e w2 ⟨v2, rfl, ho2, hg2⟩; have hB2 := hB1.trans (((Below.refl _ _).alloc (by omega) _).trans (hg2.below ho1 (by simp; omega))); have hz2 : w.heap.size < w2.heap.size := (by have := hg2.g.size; simp at this; omega); have hdd := fun (o : Nat) => hg2.cell (k := w.heap.size) (o := o) (by simp; omega) f1; clear hI))
  go_loopw [1, 38] (fun o i wr => ∃ k : Nat, k ≤ l.length ∧ i = .int .i64 k ∧ Own wr w.heap.size o ([] ++ [(ki : Int)] ++ numsL [fr, tq, tm, li, lt, cm, ok, hi, l.length] ++ entsL (l.take k)) ∧ Below w.heap.size w wr) (fun _ i _ => l.length - (intOf i).toNat)
  case atStart => exact ⟨0, Nat.zero_le _, rfl, by simpa [entsL] using ho2, hB2⟩
  case round =>
    obtain ⟨k, hk, rfl, ho, hB⟩ := hrel
    have hz := hB.size
    by_cases hlt : k < l.length
    · obtain ⟨b, off, rfl, hj⟩ := hc k hlt
      obtain ⟨c0, c1, c2, c3, c4, c5, c6⟩ := (hj k hlt).below hB
      have hlen := entsL_len (l.take k) (fun e he => hall e (List.mem_of_mem_take he))
      rw [List.length_take] at hlen
      have HS : Hid (entsL (l.take (k + 1)) = entsL (l.take k) ++ entL l[k]) := entsL_snoc l k hlt
      obtain ⟨t, cl, sq, op, ky, vl, od, he, d0, d1, d2, d3, d4, d5, d6, hE⟩ := entB_nat (hall l[k] (List.getElem_mem hlt))
      rw [hE] at HS
      rw [he] at c0 c1 c2 c3 c4 c5 c6
      clear hc hj hE he hg1 hg2 ho1 ho2 hcc hdd hB1 hB2
      have hO : ∀ ob : Obj, Own (wr.alloc ob) w.heap.size _ _ := fun ob => ho.below ((Below.refl _ _).alloc (Nat.le_refl _) ob)
      go_wp2_with (go_at_call 163; refine (putEntry_nat _ _ t cl sq op ky vl od _ w.heap.size (hO _) (by simp; omega) (by simp; omega) d0 d1 d2 d3 d4 d5 d6).mono ?_; rintro e w3 ⟨v3, rfl, ho3, hg3⟩)
      go_roundw
      case rel => exact ⟨k + 1, by omega, by go_num, by rw [HS.out, ← List.append_assoc]; exact ho3, hB.trans (((Below.refl _ _).alloc (by omega) _).trans (hg3.below (hO _) (by simp; omega)))⟩
      case measure => simp [intOf]; omega
    · have e : l.take k = l := List.take_of_length_le (by omega)
      rw [e] at ho
      go_wp2
      go_ret
      exact ⟨_, rfl, by simpa [msgL] using ho, hB⟩

theorem meth_msg_fault (x : Value) (w : World) : (method 302 94 x "loop.example/s01586/impl.fault").run Try.prog w = .ok (159, x) w := by kernel_rfl
theorem meth_msg_put (x : Value) (w : World) : (method 302 94 x "loop.example/s01586/impl.put").run Try.prog w = .ok (160, x) w := by kernel_rfl

theorem msgF_ok {ki fr tq tm li lt cm ok hi : Int} {l : List Ent} (h : msgF ki fr tq tm li lt cm ok hi l = 0) :
    (1 ≤ ki ∧ ki ≤ 6) ∧ (1 ≤ fr ∧ fr ≤ 7) ∧ (1 ≤ tq ∧ tq ≤ 7) ∧ (1 ≤ tm ∧ tm ≤ 1073741824) ∧ (0 ≤ li ∧ li ≤ 4096) ∧ (0 ≤ lt ∧ lt ≤ tm) ∧ (0 ≤ cm ∧ cm ≤ 4096) ∧ (0 ≤ ok ∧ ok ≤ 1) ∧ (0 ≤ hi ∧ hi ≤ 4096) ∧ l.length ≤ 32 ∧ ∀ e ∈ l, entB e = true := by
  unfold msgF at h
  by_cases h1 : inB ki 1 6 = false
  · rw [if_pos h1] at h; omega
  rw [if_neg h1] at h
  by_cases h2 : endsB fr tq = false
  · rw [if_pos h2] at h; omega
  rw [if_neg h2] at h
  by_cases h3 : inB tm 1 1073741824 = false
  · rw [if_pos h3] at h; omega
  rw [if_neg h3] at h
  by_cases h4 : posB ki tm li lt = false
  · rw [if_pos h4] at h; omega
  rw [if_neg h4] at h
  by_cases h5 : marksB ki cm ok hi = false
  · rw [if_pos h5] at h; omega
  rw [if_neg h5] at h
  by_cases h6 : entsB ki li lt tm l = false
  · rw [if_pos h6] at h; omega
  simp only [Bool.not_eq_false] at h1 h2 h3 h4 h5 h6
  rw [inB_iff] at h1 h3
  simp only [endsB, Bool.and_eq_true, inB_iff] at h2
  have hp := posB_li h4
  have hlt : 0 ≤ lt ∧ lt ≤ tm := by
    unfold posB at h4
    split at h4
    · simp only [Bool.and_eq_true, inB_iff] at h4; exact h4.1.2
    · split at h4
      · simp only [Bool.and_eq_true, beq_iff_eq] at h4; omega
      · simp only [Bool.and_eq_true, beq_iff_eq] at h4; omega
  simp only [marksB, Bool.and_eq_true, inB_iff] at h5
  have hcm : cm ≤ 4096 := by have := h5.1.1.2; split at this <;> omega
  have hok : ok ≤ 1 := by have := h5.1.2.2; split at this <;> omega
  have hhi : hi ≤ 4096 := by have := h5.2.2; split at this <;> omega
  have hE : l.length ≤ 32 ∧ ∀ e ∈ l, entB e = true := by
    unfold entsB at h6
    split at h6
    · simp only [Bool.and_eq_true, decide_eq_true_eq] at h6
      exact ⟨h6.1.1, fitL_all l lt h6.2⟩
    · simp only [decide_eq_true_eq] at h6
      have : l = [] := List.eq_nil_of_length_eq_zero h6
      subst this
      exact ⟨by simp, by simp⟩
  exact ⟨h1, h2.1.1, h2.1.2, h3, hp, hlt, ⟨h5.1.1.1, hcm⟩, ⟨h5.1.2.1, hok⟩, ⟨h5.2.1, hhi⟩, hE.1, hE.2⟩

theorem msgL_len (ki fr tq tm li lt cm ok hi : Nat) (l : List Ent) (h : ∀ n ∈ [fr, tq, tm, li, lt, cm, ok, hi, l.length], n < 9223372036854775808) (hl32 : l.length ≤ 32) (hall : ∀ e ∈ l, entB e = true) : 0 < (msgL ki fr tq tm li lt cm ok hi l).length ∧ (msgL ki fr tq tm li lt cm ok hi l).length ≤ 11000 := by
  have hn9 : (numsL [fr, tq, tm, li, lt, cm, ok, hi, l.length]).length ≤ 81 := numsL_len _ h
  have he := entsL_len l hall
  simp only [msgL, List.length_cons, List.length_append]
  omega

/-- what EncodeMsg answers -/
def encMsg (ki fr tq tm li lt cm ok hi : Int) (l : List Ent) : List Int := if msgF ki fr tq tm li lt cm ok hi l = 0 then frameL (msgL ki.toNat fr.toNat tq.toNat tm.toNat li.toNat lt.toNat cm.toNat ok.toNat hi.toNat l) else []

set_option maxHeartbeats 4000000 in
set_option maxRecDepth 100000 in
theorem encodeBody_msg (ki fr tq tm li lt cm ok hi : Int) (ev : Value) (l : List Ent) (w : World) (hv : Es w ev l) (hll : l.length ≤ 1048576) :
    Calls Try.prog 66 #[.iface 94 (.agg #[.int .i64 ki, .int .i64 fr, .int .i64 tq, .int .i64 tm, .int .i64 li, .int .i64 lt, .int .i64 cm, .int .i64 ok, .int .i64 hi, ev])] w fun e w' => ∃ v', e = .returned v' ∧ Own w' w.heap.size v' (encMsg ki fr tq tm li lt cm ok hi l) ∧ Below w.heap.size w w' := by
  have m1 := meth_msg_fault (.agg #[.int .i64 ki, .int .i64 fr, .int .i64 tq, .int .i64 tm, .int .i64 li, .int .i64 lt, .int .i64 cm, .int .i64 ok, .int .i64 hi, ev])
  have m2 := meth_msg_put (.agg #[.int .i64 ki, .int .i64 fr, .int .i64 tq, .int .i64 tm, .int .i64 li, .int .i64 lt, .int .i64 cm, .int .i64 ok, .int .i64 hi, ev])
  have hV : Hid (Es w ev l) := hv
  clear hv
  by_cases hF : msgF ki fr tq tm li lt cm ok hi l = 0
  · rw [encMsg, if_pos hF]
    obtain ⟨⟨a1, a2⟩, ⟨a3, a4⟩, ⟨a5, a6⟩, ⟨a7, a8⟩, ⟨a9, a10⟩, ⟨a11, a12⟩, ⟨a13, a14⟩, ⟨a15, a16⟩, ⟨a17, a18⟩, hl32, hall⟩ := msgF_ok hF
    obtain ⟨ki, rfl⟩ := Int.eq_ofNat_of_zero_le (show 0 ≤ ki by omega)
    obtain ⟨fr, rfl⟩ := Int.eq_ofNat_of_zero_le (show 0 ≤ fr by omega)
    obtain ⟨tq, rfl⟩ := Int.eq_ofNat_of_zero_le (show 0 ≤ tq by omega)
    obtain ⟨tm, rfl⟩ := Int.eq_ofNat_of_zero_le (show 0 ≤ tm by omega)
    obtain ⟨li, rfl⟩ := Int.eq_ofNat_of_zero_le a9
    obtain ⟨lt, rfl⟩ := Int.eq_ofNat_of_zero_le a11
    obtain ⟨cm, rfl⟩ := Int.eq_ofNat_of_zero_le a13
    obtain ⟨ok, rfl⟩ := Int.eq_ofNat_of_zero_le a15
    obtain ⟨hi, rfl⟩ := Int.eq_ofNat_of_zero_le a17
    simp only [Int.toNat_natCast]
    obtain ⟨hp, hlen⟩ := msgL_len ki fr tq tm li lt cm ok hi l (by simp; omega) hl32 hall
    have HA : Hid (∀ e ∈ l, entB e = true) := hall
    clear hall
    go_enter Try.func66, Try.ntmps66
    go_wp2_with (first
      | (go_at_call 159; refine (msgBody_fault_any _ _ _ _ _ _ _ _ _ ev l _ hV.out hll).mono ?_; rintro e w1 ⟨rfl, hb1⟩; rw [hF])
      | (go_at_call 160; refine (msgBody_put_any ki fr tq tm li lt cm ok hi ev l _ (hV.out.below hb1) (by omega) (by omega) (by omega) (by omega) (by omega) (by omega) (by omega) (by omega) (by omega) hl32 HA.out).mono ?_; rintro e w2 ⟨v2, rfl, ho2, hb2⟩; have hz := hb1.size)
      | (go_at_call 98; refine (sealFrame_any _ _ _ (ho2.bs (by unfold maxLen; omega)) hp (by omega)).mono ?_; rintro e w3 ⟨v3, rfl, ho3, hb3⟩; have hz2 := hb2.size))
    go_ret
    exact ⟨_, rfl, ho3.le (by omega), hb1.trans ((hb2.mono (by omega)).trans (hb3.mono (by omega)))⟩
  · rw [encMsg, if_neg hF]
    have hF' : (msgF ki fr tq tm li lt cm ok hi l != 0) = true := by simpa using hF
    go_enter Try.func66, Try.ntmps66
    go_wp2_with (go_at_call 159; refine (msgBody_fault_any _ _ _ _ _ _ _ _ _ ev l _ hV.out hll).mono ?_; rintro e w1 ⟨rfl, hb1⟩)
    go_ret
    exact ⟨_, rfl, Own.nil _ _, hb1⟩

set_option maxHeartbeats 1000000 in
theorem implEncodeMsg_any (ki fr tq tm li lt cm ok hi : Int) (ev : Value) (l : List Ent) (w : World) (hv : Es w ev l) (hll : l.length ≤ 1048576) :
    Calls Try.prog 26 #[.agg #[.int .i64 ki, .int .i64 fr, .int .i64 tq, .int .i64 tm, .int .i64 li, .int .i64 lt, .int .i64 cm, .int .i64 ok, .int .i64 hi, ev]] w fun e w' => ∃ v', e = .returned v' ∧ Own w' w.heap.size v' (encMsg ki fr tq tm li lt cm ok hi l) ∧ Below w.heap.size w w' := by
  have hV : Hid (Es w ev l) := hv
  clear hv
  go_enter Try.func26, Try.ntmps26
  go_wp2_with (go_at_call 66; refine (encodeBody_msg _ _ _ _ _ _ _ _ _ ev l _ (hV.out.below ((Below.refl _ _).alloc (Nat.le_refl _) _)) hll).mono ?_; rintro e w1 ⟨v1, rfl, ho1, hb1⟩)
  go_ret
  exact ⟨_, rfl, ho1.le (by simp), ((Below.refl _ _).alloc (Nat.le_refl _) _).trans (hb1.mono (by simp))⟩
end Go.Proofs.Ytfcmffdljfljkaa
