/-
  spec.l1entryBytes, spec.EncodeMsg.
-/
import Derived.Test.YtfcmffdljfljkaaEncMsg
import Derived.Test.YtfcmffdljfljkaaSpecCmd
import Derived.Test.YtfcmffdljfljkaaSpecEntry
import Derived.Test.YtfcmffdljfljkaaSpecMsgFault6
namespace Go.Proofs.Ytfcmffdljfljkaa
open Go.RowKit
set_option linter.unusedVariables false

set_option maxHeartbeats 16000000 in
set_option maxRecDepth 100000 in
theorem specEncodeMsg_yes (ki fr tq tm li lt cm ok hi : Nat) (ev : Value) (l : List Ent) (w : World) (hv : Es w ev l) (hll : l.length ≤ 1048576) (hF : msgF ki fr tq tm li lt cm ok hi l = 0) :
    Calls Try.prog 24 #[.agg #[.int .i64 ki, .int .i64 fr, .int .i64 tq, .int .i64 tm, .int .i64 li, .int .i64 lt, .int .i64 cm, .int .i64 ok, .int .i64 hi, ev]] w fun e w' => ∃ v', e = .returned v' ∧ Own w' w.heap.size v' (frameL (msgL ki fr tq tm li lt cm ok hi l)) ∧ Below w.heap.size w w' := by
  obtain ⟨⟨a1, a2⟩, ⟨a3, a4⟩, ⟨a5, a6⟩, ⟨a7, a8⟩, ⟨a9, a10⟩, ⟨a11, a12⟩, ⟨a13, a14⟩, ⟨a15, a16⟩, ⟨a17, a18⟩, hl32, hall⟩ := msgF_ok hF
  obtain ⟨hp, hlen⟩ := msgL_len ki fr tq tm li lt cm ok hi l (by simp; omega) hl32 hall
  have HA : Hid (∀ e ∈ l, entB e = true) := hall
  have HN : Hid (∀ n ∈ [fr, tq, tm, li, lt, cm, ok, hi, l.length], n < 9223372036854775808) := (by simp; omega : ∀ n ∈ [fr, tq, tm, li, lt, cm, ok, hi, l.length], n < 9223372036854775808)
  have hn9 : (numsL [fr, tq, tm, li, lt, cm, ok, hi, l.length]).length ≤ 81 := numsL_len [fr, tq, tm, li, lt, cm, ok, hi, l.length] HN.out
  have hV : Hid (Es w ev l) := hv
  obtain ⟨hl, hf, a, cap, rfl, hc⟩ := hv
  have HCl : Hid (∀ i, i < l.length → ∃ b off, a = some ⟨b, off, none⟩ ∧ ∀ j (h : j < l.length), EntAt w b (off + j * 7) l[j]) := hc
  clear hc hf hall
  go_enter Try.func24, Try.ntmps24
  go_wp2_with (go_at_call 61; refine (specMsgFault_any _ _ _ _ _ _ _ _ _ _ l _ (hV.out.below ((Below.refl _ _).alloc (Nat.le_refl _) _)) hll).mono ?_; rintro e w1 ⟨rfl, hb⟩; rw [hF]; have hB0 : Below (w.heap.size + 1) (w.alloc (.cells #[.int .i64 ki, .int .i64 fr, .int .i64 tq, .int .i64 tm, .int .i64 li, .int .i64 lt, .int .i64 cm, .int .i64 ok, .int .i64 hi, .slice a l.length cap] 52)) w1 := hb.mono (by simp); have hz1 : w.heap.size < w1.heap.size := (by have := hB0.size; simp at this; omega); have cc := fun (o : Nat) => hB0.cell (p := ⟨w.heap.size, o, none⟩) (by simp); clear hb)
  have hI := Ints.nine w1 fr tq tm li lt cm ok hi l.length
  have hO1 := (Own.lit (w1.alloc (.cells #[.int .i64 fr, .int .i64 tq, .int .i64 tm, .int .i64 li, .int .i64 lt, .int .i64 cm, .int .i64 ok, .int .i64 hi, .int .i64 (l.length : Nat)] 3)) [(ki : Int)] #[.int .u8 (ki : Int)] rfl (by simp; omega) (by simp [maxLen]))
  have hZ : ((w1.alloc (.cells #[.int .i64 fr, .int .i64 tq, .int .i64 tm, .int .i64 li, .int .i64 lt, .int .i64 cm, .int .i64 ok, .int .i64 hi, .int .i64 (l.length : Nat)] 3)).alloc (.cells #[.int .u8 (ki : Int)] 5)).heap.size = w1.heap.size + 1 + 1 := by simp
  go_loopw [4, 5] (fun o i wr => ∃ k : Nat, k ≤ 9 ∧ i = .int .i64 k ∧ Own wr (w1.heap.size + 1) o ([(ki : Int)] ++ numsL ([fr, tq, tm, li, lt, cm, ok, hi, l.length].take k)) ∧ Below (w1.heap.size + 1) ((w1.alloc (.cells #[.int .i64 fr, .int .i64 tq, .int .i64 tm, .int .i64 li, .int .i64 lt, .int .i64 cm, .int .i64 ok, .int .i64 hi, .int .i64 (l.length : Nat)] 3)).alloc (.cells #[.int .u8 (ki : Int)] 5)) wr) (fun _ i _ => 9 - (intOf i).toNat)
  case atStart => exact ⟨0, Nat.zero_le _, rfl, by simpa [numsL] using hO1.le (B' := w1.heap.size + 1) (by simp), Below.refl _ _⟩
  case round =>
    obtain ⟨k, hk, rfl, ho, hB⟩ := hrel
    have hz : w1.heap.size + 1 + 1 ≤ wr.heap.size := by have := hB.size; rw [hZ] at this; exact this
    by_cases hlt : k < 9
    · have hck := hI k (by simpa using hlt)
      have hlen9 := numsL_len ([fr, tq, tm, li, lt, cm, ok, hi, l.length].take k) (fun n hn => HN.out n (List.mem_of_mem_take hn))
      have hcw : wr.cell? ⟨w1.heap.size, k, none⟩ = some (.int .i64 ([fr, tq, tm, li, lt, cm, ok, hi, l.length][k]?.getD 0 : Nat)) := by
        rw [hB.cell (p := ⟨w1.heap.size, k, none⟩) (by simp), World.cell?_alloc_past _ _ _ (by simp)]
        exact hck
      have hn : [fr, tq, tm, li, lt, cm, ok, hi, l.length][k]?.getD 0 < 9223372036854775808 := by
        have hkl : k < [fr, tq, tm, li, lt, cm, ok, hi, l.length].length := by simpa using hlt
        rw [List.getElem?_eq_getElem hkl]
        exact HN.out _ (List.getElem_mem hkl)
      have HS : Hid (numsL ([fr, tq, tm, li, lt, cm, ok, hi, l.length].take (k + 1)) = numsL ([fr, tq, tm, li, lt, cm, ok, hi, l.length].take k) ++ numL ([fr, tq, tm, li, lt, cm, ok, hi, l.length][k]?.getD 0)) := numsL_snoc _ k (by simpa using hlt)
      rw [List.length_take] at hlen9
      have hT : ([fr, tq, tm, li, lt, cm, ok, hi, l.length] : List Nat).length = 9 := rfl
      rw [hT] at hlen9
      generalize [fr, tq, tm, li, lt, cm, ok, hi, l.length][k]?.getD 0 = x at hcw hn HS
      have l9 := numL_len9 x hn
      have lp := numL_pos x
      clear hck hI hO1 cc hT
      go_wp2_with (first
        | (go_at_call 62; refine (specNum_any x hn _).mono ?_; rintro e w2 ⟨v2, rfl, ho2, hb2⟩; have hop := ho.below hb2; have hz2 := hb2.size)
        | (at_builtin; refine wpl_append rfl (.tmp 41) (.tmp 46) rfl hop rfl (ho2.bs (by unfold maxLen; omega)) rfl lp (by simp; omega) (by omega) ?_; intro v3 w3 ho3 hg3))
      go_roundw
      case rel => exact ⟨k + 1, by omega, by go_num, by rw [HS.out, ← List.append_assoc]; exact ho3, hB.trans ((hb2.mono (by omega)).trans (hg3.below hop (by omega)))⟩
      case measure => simp [intOf]; omega
    · have e9 : k = 9 := by omega
      subst e9
      have hT : [fr, tq, tm, li, lt, cm, ok, hi, l.length].take 9 = [fr, tq, tm, li, lt, cm, ok, hi, l.length] := rfl
      rw [hT] at ho
      have hBw : ∀ wx, Below (w1.heap.size + 1) ((w1.alloc (.cells #[.int .i64 fr, .int .i64 tq, .int .i64 tm, .int .i64 li, .int .i64 lt, .int .i64 cm, .int .i64 ok, .int .i64 hi, .int .i64 (l.length : Nat)] 3)).alloc (.cells #[.int .u8 (ki : Int)] 5)) wx → Below w.heap.size w wx := fun wx hx => ((Below.refl _ _).alloc (Nat.le_refl _) _).trans ((hB0.mono (by omega)).trans (((Below.refl _ _).alloc (by omega) _).trans (((Below.refl _ _).alloc (by simp; omega) _).trans (hx.mono (by omega)))))
      have c9 : w1.cell? ⟨w.heap.size, 9, none⟩ = some (.slice a l.length cap) := by rw [cc 9]; simp
      have hcx : ∀ wx, Below (w1.heap.size + 1) ((w1.alloc (.cells #[.int .i64 fr, .int .i64 tq, .int .i64 tm, .int .i64 li, .int .i64 lt, .int .i64 cm, .int .i64 ok, .int .i64 hi, .int .i64 (l.length : Nat)] 3)).alloc (.cells #[.int .u8 (ki : Int)] 5)) wx → wx.cell? ⟨w.heap.size, 9, none⟩ = some (.slice a l.length cap) := fun wx hx => by
        rw [hx.cell (p := ⟨w.heap.size, 9, none⟩) (show w.heap.size < w1.heap.size + 1 by omega), World.cell?_alloc_past _ _ _ (by simp; omega), World.cell?_alloc_past _ _ _ hz1]
        exact c9
      have HX : Hid (∀ wx, Below (w1.heap.size + 1) ((w1.alloc (.cells #[.int .i64 fr, .int .i64 tq, .int .i64 tm, .int .i64 li, .int .i64 lt, .int .i64 cm, .int .i64 ok, .int .i64 hi, .int .i64 (l.length : Nat)] 3)).alloc (.cells #[.int .u8 (ki : Int)] 5)) wx → wx.cell? ⟨w.heap.size, 9, none⟩ = some (.slice a l.length cap)) := hcx
      have HW : Hid (∀ wx, Below (w1.heap.size + 1) ((w1.alloc (.cells #[.int .i64 fr, .int .i64 tq, .int .i64 tm, .int .i64 li, .int .i64 lt, .int .i64 cm, .int .i64 ok, .int .i64 hi, .int .i64 (l.length : Nat)] 3)).alloc (.cells #[.int .u8 (ki : Int)] 5)) wx → Below w.heap.size w wx) := hBw
      clear hI hO1 hT hcx hBw c9 cc
      obtain ⟨N, hN⟩ : ∃ N, N = numsL [fr, tq, tm, li, lt, cm, ok, hi, l.length] := ⟨_, rfl⟩
      have hM : msgL ki fr tq tm li lt cm ok hi l = [(ki : Int)] ++ N ++ entsL l := by rw [hN]; simp [msgL]
      rw [hM] at hp hlen
      rw [← hN] at ho hn9
      have HM : Hid (msgL ki fr tq tm li lt cm ok hi l = [(ki : Int)] ++ N ++ entsL l) := hM
      clear hM hN
      generalize hW2 : (w1.alloc (.cells #[.int .i64 fr, .int .i64 tq, .int .i64 tm, .int .i64 li, .int .i64 lt, .int .i64 cm, .int .i64 ok, .int .i64 hi, .int .i64 (l.length : Nat)] 3)).alloc (.cells #[.int .u8 (ki : Int)] 5) = W2 at hB HX HW hZ
      clear hW2
      go_wp2
      go_loopw [4, 6] (fun o i wx => ∃ k : Nat, k ≤ l.length ∧ i = .int .i64 k ∧ Own wx (w1.heap.size + 1) o ([(ki : Int)] ++ N ++ entsL (l.take k)) ∧ Below (w1.heap.size + 1) W2 wx) (fun _ i _ => l.length - (intOf i).toNat)
      case atStart => exact ⟨0, Nat.zero_le _, rfl, by simpa [entsL] using ho, hB⟩
      case round =>
        obtain ⟨k, hk, rfl, ho', hB'⟩ := hrel
        have hzy : w1.heap.size + 1 + 1 ≤ wr.heap.size := by have := hB'.size; omega
        have c9 := HX.out _ hB'
        clear ho hB
        by_cases hlt : k < l.length
        · obtain ⟨b, off, rfl, hj⟩ := HCl.out k hlt
          obtain ⟨c0, c1, c2, c3, c4, c5, c6⟩ := (hj k hlt).below (HW.out _ hB')
          have hlenE := entsL_len (l.take k) (fun e he => HA.out e (List.mem_of_mem_take he))
          rw [List.length_take] at hlenE
          have HS : Hid (entsL (l.take (k + 1)) = entsL (l.take k) ++ entL l[k]) := entsL_snoc l k hlt
          obtain ⟨t, cl, sq, op, ky, vl, od, he, d0, d1, d2, d3, d4, d5, d6, hE⟩ := entB_nat (HA.out l[k] (List.getElem_mem hlt))
          obtain ⟨ep, el⟩ := entN_len t cl sq op ky vl od d0 d1 d2 d3 d4 d5 d6
          rw [hE] at HS
          rw [he] at c0 c1 c2 c3 c4 c5 c6
          clear hj hE he
          go_wp2_with (first
            | (go_at_call 63; refine (specEntryBytes_nat t cl sq op ky vl od _ d0 d1 d2 d3 d4 d5 d6).mono ?_; rintro e w2 ⟨v2, rfl, ho2, hb2⟩; have hop := ho'.below hb2; have hz2 := hb2.size)
            | (at_builtin; refine wpl_append rfl (.tmp 55) (.tmp 61) rfl hop rfl (ho2.bs (by unfold maxLen; omega)) rfl ep (by simp; omega) (by omega) ?_; intro v3 w3 ho3 hg3))
          go_roundw
          case rel => (repeat apply Exists.intro); exact ⟨⟨k + 1, by omega, by go_num, by rw [HS.out, ← List.append_assoc]; exact ho3, hB'.trans ((hb2.mono (by omega)).trans (hg3.below hop (by omega)))⟩, rfl⟩
          case measure => simp [intOf]; omega
        · have e : l.take k = l := List.take_of_length_le (by omega)
          rw [e] at ho'
          go_wp2_with (go_at_call 64; refine (specFrame_any _ _ _ (ho'.bs (by unfold maxLen; omega)) hp (by omega)).mono ?_; rintro e w4 ⟨v4, rfl, ho4, hb4⟩)
          go_ret
          exact ⟨_, rfl, by rw [HM.out]; exact ho4.le (by omega), (HW.out _ hB').trans (hb4.mono (by omega))⟩

set_option maxHeartbeats 2000000 in
set_option maxRecDepth 100000 in
theorem specEncodeMsg_any (ki fr tq tm li lt cm ok hi : Int) (ev : Value) (l : List Ent) (w : World) (hv : Es w ev l) (hll : l.length ≤ 1048576) :
    Calls Try.prog 24 #[.agg #[.int .i64 ki, .int .i64 fr, .int .i64 tq, .int .i64 tm, .int .i64 li, .int .i64 lt, .int .i64 cm, .int .i64 ok, .int .i64 hi, ev]] w fun e w' => ∃ v', e = .returned v' ∧ Own w' w.heap.size v' (encMsg ki fr tq tm li lt cm ok hi l) ∧ Below w.heap.size w w' := by
  by_cases hF : msgF ki fr tq tm li lt cm ok hi l = 0
  · rw [encMsg, if_pos hF]
    obtain ⟨⟨a1, a2⟩, ⟨a3, a4⟩, ⟨a5, a6⟩, ⟨a7, a8⟩, ⟨a9, a10⟩, ⟨a11, a12⟩, ⟨a13, a14⟩, ⟨a15, a16⟩, ⟨a17, a18⟩, hl32, hall⟩ := msgF_ok hF
    obtain ⟨ki, rfl⟩ := Int.eq_ofNat_of_zero_le (show 0 ≤ ki by omega)
    obtain ⟨fr, rfl⟩ := Int.eq_ofNat_of_zero_le (show 0 ≤ fr by omega)
    obtain ⟨tq, rfl⟩ := Int.eq_ofNat_of_zero_le (show 0 ≤ tq by omega)
    obtain ⟨tm, rfl⟩ := Int.eq_ofNat_of_zero_le (show 0 ≤ tm by omega)
    obtain ⟨li, rfl⟩ := Int.eq_ofNat_of_zero_le a9
    obtain ⟨lt, rfl⟩ := Int.eq_ofNat_of_zero_le a11
    obtain ⟨cm, rfl⟩ := Int.eq_ofNat_of_zero_le a13
    obtain ⟨ok, rfl⟩ := Int.eq_ofNat_of_zero_le a15
    obtain ⟨hi, rfl⟩ := Int.eq_ofNat_of_zero_le a17
    simp only [Int.toNat_natCast]
    exact specEncodeMsg_yes ki fr tq tm li lt cm ok hi ev l w hv hll hF
  · rw [encMsg, if_neg hF]
    have n0 : (msgF ki fr tq tm li lt cm ok hi l != 0) = true := by simpa using hF
    have hV : Hid (Es w ev l) := hv
    clear hv
    go_enter Try.func24, Try.ntmps24
    go_wp2_with (go_at_call 61; refine (specMsgFault_any _ _ _ _ _ _ _ _ _ _ l _ (hV.out.below ((Below.refl _ _).alloc (Nat.le_refl _) _)) hll).mono ?_; rintro e w1 ⟨rfl, hb⟩; have hB : Below w.heap.size w w1 := ((Below.refl _ _).alloc (Nat.le_refl _) _).trans (hb.mono (by simp)); have h7 := Own.lit0 w1; have hz := hB.size)
    go_ret
    exact ⟨_, rfl, h7.le hz, hB.trans ((Below.refl _ _).alloc hz _)⟩
end Go.Proofs.Ytfcmffdljfljkaa
