/-
  spec.EncodeCall; the walk of the law FnExactEncodeCall.
-/
import Derived.Test.YtdobgdbceonjkabSpecCmd
import Derived.Test.YtdobgdbceonjkabEncCall
import Derived.Test.YtdobgdbceonjkabMarks
import Derived.Test.YtdobgdbceonjkabCmdArg
namespace Go.Proofs.Ytdobgdbceonjkab
open Go.RowKit
set_option linter.unusedVariables false

/-- what EncodeCall answers -/
def encCall (cl sq op : Int) (k v o : ByteArray) : List Int := if callF cl sq op k.size v.size o.size = 0 then frameL (7 :: cmdL cl.toNat sq.toNat op.toNat k v o) else []

set_option maxHeartbeats 2000000 in
set_option maxRecDepth 100000 in
theorem specEncodeCall_any (cl sq op : Int) (k vl o : ByteArray) (w : World) (hk : k.size ≤ maxLen) (hvl : vl.size ≤ maxLen) (ho : o.size ≤ maxLen) :
    Calls Try.prog 30 #[.agg #[.int .i64 cl, .int .i64 sq, .int .i64 op, .string k, .string vl, .string o]] w fun e w' =>
      ∃ v', e = .returned v' ∧ Own w' w.heap.size v' (encCall cl sq op k vl o) ∧ Below w.heap.size w w' := by
  by_cases hF : callF cl sq op k.size vl.size o.size = 0
  · rw [encCall, if_pos hF]
    obtain ⟨hc, hop⟩ := callF_ok hF
    obtain ⟨a1, a2, a3, a4, a5, a6, a7, a8, a9⟩ := cmdF_ok hc
    obtain ⟨cl, rfl⟩ := Int.eq_ofNat_of_zero_le a1
    obtain ⟨sq, rfl⟩ := Int.eq_ofNat_of_zero_le a3
    obtain ⟨op, rfl⟩ := Int.eq_ofNat_of_zero_le a5
    have hlen := cmdL_len cl sq op k vl o (by omega) (by omega) (by omega) (by omega) (by omega) (by omega)
    have hp : 0 < (cmdL cl sq op k vl o).length := by have := textL_pos o; simp only [cmdL, List.length_append]; omega
    have n0 : ((op : Int) == 0) = false := by simpa using hop
    simp only [Int.toNat_natCast]
    have HC : Hid (cmdF cl sq op k.size vl.size o.size = 0) := hc
    clear hc hF hop
    go_enter Try.func30, Try.ntmps30
    go_wp2_with (first
      | (go_at_call 46; refine (specCmdFault_any _ _ _ k vl o hk hvl ho _).mono ?_; rintro e w1 ⟨rfl, hb⟩; rw [HC.out]; have hB : Below (w.heap.size + 1) (w.alloc (.cells #[.int .i64 cl, .int .i64 sq, .int .i64 op, .string k, .string vl, .string o] 54)) w1 := hb.mono (by simp); have hz : w.heap.size < w1.heap.size := (by have := hB.size; simp at this; omega); have cc := fun (o : Nat) => hB.cell (p := ⟨w.heap.size, o, none⟩) (by simp); have h7 := Own.lit w1 [7] #[.int .u8 7] rfl (by simp) (by simp [maxLen]))
      | (go_at_call 48; refine (specCmdBytes_any cl sq op k vl o _ (by omega) (by omega) (by omega) (by omega) (by omega) (by omega)).mono ?_; rintro e w2 ⟨v2, rfl, ho2, hb2⟩; replace h7 := h7.below hb2; have hz2 := hb2.size; simp at hz2)
      | (at_builtin; refine wpl_append rfl (.tmp 14) (.tmp 16) rfl h7 rfl (ho2.bs (by unfold maxLen; omega)) rfl hp (by simp; omega) (by omega) ?_; intro v3 w3 ho3 hg3; have hB3 := hg3.below h7 (by omega); have hz3 := hB3.size)
      | (go_at_call 47; refine (specFrame_any _ _ _ (ho3.bs (by unfold maxLen; simp; omega)) (by simp) (by simp; omega)).mono ?_; rintro e w4 ⟨v4, rfl, ho4, hb4⟩))
    go_ret
    refine ⟨_, rfl, by simpa using ho4.le (B' := w.heap.size) (by omega), ((Below.refl _ _).alloc (Nat.le_refl _) _).trans ((hB.mono (by omega)).trans (((Below.refl _ _).alloc (by omega) _).trans ((hb2.mono (by simp; omega)).trans ((hB3.mono (by omega)).trans (hb4.mono (by omega))))))⟩
  · rw [encCall, if_neg hF]
    by_cases h0 : cmdF cl sq op k.size vl.size o.size = 0
    · have hop : op = 0 := by
        by_cases h : op = 0
        · exact h
        · exact absurd (by rw [callF, if_neg (fun h' => h h'.2), h0]) hF
      subst hop
      clear hF
      go_enter Try.func30, Try.ntmps30
      go_wp2_with (go_at_call 46; refine (specCmdFault_any _ _ _ k vl o hk hvl ho _).mono ?_; rintro e w1 ⟨rfl, hb⟩; have hB : Below (w.heap.size + 1) (w.alloc (.cells #[.int .i64 cl, .int .i64 sq, .int .i64 0, .string k, .string vl, .string o] 54)) w1 := hb.mono (by simp); have hz : w.heap.size < w1.heap.size := (by have := hB.size; simp at this; omega); have cc := fun (o : Nat) => hB.cell (p := ⟨w.heap.size, o, none⟩) (by simp); have h7 := Own.lit0 w1)
      go_ret
      exact ⟨_, rfl, h7.le (by omega), ((Below.refl _ _).alloc (Nat.le_refl _) _).trans ((hB.mono (by omega)).trans ((Below.refl _ _).alloc (by omega) _))⟩
    · have n0 : (cmdF cl sq op k.size vl.size o.size != 0) = true := by simpa using h0
      go_enter Try.func30, Try.ntmps30
      go_wp2_with (go_at_call 46; refine (specCmdFault_any _ _ _ k vl o hk hvl ho _).mono ?_; rintro e w1 ⟨rfl, hb⟩; have hB : Below (w.heap.size + 1) (w.alloc (.cells #[.int .i64 cl, .int .i64 sq, .int .i64 op, .string k, .string vl, .string o] 54)) w1 := hb.mono (by simp); have hz : w.heap.size < w1.heap.size := (by have := hB.size; simp at this; omega); have cc := fun (o : Nat) => hB.cell (p := ⟨w.heap.size, o, none⟩) (by simp); have h7 := Own.lit0 w1)
      go_ret
      exact ⟨_, rfl, h7.le (by omega), ((Below.refl _ _).alloc (Nat.le_refl _) _).trans ((hB.mono (by omega)).trans ((Below.refl _ _).alloc (by omega) _))⟩

set_option maxHeartbeats 4000000 in
set_option maxRecDepth 100000 in
theorem lawEncodeCall_walk (cl sq op : Int) (k v o : ByteArray) (hk : k.size ≤ maxLen) (hv : v.size ≤ maxLen) (ho : o.size ≤ maxLen) (w : World) :
    Calls Try.prog 7 #[.agg #[.int .i64 cl, .int .i64 sq, .int .i64 op, .string k, .string v, .string o]] w fun e w' =>
      e = .returned (.bool true) ∧ Below w.heap.size w w' := by
  have hL : (encCall cl sq op k v o).length ≤ 1000 := by
    unfold encCall
    split
    · next hF =>
      obtain ⟨hc, hop⟩ := callF_ok hF
      obtain ⟨a1, a2, a3, a4, a5, a6, a7, a8, a9⟩ := cmdF_ok hc
      have hlen := cmdL_len cl.toNat sq.toNat op.toNat k v o (by omega) (by omega) (by omega) (by omega) (by omega) (by omega)
      simp [frameL, wordL]; omega
    · simp
  have HI : ∀ w : World, Hid (Calls Try.prog 32 #[.agg #[.int .i64 cl, .int .i64 sq, .int .i64 op, .string k, .string v, .string o]] w fun e w' =>
      ∃ v', e = .returned v' ∧ Own w' w.heap.size v' (encCall cl sq op k v o) ∧ Below w.heap.size w w') := fun w => implEncodeCall_any cl sq op k v o w hk hv ho
  have HS : ∀ w : World, Hid (Calls Try.prog 30 #[.agg #[.int .i64 cl, .int .i64 sq, .int .i64 op, .string k, .string v, .string o]] w fun e w' =>
      ∃ v', e = .returned v' ∧ Own w' w.heap.size v' (encCall cl sq op k v o) ∧ Below w.heap.size w w') := fun w => specEncodeCall_any cl sq op k v o w hk hv ho
  generalize encCall cl sq op k v o = L at hL HI HS
  have hLm : L.length ≤ maxLen := by unfold maxLen; omega
  have g1 : True := trivial
  have g2 : True := trivial
  have g3 : True := trivial
  have g4 : True := trivial
  go_enter Try.func7, Try.ntmps7
  go_wp2_with (first
    | (go_at_call 29; refine (szCmd_any cl sq op k v o _ (by omega) (by omega) hk hv ho _).mono ?_; rintro e w1 ⟨rfl, hb⟩; obtain ⟨hc, hf⟩ := bcell hb; have hz : w.heap.size < w1.heap.size := (by have := hb.size; simp at this; omega); have hB : Below w.heap.size w w1 := ((Below.refl _ _).alloc (Nat.le_refl _) _).trans (hb.mono (by simp)))
    | (go_at_call 31; refine (toCmd_any cl sq op k v o _).mono ?_; rintro e w2 ⟨rfl, hb⟩; obtain ⟨hc, hf⟩ := bcell hb; have hz : w.heap.size < w2.heap.size := (by have := hb.size; omega); replace hB := hB.trans (hb.mono (by omega)); (try replace hw0 := hw0.below hb); (try replace hm := hm.below hb))
    | (go_at_call 30; refine Calls.mono (HS _).out ?_; rintro e w3 ⟨v0, rfl, hw0, hb⟩; obtain ⟨hc, hf⟩ := bcell hb; have hz : w.heap.size < w3.heap.size := (by have := hb.size; omega); replace hB := hB.trans (hb.mono (by omega)))
    | (go_at_call 32; clear g1; have hlt := fun k e => (hw0.2.lt k e).2; refine Calls.mono (HI _).out ?_; rintro e w5 ⟨vg, rfl, hg0, hb⟩; obtain ⟨hc, hf⟩ := bcell hb; have hz1 := hz; have hle := hb.size; have hz : w.heap.size < w5.heap.size := (by have := hb.size; omega); replace hB := hB.trans (hb.mono (by omega)); replace hw0 := hw0.below hb)
    | (go_at_call 11; clear g2; refine (eqByteS_same _ _ L _ (hg0.bs hLm) (hw0.bs hLm)).mono ?_; rintro e w6 ⟨rfl, hb⟩; obtain ⟨hc, hf⟩ := bcell hb; have hz : w.heap.size < w6.heap.size := (by have := hb.size; omega); replace hle := Nat.le_trans hle hb.size; replace hB := hB.trans (hb.mono (by omega)); replace hw0 := hw0.below hb; replace hg0 := hg0.below hb)
    | (go_at_call 12; refine (markByteS_any _ L 1 _ _ hg0 (by omega) (by omega)).mono ?_; rintro e w7 ⟨rfl, hm, hgm⟩; have hbm := hg0.marked hgm hle; have cc := fun (o : Nat) => hbm.cell (p := ⟨w.heap.size, o, none⟩) hz1; have hz : w.heap.size < w7.heap.size := (by have := hbm.size; omega); replace hB := hB.trans (hbm.mono (by omega)); replace hw0 := hw0.far hbm hlt; clear hg0)
    | (go_at_call 13; refine (heldByteS_any _ 1 L.length _ (hm.bs (by rw [marksL_len]; exact hLm)) (by omega) (by omega)).mono ?_; rintro e w8 ⟨rfl, rfl⟩)
    | (go_at_call 32; refine Calls.mono (HI _).out ?_; rintro e w9 ⟨vh, rfl, hh0, hb⟩; obtain ⟨hc, hf⟩ := bcell hb; have hz : w.heap.size < w9.heap.size := (by have := hb.size; omega); replace hB := hB.trans (hb.mono (by omega)); replace hw0 := hw0.below hb; replace hm := hm.below hb)
    | (go_at_call 11; refine (eqByteS_same _ _ L _ (hh0.bs hLm) (hw0.bs hLm)).mono ?_; rintro e w10 ⟨rfl, hb⟩; have hz : w.heap.size < w10.heap.size := (by have := hb.size; omega); replace hB := hB.trans (hb.mono (by omega)); replace hm := hm.below hb))
  all_goals go_ret
  all_goals exact ⟨rfl, hB⟩
end Go.Proofs.Ytdobgdbceonjkab
