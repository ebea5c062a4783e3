/-
  spec.EncodeReply.
-/
import Derived.Test.YtafmjckpbcijoaaGreatDoorSpecFrame
import Derived.Test.YtafmjckpbcijoaaGreatDoorEncReply
namespace Go.Proofs.YtafmjckpbcijoaaGreatDoor
open Go.RowKit
set_option linter.unusedVariables false

set_option maxHeartbeats 4000000 in
set_option maxRecDepth 100000 in
theorem specEncodeReply_any (cl sq st cd ld : Int) (v : ByteArray) (w : World) (hv : v.size ≤ maxLen) :
    Calls Tryz.prog 14 #[.agg #[.int .i64 cl, .int .i64 sq, .int .i64 st, .int .i64 cd, .string v, .int .i64 ld]] w fun e w' => ∃ v', e = .returned v' ∧ Own w' w.heap.size v' (encReply cl sq st cd ld v) ∧ Below w.heap.size w w' := by
  by_cases hF : repF cl sq st cd v.size ld = 0
  · rw [encReply, if_pos hF]
    obtain ⟨a1, a2, a3, a4, a5, a6, a7, a8, a9, a10, a11⟩ := repF_ok hF
    obtain ⟨cl, rfl⟩ := Int.eq_ofNat_of_zero_le (show 0 ≤ cl by omega)
    obtain ⟨sq, rfl⟩ := Int.eq_ofNat_of_zero_le (show 0 ≤ sq by omega)
    obtain ⟨st, rfl⟩ := Int.eq_ofNat_of_zero_le (show 0 ≤ st by omega)
    obtain ⟨cd, rfl⟩ := Int.eq_ofNat_of_zero_le a7
    obtain ⟨ld, rfl⟩ := Int.eq_ofNat_of_zero_le a10
    simp only [Int.toNat_natCast]
    have l1 := numL_len9 cl (by omega)
    have l2 := numL_len9 sq (by omega)
    have l3 := numL_len9 st (by omega)
    have l4 := numL_len9 cd (by omega)
    have l5 := textL_len v (by omega)
    have l6 := numL_len9 ld (by omega)
    have p1 := numL_pos cl
    have p2 := numL_pos sq
    have p3 := numL_pos st
    have p4 := numL_pos cd
    have p5 := textL_pos v
    have p6 := numL_pos ld
    have g1 : True := trivial
    have g2 : True := trivial
    have g3 : True := trivial
    have g4 : True := trivial
    have g5 : True := trivial
    have g6 : True := trivial
    go_enter Tryz.func14, Tryz.ntmps14
    go_wp2_with (first
      | (go_at_call 34; refine (specReplyFault_any _ _ _ _ _ v hv _).mono ?_; rintro e w1 ⟨rfl, hb⟩; rw [hF]; have hB : Below (w.heap.size + 1) (w.alloc (.cells #[.int .i64 cl, .int .i64 sq, .int .i64 st, .int .i64 cd, .string v, .int .i64 ld] 38)) w1 := hb.mono (by simp); have hz : w.heap.size < w1.heap.size := (by have := hB.size; simp at this; omega); have cc := fun (o : Nat) => hB.cell (p := ⟨w.heap.size, o, none⟩) (by simp); replace hB := hB.trans ((Below.refl _ _).alloc (by omega) (.cells #[.int .u8 8] 5)); have ho := (Own.lit w1 [8] #[.int .u8 8] rfl (by simp) (by simp [maxLen])).le (B' := w.heap.size + 1) (by omega); have hz' : w.heap.size < (w1.alloc (.cells #[.int .u8 8] 5)).heap.size := (by simp; omega))
      | (go_at_call 35; clear g1; refine (specNum_any cl (by omega) _).mono ?_; rintro e y1 ⟨v1, rfl, hr, hb⟩; replace hB := hB.trans (hb.mono (by omega)); replace ho := ho.below hb; have hz' : w.heap.size < y1.heap.size := (by have := hB.size; simp at this; omega); have cc := fun (o : Nat) => hB.cell (p := ⟨w.heap.size, o, none⟩) (by simp))
      | (at_builtin; refine wpl_append rfl (.tmp 9) (.tmp 12) rfl ho rfl (hr.bs (by unfold maxLen; omega)) rfl (by omega) (by (try simp only [List.length_append, List.length_cons, List.length_nil]); omega) (by omega) ?_; intro u1 x1 hn hg; replace hB := hB.trans (hg.below ho (by omega)); replace ho := hn; clear hn hr; have hz' : w.heap.size < x1.heap.size := (by have := hB.size; simp at this; omega); have cc := fun (o : Nat) => hB.cell (p := ⟨w.heap.size, o, none⟩) (by simp))
      | (go_at_call 35; clear g2; refine (specNum_any sq (by omega) _).mono ?_; rintro e y2 ⟨v2, rfl, hr, hb⟩; replace hB := hB.trans (hb.mono (by omega)); replace ho := ho.below hb; have hz' : w.heap.size < y2.heap.size := (by have := hB.size; simp at this; omega); have cc := fun (o : Nat) => hB.cell (p := ⟨w.heap.size, o, none⟩) (by simp))
      | (at_builtin; refine wpl_append rfl (.tmp 14) (.tmp 17) rfl ho rfl (hr.bs (by unfold maxLen; omega)) rfl (by omega) (by (try simp only [List.length_append, List.length_cons, List.length_nil]); omega) (by omega) ?_; intro u2 x2 hn hg; replace hB := hB.trans (hg.below ho (by omega)); replace ho := hn; clear hn hr; have hz' : w.heap.size < x2.heap.size := (by have := hB.size; simp at this; omega); have cc := fun (o : Nat) => hB.cell (p := ⟨w.heap.size, o, none⟩) (by simp))
      | (go_at_call 35; clear g3; refine (specNum_any st (by omega) _).mono ?_; rintro e y3 ⟨v3, rfl, hr, hb⟩; replace hB := hB.trans (hb.mono (by omega)); replace ho := ho.below hb; have hz' : w.heap.size < y3.heap.size := (by have := hB.size; simp at this; omega); have cc := fun (o : Nat) => hB.cell (p := ⟨w.heap.size, o, none⟩) (by simp))
      | (at_builtin; refine wpl_append rfl (.tmp 19) (.tmp 22) rfl ho rfl (hr.bs (by unfold maxLen; omega)) rfl (by omega) (by (try simp only [List.length_append, List.length_cons, List.length_nil]); omega) (by omega) ?_; intro u3 x3 hn hg; replace hB := hB.trans (hg.below ho (by omega)); replace ho := hn; clear hn hr; have hz' : w.heap.size < x3.heap.size := (by have := hB.size; simp at this; omega); have cc := fun (o : Nat) => hB.cell (p := ⟨w.heap.size, o, none⟩) (by simp))
      | (go_at_call 35; clear g4; refine (specNum_any cd (by omega) _).mono ?_; rintro e y4 ⟨v4, rfl, hr, hb⟩; replace hB := hB.trans (hb.mono (by omega)); replace ho := ho.below hb; have hz' : w.heap.size < y4.heap.size := (by have := hB.size; simp at this; omega); have cc := fun (o : Nat) => hB.cell (p := ⟨w.heap.size, o, none⟩) (by simp))
      | (at_builtin; refine wpl_append rfl (.tmp 24) (.tmp 27) rfl ho rfl (hr.bs (by unfold maxLen; omega)) rfl (by omega) (by (try simp only [List.length_append, List.length_cons, List.length_nil]); omega) (by omega) ?_; intro u4 x4 hn hg; replace hB := hB.trans (hg.below ho (by omega)); replace ho := hn; clear hn hr; have hz' : w.heap.size < x4.heap.size := (by have := hB.size; simp at this; omega); have cc := fun (o : Nat) => hB.cell (p := ⟨w.heap.size, o, none⟩) (by simp))
      | (go_at_call 36; clear g5; refine (specText_any v _ (by omega)).mono ?_; rintro e y5 ⟨v5, rfl, hr, hb⟩; replace hB := hB.trans (hb.mono (by omega)); replace ho := ho.below hb; have hz' : w.heap.size < y5.heap.size := (by have := hB.size; simp at this; omega); have cc := fun (o : Nat) => hB.cell (p := ⟨w.heap.size, o, none⟩) (by simp))
      | (at_builtin; refine wpl_append rfl (.tmp 29) (.tmp 32) rfl ho rfl (hr.bs (by unfold maxLen; omega)) rfl (by omega) (by (try simp only [List.length_append, List.length_cons, List.length_nil]); omega) (by omega) ?_; intro u5 x5 hn hg; replace hB := hB.trans (hg.below ho (by omega)); replace ho := hn; clear hn hr; have hz' : w.heap.size < x5.heap.size := (by have := hB.size; simp at this; omega); have cc := fun (o : Nat) => hB.cell (p := ⟨w.heap.size, o, none⟩) (by simp))
      | (go_at_call 35; clear g6; refine (specNum_any ld (by omega) _).mono ?_; rintro e y6 ⟨v6, rfl, hr, hb⟩; replace hB := hB.trans (hb.mono (by omega)); replace ho := ho.below hb; have hz' : w.heap.size < y6.heap.size := (by have := hB.size; simp at this; omega); have cc := fun (o : Nat) => hB.cell (p := ⟨w.heap.size, o, none⟩) (by simp))
      | (at_builtin; refine wpl_append rfl (.tmp 34) (.tmp 37) rfl ho rfl (hr.bs (by unfold maxLen; omega)) rfl (by omega) (by (try simp only [List.length_append, List.length_cons, List.length_nil]); omega) (by omega) ?_; intro u6 x6 hn hg; replace hB := hB.trans (hg.below ho (by omega)); replace ho := hn; clear hn hr; have hz' : w.heap.size < x6.heap.size := (by have := hB.size; simp at this; omega); have cc := fun (o : Nat) => hB.cell (p := ⟨w.heap.size, o, none⟩) (by simp))
      | (go_at_call 37; refine (specFrame_any _ _ _ (ho.bs (by unfold maxLen; simp only [List.length_append, List.length_cons, List.length_nil]; omega)) (by simp) (by simp only [List.length_append, List.length_cons, List.length_nil]; omega)).mono ?_; rintro e w4 ⟨v4, rfl, ho4, hb4⟩))
    go_ret
    refine ⟨_, rfl, ?_, ((Below.refl _ _).alloc (Nat.le_refl _) _).trans ((hB.mono (by omega)).trans (hb4.mono (by omega)))⟩
    have := ho4.le (B' := w.heap.size) (by omega)
    simpa [repL, numsL, List.append_assoc] using this
  · rw [encReply, if_neg hF]
    have n0 : (repF cl sq st cd v.size ld != 0) = true := by simpa using hF
    go_enter Tryz.func14, Tryz.ntmps14
    go_wp2_with (go_at_call 34; refine (specReplyFault_any _ _ _ _ _ v hv _).mono ?_; rintro e w1 ⟨rfl, hb⟩; have hB : Below w.heap.size w w1 := ((Below.refl _ _).alloc (Nat.le_refl _) _).trans (hb.mono (by simp)); have h7 := Own.lit0 w1; have hz := hB.size)
    go_ret
    exact ⟨_, rfl, h7.le hz, hB.trans ((Below.refl _ _).alloc hz _)⟩
end Go.Proofs.YtafmjckpbcijoaaGreatDoor
