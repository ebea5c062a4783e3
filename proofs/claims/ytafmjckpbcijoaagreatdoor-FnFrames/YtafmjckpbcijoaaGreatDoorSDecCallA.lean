/-
  spec.DecodeCall: a body that is none.
-/
import Derived.Test.YtafmjckpbcijoaaGreatDoorSDecCall
namespace Go.Proofs.YtafmjckpbcijoaaGreatDoor
open Go.RowKit
set_option linter.unusedVariables false
set_option linter.unusedSimpArgs false

set_option maxHeartbeats 4000000 in
set_option maxRecDepth 100000 in
theorem specDecCall_bad (a : Option Addr) (c : Nat) (l : List Int) (w : World) (hv : Bs w (.slice a l.length c) l) (hc : l.length ≤ c) (h0 : openC l 7 7 = 0) (hleft : (rdCmd (some (l.drop 9))).left = none) :
    Calls Tryz.prog 44 #[.slice a l.length c] w fun e w' => e = .returned (.agg #[.int .i64 5, .int .i64 0, .int .i64 0, .int .i64 0, .int .i64 0, .string ⟨#[]⟩, .string ⟨#[]⟩, .string ⟨#[]⟩]) ∧ Below w.heap.size w w' := by
  have HV : Hid (Bs w (.slice a l.length c) l) := hv
  have HO : Hid (∀ w', Below w.heap.size w w' → Calls Tryz.prog 68 #[.slice a l.length c, .int .i64 7, .int .i64 7] w' fun e w'' => e = .returned (.int .i64 (openC l 7 7 : Nat)) ∧ Below w'.heap.size w' w'') :=
    fun w' hb => l1open_any a l.length c l 7 7 w' (hv.below hb) hc _ hv.lt
  obtain ⟨h9, h16⟩ := openC_len h0
  rw [h0] at HO
  have HM : ∀ w' b, SRd w' b (.slice a l.length c) l (b + 1) (some (l.drop 9)) → Hid (Calls Tryz.prog 71 #[.pointer (some ⟨b, 0, none⟩)] w' fun e w'' => e = .returned (.agg #[.int .i64 ((rdCmd (some (l.drop 9))).cl : Nat), .int .i64 ((rdCmd (some (l.drop 9))).sq : Nat), .int .i64 ((rdCmd (some (l.drop 9))).op : Nat), .string (rdCmd (some (l.drop 9))).k, .string (rdCmd (some (l.drop 9))).v, .string (rdCmd (some (l.drop 9))).o]) ∧ SRd w'' b (.slice a l.length c) l (b + 1) (rdCmd (some (l.drop 9))).left ∧ w'.grownBy w'' (some b)) := fun w' b h => l1rdCmd_any b w' _ l _ _ (by omega) h
  clear hv
  go_enter Tryz.func44, Tryz.ntmps44
  go_wp2_with (first
    | (go_at_call 68; refine Calls.mono (HO.out _ (Below.alloc (Below.refl _ _) (Nat.le_refl _) _)) ?_; rintro e w1 ⟨rfl, hb1⟩; have hB1 : Below w.heap.size w w1 := ((Below.refl _ _).alloc (Nat.le_refl _) _).trans (hb1.mono (by simp)); have hz1 : w.heap.size < w1.heap.size := (by have := hb1.size; simp at this; omega); have hT : w1.there w.heap.size 0 8 := there_at hb1)
    | (refine gate_store 112 (.tmp 4) (.tmp 14) rfl ?_; refine wpl_store_new rfl 112 (.tmp 4) (.tmp 14) rfl #[.slice none 0 0, .int .i64 0, .bool false] #[.slice a l.length c, .int .i64 9, .bool false] rfl rfl infoL1rd rfl (by simp [Value.oneCell']) ?_; have hr0 := SRd.start (w := w1) (HV.out.below hB1) hc 9 h9; have hG0 := grown_alloc (grownBy_refl w1 (some w1.heap.size)) (.cells #[.slice a l.length c, .int .i64 9, .bool false] 112))
    | (go_at_call 71; refine Calls.mono (HM _ _ hr0).out ?_; rintro e w6 ⟨rfl, hr6, hg⟩; have hG6 := grownBy_trans hG0 hg; have hz6 : w1.heap.size < w6.heap.size := (by have := hg.size; simp at this; omega); have hT6 := World.there_alloc (there_grown hG6 hz1 hT (Nat.le_refl _)) (.cells #[.int .i64 ((rdCmd (some (l.drop 9))).cl : Nat), .int .i64 ((rdCmd (some (l.drop 9))).sq : Nat), .int .i64 ((rdCmd (some (l.drop 9))).op : Nat), .string (rdCmd (some (l.drop 9))).k, .string (rdCmd (some (l.drop 9))).v, .string (rdCmd (some (l.drop 9))).o] 33); have hB6 := (hB1.trans (below_grown hG6 (Nat.le_of_lt hz1) (Nat.le_refl _))).alloc (show w.heap.size ≤ w6.heap.size by omega) (.cells #[.int .i64 ((rdCmd (some (l.drop 9))).cl : Nat), .int .i64 ((rdCmd (some (l.drop 9))).sq : Nat), .int .i64 ((rdCmd (some (l.drop 9))).op : Nat), .string (rdCmd (some (l.drop 9))).k, .string (rdCmd (some (l.drop 9))).v, .string (rdCmd (some (l.drop 9))).o] 33); replace hr6 := SRd.below hr6 ((Below.refl _ _).alloc (show w1.heap.size + 1 ≤ w6.heap.size by omega) (.cells #[.int .i64 ((rdCmd (some (l.drop 9))).cl : Nat), .int .i64 ((rdCmd (some (l.drop 9))).sq : Nat), .int .i64 ((rdCmd (some (l.drop 9))).op : Nat), .string (rdCmd (some (l.drop 9))).k, .string (rdCmd (some (l.drop 9))).v, .string (rdCmd (some (l.drop 9))).o] 33)); have hrg := range_new w6 [.int .i64 ((rdCmd (some (l.drop 9))).cl : Nat), .int .i64 ((rdCmd (some (l.drop 9))).sq : Nat), .int .i64 ((rdCmd (some (l.drop 9))).op : Nat), .string (rdCmd (some (l.drop 9))).k, .string (rdCmd (some (l.drop 9))).v, .string (rdCmd (some (l.drop 9))).o] 33; clear hg hG6 hr0 hG0; change SRd _ _ _ _ _ (rdCmd (some (l.drop 9))).left at hr6; rw [hleft] at hr6; obtain ⟨hbD6, _, hbs6, hfit6, hf6, _, p, hp, k1, k2, k3⟩ := hr6; clear hbs6 hfit6 hf6; simp only [Option.isNone_none] at k2; clear k3)
    | (refine gate_store 33 (.tmp 5) (.tmp 15) rfl ?_; refine wpl_store_new rfl 33 (.tmp 5) (.tmp 15) rfl #[.int .i64 0, .int .i64 0, .int .i64 0, .string ⟨#[]⟩, .string ⟨#[]⟩, .string ⟨#[]⟩] #[.int .i64 ((rdCmd (some (l.drop 9))).cl : Nat), .int .i64 ((rdCmd (some (l.drop 9))).sq : Nat), .int .i64 ((rdCmd (some (l.drop 9))).op : Nat), .string (rdCmd (some (l.drop 9))).k, .string (rdCmd (some (l.drop 9))).v, .string (rdCmd (some (l.drop 9))).o] rfl rfl infoCmd rfl (by simp [Value.oneCell']) ?_)
    | (refine gate_store 47 (.tmp 2) (.tmp 25) rfl ?_; refine wpList_store_mid rfl 47 (.tmp 2) (.tmp 25) rfl w.heap.size 0 #[.int .i64 5, .int .i64 0, .int .i64 0, .int .i64 0, .int .i64 0, .string ⟨#[]⟩, .string ⟨#[]⟩, .string ⟨#[]⟩] rfl rfl hT6 infoCAns (by simp [Value.oneCell']) ?_; have hra4 := World.rangeAt_setCells_same _ w.heap.size 0 [.int .i64 5, .int .i64 0, .int .i64 0, .int .i64 0, .int .i64 0, .string ⟨#[]⟩, .string ⟨#[]⟩, .string ⟨#[]⟩] hT6; have hld := run_loadVar_mid (P := Tryz.prog) _ w.heap.size 0 47 _ _ hra4 Tryz.underlying47 rfl infoCAns; have hB4 := below_setCells (Nat.le_refl _) [.int .i64 5, .int .i64 0, .int .i64 0, .int .i64 0, .int .i64 0, .string ⟨#[]⟩, .string ⟨#[]⟩, .string ⟨#[]⟩] 0 _ hB6; clear hra4; generalize (World.setCells _ w.heap.size 0 _) = W4 at hld hB4 ⊢))
  refine bodyPost_ret (v := .agg #[.int .i64 5, .int .i64 0, .int .i64 0, .int .i64 0, .int .i64 0, .string ⟨#[]⟩, .string ⟨#[]⟩, .string ⟨#[]⟩]) ?_ rfl ⟨rfl, hB4⟩
  exact results_cell Tryz.results44 rfl hld
end Go.Proofs.YtafmjckpbcijoaaGreatDoor
