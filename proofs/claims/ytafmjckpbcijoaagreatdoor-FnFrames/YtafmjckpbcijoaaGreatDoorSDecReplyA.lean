/-
  spec.DecodeReply: a body that is none.
-/
import Derived.Test.YtafmjckpbcijoaaGreatDoorSDecReply
namespace Go.Proofs.YtafmjckpbcijoaaGreatDoor
open Go.RowKit
set_option linter.unusedVariables false
set_option linter.unusedSimpArgs false

set_option maxHeartbeats 4000000 in
set_option maxRecDepth 100000 in
theorem specDecReply_bad (a : Option Addr) (c : Nat) (l : List Int) (w : World) (hv : Bs w (.slice a l.length c) l) (hc : l.length ≤ c) (h0 : openC l 8 8 = 0) (hleft : (rdReply (some (l.drop 9))).left = none) :
    Calls Tryz.prog 46 #[.slice a l.length c] w fun e w' => e = .returned (.agg #[.int .i64 5, .int .i64 0, .int .i64 0, .int .i64 0, .int .i64 0, .int .i64 0, .string ⟨#[]⟩, .int .i64 0]) ∧ Below w.heap.size w w' := by
  have HV : Hid (Bs w (.slice a l.length c) l) := hv
  have HO : Hid (∀ w', Below w.heap.size w w' → Calls Tryz.prog 68 #[.slice a l.length c, .int .i64 8, .int .i64 8] w' fun e w'' => e = .returned (.int .i64 (openC l 8 8 : Nat)) ∧ Below w'.heap.size w' w'') :=
    fun w' hb => l1open_any a l.length c l 8 8 w' (hv.below hb) hc _ hv.lt
  obtain ⟨h9, h16⟩ := openC_len h0
  rw [h0] at HO
  have HN : ∀ w' st b, SRd w' b (.slice a l.length c) l (b + 1) st → Hid (Calls Tryz.prog 69 #[.pointer (some ⟨b, 0, none⟩)] w' fun e w'' => e = .returned (.int .i64 ((rdNum st).1 : Nat)) ∧ SRd w'' b (.slice a l.length c) l (b + 1) (rdNum st).2 ∧ w'.grownBy w'' (some b)) := fun w' st b h => l1rdNum_any b w' _ l _ st (by omega) h
  have HT : ∀ w' st b, SRd w' b (.slice a l.length c) l (b + 1) st → Hid (Calls Tryz.prog 72 #[.pointer (some ⟨b, 0, none⟩)] w' fun e w'' => e = .returned (.string (rdText st).1) ∧ SRd w'' b (.slice a l.length c) l (b + 1) (rdText st).2 ∧ w'.grownBy w'' (some b)) := fun w' st b h => l1rdText_any b w' _ l _ st (by omega) h
  clear hv
  have y1 : True := trivial
  have y2 : True := trivial
  have y3 : True := trivial
  have y4 : True := trivial
  have y5 : True := trivial
  have y6 : True := trivial
  go_enter Tryz.func46, Tryz.ntmps46
  go_wp2_with (first
    | (go_at_call 68; refine Calls.mono (HO.out _ (Below.alloc (Below.refl _ _) (Nat.le_refl _) _)) ?_; rintro e w1 ⟨rfl, hb1⟩; have hB1 : Below w.heap.size w w1 := ((Below.refl _ _).alloc (Nat.le_refl _) _).trans (hb1.mono (by simp)); have hz1 : w.heap.size < w1.heap.size := (by have := hb1.size; simp at this; omega); have hT : w1.there w.heap.size 0 8 := there_at hb1)
    | (refine gate_store 112 (.tmp 4) (.tmp 20) rfl ?_; refine wpl_store_new rfl 112 (.tmp 4) (.tmp 20) rfl #[.slice none 0 0, .int .i64 0, .bool false] #[.slice a l.length c, .int .i64 9, .bool false] rfl rfl infoL1rd rfl (by simp [Value.oneCell']) ?_; have hr0 := SRd.start (w := w1) (HV.out.below hB1) hc 9 h9; have hG0 := grown_alloc (grownBy_refl w1 (some w1.heap.size)) (.cells #[.slice a l.length c, .int .i64 9, .bool false] 112))
    | (go_at_call 69; clear y1; refine Calls.mono (HN _ _ _ hr0).out ?_; rintro e v1 ⟨rfl, hr1, hg⟩; have hG1 := grownBy_trans hG0 hg; clear hg hr0 hG0)
    | (go_at_call 69; clear y2; refine Calls.mono (HN _ _ _ hr1).out ?_; rintro e v2 ⟨rfl, hr2, hg⟩; have hG2 := grownBy_trans hG1 hg; clear hg hr1 hG1)
    | (go_at_call 69; clear y3; refine Calls.mono (HN _ _ _ hr2).out ?_; rintro e v3 ⟨rfl, hr3, hg⟩; have hG3 := grownBy_trans hG2 hg; clear hg hr2 hG2)
    | (go_at_call 69; clear y4; refine Calls.mono (HN _ _ _ hr3).out ?_; rintro e v4 ⟨rfl, hr4, hg⟩; have hG4 := grownBy_trans hG3 hg; clear hg hr3 hG3)
    | (go_at_call 72; clear y5; refine Calls.mono (HT _ _ _ hr4).out ?_; rintro e v5 ⟨rfl, hr5, hg⟩; have hG5 := grownBy_trans hG4 hg; clear hg hr4 hG4)
    | (go_at_call 69; clear y6; refine Calls.mono (HN _ _ _ hr5).out ?_; rintro e v6 ⟨rfl, hr6, hg⟩; have hG6 := grownBy_trans hG5 hg; clear hg hr5 hG5; have hT6 := there_grown hG6 hz1 hT (Nat.le_refl _); have hB6 := hB1.trans (below_grown hG6 (Nat.le_of_lt hz1) (Nat.le_refl _)); have hz6 := hG6.size; change SRd _ _ _ _ _ (rdReply (some (l.drop 9))).left at hr6; rw [hleft] at hr6; obtain ⟨hbD6, _, hbs6, hfit6, hf6, _, p, hp, k1, k2, k3⟩ := hr6; clear hbs6 hfit6 hf6; simp only [Option.isNone_none] at k2; clear k3)
    | (refine gate_store 50 (.tmp 2) (.tmp 36) rfl ?_; refine wpList_store_mid rfl 50 (.tmp 2) (.tmp 36) rfl w.heap.size 0 #[.int .i64 5, .int .i64 0, .int .i64 0, .int .i64 0, .int .i64 0, .int .i64 0, .string ⟨#[]⟩, .int .i64 0] rfl rfl hT6 infoRAns (by simp [Value.oneCell']) ?_; have hra4 := World.rangeAt_setCells_same _ w.heap.size 0 [.int .i64 5, .int .i64 0, .int .i64 0, .int .i64 0, .int .i64 0, .int .i64 0, .string ⟨#[]⟩, .int .i64 0] hT6; have hld := run_loadVar_mid (P := Tryz.prog) _ w.heap.size 0 50 _ _ hra4 Tryz.underlying50 rfl infoRAns; have hB4 := below_setCells (Nat.le_refl _) [.int .i64 5, .int .i64 0, .int .i64 0, .int .i64 0, .int .i64 0, .int .i64 0, .string ⟨#[]⟩, .int .i64 0] 0 _ hB6; clear hra4; generalize (World.setCells _ w.heap.size 0 _) = W4 at hld hB4 ⊢))
  refine bodyPost_ret (v := .agg #[.int .i64 5, .int .i64 0, .int .i64 0, .int .i64 0, .int .i64 0, .int .i64 0, .string ⟨#[]⟩, .int .i64 0]) ?_ rfl ⟨rfl, hB4⟩
  exact results_cell Tryz.results46 rfl hld
end Go.Proofs.YtafmjckpbcijoaaGreatDoor
