/-
  spec.l1frame.
-/
import Derived.Test.YtfcmffdljfljkaaSpecPut
namespace Go.Proofs.Ytfcmffdljfljkaa
open Go.RowKit
set_option linter.unusedVariables false

set_option maxHeartbeats 200000 in
set_option maxRecDepth 100000 in
theorem specFrame_any (v : Value) (l : List Int) (w : World) (hv : Bs w v l) (hpos : 0 < l.length) (hl : l.length ≤ 100000) :
    Calls Try.prog 64 #[v] w fun e w' => ∃ v', e = .returned v' ∧ Own w' w.heap.size v' (frameL l) ∧ Below w.heap.size w w' := by
  have hV : Hid (Bs w v l) := hv
  have hcrc := crcOf_lt l hv.2.1
  obtain ⟨hml, h8, a, cap, rfl, hc⟩ := hv
  clear hc
  have hw4 : ∀ x, (wordL x).length = 4 := fun x => rfl
  have hF : frameL l = wordL l.length ++ wordL (crcOf l) ++ l := rfl
  rw [hF]
  clear hF
  generalize hc : crcOf l = c at hcrc
  have HC : Hid (crcOf l = c) := hc
  clear hc
  have hfirst : True := trivial
  go_enter Try.func64, Try.ntmps64
  go_wp2_with (first
    | (go_at_call 96; refine (specCrc_any _ l _ (hV.out.below hB)).mono ?_; rw [HC.out]; rintro e w' ⟨rfl, rfl⟩)
    | (go_at_call 95; clear hfirst; refine (specFour_any l.length _ (by omega)).mono ?_; rintro e w1 ⟨v1, rfl, ho1, hb1⟩; have hB := hb1; have hz1 := hb1.size)
    | (go_at_call 95; refine (specFour_any c _ hcrc).mono ?_; rintro e w2 ⟨v2, rfl, ho2, hb2⟩; replace hB := hB.trans (hb2.mono hz1); have hz2 := hB.size; have hp1 := ho1.below hb2)
    | (at_builtin; refine wpl_append rfl (.tmp 8) (.tmp 11) rfl hp1 rfl (ho2.bs (by unfold maxLen; rw [hw4]; omega)) rfl (by rw [hw4]; omega) (by simp [hw4]) hz2 ?_; intro v3 w3 ho3 hg3; replace hB := hB.trans (hg3.below hp1 hz2); have hz3 := hB.size)
    | (at_builtin; refine wpl_append rfl (.tmp 13) (.tmp 14) rfl ho3 rfl (hV.out.below hB) rfl hpos (by simp [hw4]; omega) hz3 ?_; intro v4 w4 ho4 hg4; replace hB := hB.trans (hg4.below ho3 hz3)))
  go_ret
  exact ⟨_, rfl, by simpa using ho4, hB⟩
end Go.Proofs.Ytfcmffdljfljkaa
