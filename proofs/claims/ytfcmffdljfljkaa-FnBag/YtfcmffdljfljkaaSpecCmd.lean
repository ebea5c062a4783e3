/-
  spec.l1cmdBytes.
-/
import Derived.Test.YtfcmffdljfljkaaSpecFrame
import Derived.Test.YtfcmffdljfljkaaPutCmd
namespace Go.Proofs.Ytfcmffdljfljkaa
open Go.RowKit
set_option linter.unusedVariables false

set_option maxHeartbeats 2000000 in
set_option maxRecDepth 100000 in
theorem specCmdBytes_any (cl sq op : Nat) (k vl o : ByteArray) (w : World)
    (h1 : cl < 9223372036854775808) (h2 : sq < 9223372036854775808) (h3 : op < 9223372036854775808) (hk : k.size ≤ 64) (hvl : vl.size ≤ 64) (hol : o.size ≤ 64) :
    Calls Try.prog 94 #[.agg #[.int .i64 cl, .int .i64 sq, .int .i64 op, .string k, .string vl, .string o]] w fun e w' =>
      ∃ v', e = .returned v' ∧ Own w' w.heap.size v' (cmdL cl sq op k vl o) ∧ Below w.heap.size w w' := by
  have l1 := numL_len9 cl h1
  have l2 := numL_len9 sq h2
  have l3 := numL_len9 op h3
  have l4 := textL_len k (by omega)
  have l5 := textL_len vl (by omega)
  have l6 := textL_len o (by omega)
  have p2 := numL_pos sq
  have p3 := numL_pos op
  have p4 := textL_pos k
  have p5 := textL_pos vl
  have p6 := textL_pos o
  have g1 : True := trivial
  have g2 : True := trivial
  have g3 : True := trivial
  have g4 : True := trivial
  have g5 : True := trivial
  have g6 : True := trivial
  go_enter Try.func94, Try.ntmps94
  go_wp2_with (first
    | (go_at_call 62; clear g1; refine (specNum_any cl h1 _).mono ?_; rintro e w1 ⟨v1, rfl, ho, hb⟩; have hB : Below (w.heap.size + 1) (w.alloc (.cells #[.int .i64 cl, .int .i64 sq, .int .i64 op, .string k, .string vl, .string o] 89)) w1 := hb.mono (by simp); replace ho := ho.le (B' := w.heap.size + 1) (by simp); have hz := hB.size; simp at hz; have cc := fun (o : Nat) => hB.cell (p := ⟨w.heap.size, o, none⟩) (by simp))
    | (go_at_call 62; clear g2; refine (specNum_any sq h2 _).mono ?_; rintro e w2 ⟨v2, rfl, hr, hb⟩; replace hB := hB.trans (hb.mono (by omega)); replace ho := ho.below hb; replace hz := hB.size; simp at hz; have cc := fun (o : Nat) => hB.cell (p := ⟨w.heap.size, o, none⟩) (by simp))
    | (at_builtin; refine wpl_append rfl (.tmp 7) (.tmp 10) rfl ho rfl (hr.bs (by unfold maxLen; omega)) rfl (by omega) (by (try simp only [List.length_append]); omega) (by omega) ?_; intro u2 x2 hn hg; replace hB := hB.trans (hg.below ho (by omega)); replace ho := hn; clear hn hr; replace hz := hB.size; simp at hz; have cc := fun (o : Nat) => hB.cell (p := ⟨w.heap.size, o, none⟩) (by simp))
    | (go_at_call 62; clear g3; refine (specNum_any op h3 _).mono ?_; rintro e w3 ⟨v3, rfl, hr, hb⟩; replace hB := hB.trans (hb.mono (by omega)); replace ho := ho.below hb; replace hz := hB.size; simp at hz; have cc := fun (o : Nat) => hB.cell (p := ⟨w.heap.size, o, none⟩) (by simp))
    | (at_builtin; refine wpl_append rfl (.tmp 12) (.tmp 15) rfl ho rfl (hr.bs (by unfold maxLen; omega)) rfl (by omega) (by (try simp only [List.length_append]); omega) (by omega) ?_; intro u3 x3 hn hg; replace hB := hB.trans (hg.below ho (by omega)); replace ho := hn; clear hn hr; replace hz := hB.size; simp at hz; have cc := fun (o : Nat) => hB.cell (p := ⟨w.heap.size, o, none⟩) (by simp))
    | (go_at_call 112; clear g4; refine (specText_any k _ (by omega)).mono ?_; rintro e w4 ⟨v4, rfl, hr, hb⟩; replace hB := hB.trans (hb.mono (by omega)); replace ho := ho.below hb; replace hz := hB.size; simp at hz; have cc := fun (o : Nat) => hB.cell (p := ⟨w.heap.size, o, none⟩) (by simp))
    | (at_builtin; refine wpl_append rfl (.tmp 17) (.tmp 20) rfl ho rfl (hr.bs (by unfold maxLen; omega)) rfl (by omega) (by (try simp only [List.length_append]); omega) (by omega) ?_; intro u4 x4 hn hg; replace hB := hB.trans (hg.below ho (by omega)); replace ho := hn; clear hn hr; replace hz := hB.size; simp at hz; have cc := fun (o : Nat) => hB.cell (p := ⟨w.heap.size, o, none⟩) (by simp))
    | (go_at_call 112; clear g5; refine (specText_any vl _ (by omega)).mono ?_; rintro e w5 ⟨v5, rfl, hr, hb⟩; replace hB := hB.trans (hb.mono (by omega)); replace ho := ho.below hb; replace hz := hB.size; simp at hz; have cc := fun (o : Nat) => hB.cell (p := ⟨w.heap.size, o, none⟩) (by simp))
    | (at_builtin; refine wpl_append rfl (.tmp 22) (.tmp 25) rfl ho rfl (hr.bs (by unfold maxLen; omega)) rfl (by omega) (by (try simp only [List.length_append]); omega) (by omega) ?_; intro u5 x5 hn hg; replace hB := hB.trans (hg.below ho (by omega)); replace ho := hn; clear hn hr; replace hz := hB.size; simp at hz; have cc := fun (o : Nat) => hB.cell (p := ⟨w.heap.size, o, none⟩) (by simp))
    | (go_at_call 112; clear g6; refine (specText_any o _ (by omega)).mono ?_; rintro e w6 ⟨v6, rfl, hr, hb⟩; replace hB := hB.trans (hb.mono (by omega)); replace ho := ho.below hb; replace hz := hB.size; simp at hz; have cc := fun (o : Nat) => hB.cell (p := ⟨w.heap.size, o, none⟩) (by simp))
    | (at_builtin; refine wpl_append rfl (.tmp 27) (.tmp 30) rfl ho rfl (hr.bs (by unfold maxLen; omega)) rfl (by omega) (by (try simp only [List.length_append]); omega) (by omega) ?_; intro u6 x6 hn hg; replace hB := hB.trans (hg.below ho (by omega)); replace ho := hn; clear hn hr; replace hz := hB.size; simp at hz; have cc := fun (o : Nat) => hB.cell (p := ⟨w.heap.size, o, none⟩) (by simp)))
  go_ret
  refine ⟨_, rfl, ?_, ((Below.refl _ _).alloc (Nat.le_refl _) _).trans (hB.mono (by omega))⟩
  have := ho.le (B' := w.heap.size) (by omega)
  simpa [cmdL, numsL, List.append_assoc] using this
end Go.Proofs.Ytfcmffdljfljkaa
