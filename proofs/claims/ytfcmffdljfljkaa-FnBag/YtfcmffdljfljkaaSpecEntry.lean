/-
  spec.l1entryBytes.
-/
import Derived.Test.YtfcmffdljfljkaaSpecCmd
import Derived.Test.YtfcmffdljfljkaaPutEntry
namespace Go.Proofs.Ytfcmffdljfljkaa
open Go.RowKit
set_option linter.unusedVariables false

set_option maxHeartbeats 2000000 in
set_option maxRecDepth 100000 in
theorem specEntryBytes_nat (t cl sq op : Nat) (k vl o : ByteArray) (w : World) (h0 : t < 9223372036854775808) (h1 : cl < 9223372036854775808) (h2 : sq < 9223372036854775808) (h3 : op < 9223372036854775808) (hk : k.size ≤ 64) (hvl : vl.size ≤ 64) (ho : o.size ≤ 64) :
    Calls Try.prog 63 #[.agg #[.int .i64 t, .int .i64 cl, .int .i64 sq, .int .i64 op, .string k, .string vl, .string o]] w fun e w' => ∃ v', e = .returned v' ∧ Own w' w.heap.size v' (entN t cl sq op k vl o) ∧ Below w.heap.size w w' := by
  have h9 := numL_len9 t h0
  have hn : (numsL [cl, sq, op]).length ≤ 27 := numsL_len [cl, sq, op] (by simp; omega)
  have t1 := textL_len k (by omega)
  have t2 := textL_len vl (by omega)
  have t3 := textL_len o (by omega)
  have p3 := textL_pos o
  have hcl : (cmdL cl sq op k vl o).length ≤ 300 := by simp only [cmdL, List.length_append]; omega
  have hcp : 0 < (cmdL cl sq op k vl o).length := by simp only [cmdL, List.length_append]; omega
  clear hn t1 t2 t3 p3
  go_enter Try.func63, Try.ntmps63
  go_wp2_with (first
    | (go_at_call 62; refine (specNum_any t h0 _).mono ?_; rintro e w1 ⟨v1, rfl, ho1, hb⟩; have hB : Below (w.heap.size + 1) (w.alloc (.cells #[.int .i64 t, .int .i64 cl, .int .i64 sq, .int .i64 op, .string k, .string vl, .string o] 91)) w1 := hb.mono (by simp); replace ho1 := ho1.le (B' := w.heap.size + 1) (by simp); have hz : w.heap.size < w1.heap.size := (by have := hB.size; simp at this; omega); have cc := fun (o : Nat) => hB.cell (p := ⟨w.heap.size, o, none⟩) (by simp))
    | (go_at_call 94; refine (specCmdBytes_any cl sq op k vl o _ h1 h2 h3 hk hvl ho).mono ?_; rintro e w2 ⟨v2, rfl, ho2, hb2⟩; replace ho1 := ho1.below hb2; replace hB := hB.trans (hb2.mono (by omega)); have hz2 : w.heap.size < w2.heap.size := (by have := hb2.size; omega))
    | (at_builtin; refine wpl_append rfl (.tmp 7) (.tmp 10) rfl ho1 rfl (ho2.bs (by unfold maxLen; omega)) rfl hcp (by omega) (by omega) ?_; intro v3 w3 ho3 hg3; replace hB := hB.trans (hg3.below ho1 (by omega))))
  go_ret
  exact ⟨_, rfl, ho3.le (by omega), ((Below.refl _ _).alloc (Nat.le_refl _) _).trans (hB.mono (by omega))⟩

end Go.Proofs.Ytfcmffdljfljkaa
