/-
  The changes of impl: encode.
-/
import Derived.Test.YtmbiccmndcchhagDoorRecFits
import Derived.Test.YtmbiccmndcchhagDoorRecEnc
import Derived.Test.YtmbiccmndcchhagDoorSeal
import Derived.Deep.RegionHeld3
namespace Go.Proofs.YtmbiccmndcchhagDoor
open Go.RowKit
set_option linter.unusedVariables false
set_option linter.unusedSimpArgs false

set_option maxHeartbeats 4000000 in
set_option maxRecDepth 100000 in
theorem cutEncode_any (ix : Nat) (h1 : ix ≤ 4096) (w : World) :
    Calls Tryd.prog 158 #[.agg #[.int .i64 ix], .slice none 0 0] w fun e w' => ∃ v', e = .returned v' ∧ Own w' w.heap.size v' (13 :: numL ix) ∧ Below w.heap.size w w' := by
  have n1 := numL_len9 ix (by omega)
  go_enter Tryd.func158, Tryd.ntmps158
  go_wp2
  go_region_held3 (fun w' => w'.cell? ⟨w.heap.size, 0, none⟩ = some (.int .i64 ix)) (simp [*, go_sem, World.cell?_alloc_past])
    (first
      | ((refine stp_append rfl (.tmp 5) (.tmp 6) rfl (Own.nil _ w.heap.size) rfl (u := .slice (some ⟨w.heap.size + 1, 0, none⟩) 1 1) (l2 := [13]) ?u1 rfl (by simp) (by simp) ?u2 ?_; (case u1 => exact Bs.cell1 (by simp [go_sem]) (by omega)); (case u2 => simp; omega); intro v1 w1 ho1 hg1; have hz1 := hg1.g.size; simp at hz1; have hcc := fun (o : Nat) => hg1.cell (k := w.heap.size) (o := o) (by simp; omega) (by simp [Value.ownBlock]); have f1 : v1.ownBlock ≠ some w.heap.size := hg1.far (by simp; omega) (by simp [Value.ownBlock]); have hB1 := hg1.below (Own.nil _ w.heap.size) (by simp; omega)))
      | (go_at_call 144; (refine Calls.mono (putNumber_any _ [13] ix _ w.heap.size ?q1 ?q2 (by simp) (by omega)) ?_; (case q1 => exact ho1); (case q2 => omega); rintro e w2 ⟨v2, rfl, ho2, hg2⟩; have hdd := fun (o : Nat) => hg2.cell (k := w.heap.size) (o := o) (by omega) f1; have hB2 := hg2.below ho1 (by omega))))
  all_goals go_wp2
  all_goals go_ret
  all_goals refine ⟨_, rfl, by simpa using ho2, Below.trans ?_ (hB1.trans hB2)⟩
  all_goals repeat (first | exact Below.refl _ _ | refine Below.drew ?_ | refine Below.alloc ?_ (by simp; done) _ | refine Below.alloc ?_ (by simp; omega) _)

set_option maxHeartbeats 8000000 in
set_option maxRecDepth 100000 in
theorem addEncode_any (ix t cl sq op : Nat) (k vl o : ByteArray) (h1 : ix ≤ 4096) (h0 : t < 9223372036854775808) (h2 : cl < 9223372036854775808) (h3 : sq < 9223372036854775808) (h4 : op < 9223372036854775808) (hk : k.size ≤ 64) (hv : vl.size ≤ 64) (ho : o.size ≤ 64) (w : World) :
    Calls Tryd.prog 146 #[.agg #[.int .i64 ix, .int .i64 t, .int .i64 cl, .int .i64 sq, .int .i64 op, .string k, .string vl, .string o], .slice none 0 0] w fun e w' => ∃ v', e = .returned v' ∧ Own w' w.heap.size v' (12 :: (numL ix ++ entN t cl sq op k vl o)) ∧ Below w.heap.size w w' := by
  have n1 := numL_len9 ix (by omega)
  go_enter Tryd.func146, Tryd.ntmps146
  go_wp2
  go_region_held3 (fun w' => w'.cell? ⟨w.heap.size, 0, none⟩ = some (.int .i64 ix) ∧ w'.cell? ⟨w.heap.size, 1, none⟩ = some (.int .i64 t) ∧ w'.cell? ⟨w.heap.size, 2, none⟩ = some (.int .i64 cl) ∧ w'.cell? ⟨w.heap.size, 3, none⟩ = some (.int .i64 sq) ∧ w'.cell? ⟨w.heap.size, 4, none⟩ = some (.int .i64 op) ∧ w'.cell? ⟨w.heap.size, 5, none⟩ = some (.string k) ∧ w'.cell? ⟨w.heap.size, 6, none⟩ = some (.string vl) ∧ w'.cell? ⟨w.heap.size, 7, none⟩ = some (.string o)) (simp [*, go_sem, World.cell?_alloc_past])
    (first
      | ((refine stp_append rfl (.tmp 5) (.tmp 6) rfl (Own.nil _ w.heap.size) rfl (u := .slice (some ⟨w.heap.size + 1, 0, none⟩) 1 1) (l2 := [12]) ?u1 rfl (by simp) (by simp) ?u2 ?_; (case u1 => exact Bs.cell1 (by simp [go_sem]) (by omega)); (case u2 => simp; omega); intro v1 w1 ho1 hg1; have hz1 := hg1.g.size; simp at hz1; have hcc := fun (o : Nat) => hg1.cell (k := w.heap.size) (o := o) (by simp; omega) (by simp [Value.ownBlock]); have f1 : v1.ownBlock ≠ some w.heap.size := hg1.far (by simp; omega) (by simp [Value.ownBlock]); have hB1 := hg1.below (Own.nil _ w.heap.size) (by simp; omega)))
      | (go_at_call 144; (refine Calls.mono (putNumber_any _ [12] ix _ w.heap.size ?q1 ?q2 (by simp) (by omega)) ?_; (case q1 => exact ho1); (case q2 => omega); rintro e w2 ⟨v2, rfl, ho2, hg2⟩; have hz2 : w1.heap.size ≤ w2.heap.size := hg2.g.size; have hdd := fun (o : Nat) => hg2.cell (k := w.heap.size) (o := o) (show w.heap.size < w1.heap.size by omega) f1; have f2 : v2.ownBlock ≠ some w.heap.size := hg2.far (show w.heap.size < w1.heap.size by omega) f1; have hB2 := hg2.below ho1 (by omega)))
      | (go_at_call 150; (refine Calls.mono (putEntry_nat _ ([12] ++ numL ix) t cl sq op k vl o _ w.heap.size ?r1 ?r2 ?r3 h0 h2 h3 h4 hk hv ho) ?_; (case r1 => exact ho2); (case r2 => show w.heap.size ≤ w2.heap.size; omega); (case r3 => simp; omega); rintro e w3 ⟨v3, rfl, ho3, hg3⟩; have hee := fun (o : Nat) => hg3.cell (k := w.heap.size) (o := o) (show w.heap.size < w2.heap.size by omega) f2; have hB3 := hg3.below ho2 (show w.heap.size ≤ w2.heap.size by omega))))
  all_goals go_wp2
  all_goals go_ret
  all_goals refine ⟨_, rfl, by simpa using ho3, Below.trans ?_ (hB1.trans (hB2.trans hB3))⟩
  all_goals repeat (first | exact Below.refl _ _ | refine Below.drew ?_ | refine Below.alloc ?_ (by simp; done) _ | refine Below.alloc ?_ (by simp; omega) _)
end Go.Proofs.YtmbiccmndcchhagDoor
