/-
  impl.hardChange.encode.
-/
import Derived.Test.YtmbiccmndcchhagDoorRecImpl
namespace Go.Proofs.YtmbiccmndcchhagDoor
open Go.RowKit
set_option linter.unusedVariables false
set_option linter.unusedSimpArgs false

theorem Ints.two (w : World) (a b : Nat) : ∀ j, j < [a, b].length → (w.alloc (.cells #[.int .i64 a, .int .i64 b] 3)).cell? ⟨w.heap.size, j, none⟩ = some (.int .i64 ([a, b][j]?.getD 0 : Nat)) := by
  intro j hj
  rw [World.cell?_alloc_new]
  match j, hj with
  | 0, _ => rfl
  | 1, _ => rfl

theorem ints_two {w : World} {b a c : Nat} (h0 : w.cell? ⟨b, 0, none⟩ = some (.int .i64 a)) (h1 : w.cell? ⟨b, 1, none⟩ = some (.int .i64 c)) : ∀ j, j < [a, c].length → w.cell? ⟨b, j, none⟩ = some (.int .i64 ([a, c][j]?.getD 0 : Nat)) := by
  intro j hj
  match j, hj with
  | 0, _ => exact h0
  | 1, _ => exact h1

set_option maxHeartbeats 8000000 in
set_option maxRecDepth 100000 in
theorem hardEncode_any (tm vo : Nat) (h1 : tm ≤ 1073741824) (h2 : vo ≤ 7) (w : World) :
    Calls Tryd.prog 139 #[.agg #[.int .i64 tm, .int .i64 vo], .slice none 0 0] w fun e w' => ∃ v', e = .returned v' ∧ Own w' w.heap.size v' (11 :: (numL tm ++ numL vo)) ∧ Below w.heap.size w w' := by
  have n1 := numL_len9 tm (by omega)
  have n2 := numL_len9 vo (by omega)
  have hnm : Hid (∀ n ∈ [tm, vo], n < 9223372036854775808) := (by simp; omega : ∀ n ∈ [tm, vo], n < 9223372036854775808)
  go_enter Tryd.func139, Tryd.ntmps139
  go_wp2
  go_region_held3 (fun w' => w'.cell? ⟨w.heap.size, 0, none⟩ = some (.int .i64 tm) ∧ w'.cell? ⟨w.heap.size, 1, none⟩ = some (.int .i64 vo)) (simp [*, go_sem, World.cell?_alloc_past])
    (first
      | ((refine stp_append rfl (.tmp 5) (.tmp 6) rfl (Own.nil _ w.heap.size) rfl (u := .slice (some ⟨w.heap.size + 1, 0, none⟩) 1 1) (l2 := [11]) ?u1 rfl (by simp) (by simp) ?u2 ?_; (case u2 => (refine Nat.le_trans (show w.heap.size ≤ w.heap.size + 1 + 1 + 1 by omega) ?_; simp; done)); (case u1 => exact Bs.cell1 (by simp [go_sem]) (by omega)); intro v1 w1 ho1 hg1; have hz1 := hg1.g.size; simp at hz1; have hz1' : w.heap.size < w1.heap.size := (by omega); have hcc := fun (o : Nat) => hg1.cell (k := w.heap.size) (o := o) (by simp; omega) (by simp [Value.ownBlock]); have f1 : v1.ownBlock ≠ some w.heap.size := hg1.far (by simp; omega) (by simp [Value.ownBlock]); have hB1 := hg1.below (Own.nil _ w.heap.size) (by simp; omega); have j0 : w1.cell? ⟨w.heap.size + 1 + 1, 0, none⟩ = some (.int .i64 tm) := (hg1.cell (k := w.heap.size + 1 + 1) (o := 0) (by simp <;> omega) (by simp [Value.ownBlock])).trans (by simp [go_sem]); have j1 : w1.cell? ⟨w.heap.size + 1 + 1, 1, none⟩ = some (.int .i64 vo) := (hg1.cell (k := w.heap.size + 1 + 1) (o := 1) (by simp <;> omega) (by simp [Value.ownBlock])).trans (by simp [go_sem]); have f3 : v1.ownBlock ≠ some (w.heap.size + 1 + 1) := hg1.far (by simp <;> omega) (by simp [Value.ownBlock]); have HCB : Hid (Calls Tryd.prog 143 #[v1, .slice (some ⟨w.heap.size + 1 + 1, 0, none⟩) 2 2] w1 fun e w' => ∃ v', e = .returned v' ∧ Own w' w.heap.size v' ([11] ++ numsL [tm, vo]) ∧ Grew w1 v1 w' v') := putNumbers_any v1 [11] [tm, vo] (w.heap.size + 1 + 1) 2 _ w.heap.size ho1 (by omega) (by simp) hnm.out (by simp) (ints_two j0 j1) f3; clear f3))
      | ((refine stp_append rfl (.tmp 5) (.tmp 6) rfl (Own.nil _ w.heap.size) rfl (u := .slice (some ⟨w.heap.size + 1 + 1, 0, none⟩) 1 1) (l2 := [11]) ?u1 rfl (by simp) (by simp) ?u2 ?_; (case u2 => (refine Nat.le_trans (show w.heap.size ≤ w.heap.size + 1 + 1 + 1 by omega) ?_; simp; done)); (case u1 => exact Bs.cell1 (by simp [go_sem]) (by omega)); intro v1 w1 ho1 hg1; have hz1 := hg1.g.size; simp at hz1; have hz1' : w.heap.size < w1.heap.size := (by omega); have hcc := fun (o : Nat) => hg1.cell (k := w.heap.size) (o := o) (by simp; omega) (by simp [Value.ownBlock]); have f1 : v1.ownBlock ≠ some w.heap.size := hg1.far (by simp; omega) (by simp [Value.ownBlock]); have hB1 := hg1.below (Own.nil _ w.heap.size) (by simp; omega); have j0 : w1.cell? ⟨w.heap.size + 1, 0, none⟩ = some (.int .i64 tm) := (hg1.cell (k := w.heap.size + 1) (o := 0) (by simp <;> omega) (by simp [Value.ownBlock])).trans (by simp [go_sem]); have j1 : w1.cell? ⟨w.heap.size + 1, 1, none⟩ = some (.int .i64 vo) := (hg1.cell (k := w.heap.size + 1) (o := 1) (by simp <;> omega) (by simp [Value.ownBlock])).trans (by simp [go_sem]); have f3 : v1.ownBlock ≠ some (w.heap.size + 1) := hg1.far (by simp <;> omega) (by simp [Value.ownBlock]); have HCB : Hid (Calls Tryd.prog 143 #[v1, .slice (some ⟨w.heap.size + 1, 0, none⟩) 2 2] w1 fun e w' => ∃ v', e = .returned v' ∧ Own w' w.heap.size v' ([11] ++ numsL [tm, vo]) ∧ Grew w1 v1 w' v') := putNumbers_any v1 [11] [tm, vo] (w.heap.size + 1) 2 _ w.heap.size ho1 (by omega) (by simp) hnm.out (by simp) (ints_two j0 j1) f3; clear f3))
      | ((refine stp_append rfl (.tmp 5) (.tmp 6) rfl (Own.nil _ w.heap.size) rfl (u := .slice (some ⟨w.heap.size + 1, 0, none⟩) 1 1) (l2 := [11]) ?u1 rfl (by simp) (by simp) ?u2 ?_; (case u2 => simp; omega); (case u1 => exact Bs.cell1 (by simp [go_sem]) (by omega)); intro v1 w1 ho1 hg1; have hz1 := hg1.g.size; simp at hz1; have hz1' : w.heap.size < w1.heap.size := (by omega); have hcc := fun (o : Nat) => hg1.cell (k := w.heap.size) (o := o) (by simp; omega) (by simp [Value.ownBlock]); have f1 : v1.ownBlock ≠ some w.heap.size := hg1.far (by simp; omega) (by simp [Value.ownBlock]); have hB1 := hg1.below (Own.nil _ w.heap.size) (by simp; omega); have n1' := ho1.ne (Nat.le_refl w1.heap.size); have hI := Ints.two w1 tm vo; have hA : Own (w1.alloc (.cells #[.int .i64 tm, .int .i64 vo] 3)) w.heap.size v1 [11] := ho1.below ((Below.refl w1.heap.size w1).alloc (Nat.le_refl _) _); have HC : Hid (Calls Tryd.prog 143 #[v1, .slice (some ⟨w1.heap.size, 0, none⟩) 2 2] (w1.alloc (.cells #[.int .i64 tm, .int .i64 vo] 3)) fun e w' => ∃ v', e = .returned v' ∧ Own w' w.heap.size v' ([11] ++ numsL [tm, vo]) ∧ Grew (w1.alloc (.cells #[.int .i64 tm, .int .i64 vo] 3)) v1 w' v') := putNumbers_any v1 [11] [tm, vo] w1.heap.size 2 _ w.heap.size hA (by simp; omega) (by simp) hnm.out (by simp) hI n1'; clear hI))
      | (go_at_call 143; refine Calls.mono HCB.out ?_; rintro e w2 ⟨v2, rfl, ho2, hg2⟩; have hdd := fun (o : Nat) => hg2.cell (k := w.heap.size) (o := o) hz1' f1; have hB2 := hB1.trans (hg2.below ho1 (by omega)))
      | (go_at_call 143; refine Calls.mono HC.out ?_; rintro e w2 ⟨v2, rfl, ho2, hg2⟩; have hdd := fun (o : Nat) => hg2.cell (k := w.heap.size) (o := o) (by rw [World.size_alloc]; omega) f1; have hB2 := hB1.trans (((Below.refl _ _).alloc (by omega) _).trans (hg2.below hA (by rw [World.size_alloc]; omega)))))
  all_goals go_wp2
  all_goals go_ret
  all_goals refine ⟨_, rfl, by simpa [numsL] using ho2, Below.trans ?_ hB2⟩
  all_goals repeat (first | exact Below.refl _ _ | refine Below.drew ?_ | refine Below.alloc ?_ (Nat.le_refl _) _ | refine Below.alloc ?_ (by simp only [World.size_alloc]; omega) _)
end Go.Proofs.YtmbiccmndcchhagDoor
