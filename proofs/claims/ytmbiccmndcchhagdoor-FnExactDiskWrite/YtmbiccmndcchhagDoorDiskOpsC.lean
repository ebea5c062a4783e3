/-
  spec.l2diskCopy.
-/
import Derived.Test.YtmbiccmndcchhagDoorGround
import Derived.Deep.RegionHeld3
namespace Go.Proofs.YtmbiccmndcchhagDoor
open Go.RowKit
set_option linter.unusedVariables false

set_option maxHeartbeats 2000000 in
set_option maxRecDepth 100000 in
theorem l2diskCopy_any (c y : Int) (a : Option Addr) (cap : Nat) (l : List Int) (w : World) (hv : Bs w (.slice a l.length cap) l) (hl : l.length ≤ 1048576) :
    Calls Tryd.prog 36 #[.agg #[.int .i64 c, .int .i64 y, .slice a l.length cap]] w fun e w' =>
      ∃ a' cap', e = .returned (.agg #[.int .i64 c, .int .i64 y, .slice a' l.length cap']) ∧ Own w' w.heap.size (.slice a' l.length cap') l ∧ Below w.heap.size w w' := by
  have HT : Hid (∀ w', Below w.heap.size w w' → Calls Tryd.prog 45 #[.slice a l.length cap] w' fun e w'' => ∃ a' cap', e = .returned (.slice a' l.length cap') ∧ Own w'' w'.heap.size (.slice a' l.length cap') l ∧ Below w'.heap.size w' w'') := fun w' hb => l1copy_any a cap l w' (hv.below hb) hl
  have hb0 : Hid (Below w.heap.size w ((w.alloc (.cells #[.int .i64 c, .int .i64 y, .slice a l.length cap] 24)).alloc (.cells #[.int .i64 0, .int .i64 0, .slice none 0 0] 24))) := ((Below.refl _ _).alloc (Nat.le_refl _) _).alloc (by simp) _
  go_enter Tryd.func36, Tryd.ntmps36
  go_wp2
  go_region_held3 (fun w' => w'.cell? ⟨w.heap.size, 0, none⟩ = some (.int .i64 c) ∧ w'.cell? ⟨w.heap.size, 1, none⟩ = some (.int .i64 y) ∧ w'.cell? ⟨w.heap.size, 2, none⟩ = some (.slice a l.length cap)) (simp [*, go_sem])
    (first
      | (go_at_call 45; refine (HT.out _ (by first | exact hb0.out | exact hb0.out.drew | exact hb0.out.drew.drew | exact hb0.out.drew.drew.drew | exact hb0.out.drew.drew.drew.drew)).mono ?_; rintro e w1 ⟨a1, cap1, rfl, ho1, hb1⟩; obtain ⟨hcc, hff⟩ := bcell hb1; have hz1 := hb1.size; simp at hz1; have r0 : w1.cell? ⟨w.heap.size + 1, 0, none⟩ = some (.int .i64 0) := (hcc _ 0 (by simp)).trans (by simp); have r1 : w1.cell? ⟨w.heap.size + 1, 1, none⟩ = some (.int .i64 0) := (hcc _ 1 (by simp)).trans (by simp); have r2 : w1.cell? ⟨w.heap.size + 1, 2, none⟩ = some (.slice none 0 0) := (hcc _ 2 (by simp)).trans (by simp); have q0 : w1.cell? ⟨w.heap.size, 0, none⟩ = some (.int .i64 c) := (hcc _ 0 (by simp; omega)).trans (by simp); have q1 : w1.cell? ⟨w.heap.size, 1, none⟩ = some (.int .i64 y) := (hcc _ 1 (by simp; omega)).trans (by simp); have q2 : w1.cell? ⟨w.heap.size, 2, none⟩ = some (.slice a l.length cap) := (hcc _ 2 (by simp; omega)).trans (by simp)))
  all_goals go_wp2
  all_goals refine bodyPost_ret (v := .agg #[.int .i64 c, .int .i64 y, .slice a1 l.length cap1]) (by simp [results, Tryd.results36, go_sem, r0, r1, r2]) rfl ⟨_, _, rfl, ?_, ?_⟩
  · exact (((ho1.setLow (by simp) _).setLow (by simp) _).setLow (by simp) _).le (by simp; omega)
  · exact (((Below.trans (by first | exact hb0.out | exact hb0.out.drew | exact hb0.out.drew.drew | exact hb0.out.drew.drew.drew | exact hb0.out.drew.drew.drew.drew) (hb1.mono (by simp; omega))).setCell (Nat.le_succ _) _).setCell (Nat.le_succ _) _).setCell (Nat.le_succ _) _

end Go.Proofs.YtmbiccmndcchhagDoor
