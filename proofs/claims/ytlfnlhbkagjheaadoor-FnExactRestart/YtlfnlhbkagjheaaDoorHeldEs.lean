/-
  laws.heldEntryS where all is marked.
-/
import Derived.Test.YtlfnlhbkagjheaaDoorMarkEs
import Derived.Deep.RegionHeld3
namespace Go.Proofs.YtlfnlhbkagjheaaDoor
open Go.RowKit
set_option linter.unusedVariables false
set_option linter.unusedSimpArgs false

set_option maxHeartbeats 8000000 in
set_option maxRecDepth 100000 in
theorem heldEntryS_is (a : Option Addr) (n cap : Nat) (w : World) (hn : n ≤ 1048576) (h : 0 < n → ∃ q, a = some ⟨q, 0, none⟩ ∧ q < w.heap.size ∧ ∀ i, i < n → EntAt w q (i * 7) (markEnt (1 + 7 * i))) :
    Calls Tryd.prog 48 #[.slice a n cap, .int .i64 1] w fun r w' => r = .returned (.int .i64 ((1 + 7 * n : Nat) : Int)) ∧ Below w.heap.size w w' := by
  go_enter Tryd.func48, Tryd.ntmps48
  go_wp2
  go_loopw [1, 5] (fun c i wr => ∃ j : Nat, j ≤ n ∧ i = .int .i64 j ∧ c = .int .i64 ((1 + 7 * j : Nat) : Int) ∧ Below w.heap.size w wr) (fun _ i _ => n - (intOf i).toNat)
  case atStart => exact ⟨0, Nat.zero_le _, rfl, by simp, Below.refl _ _⟩
  case round =>
    obtain ⟨j, hj, rfl, rfl, hB⟩ := hrel
    by_cases hlt : j < n
    · obtain ⟨q, rfl, hq, hE⟩ := h (by omega)
      obtain ⟨c0, c1, c2, c3, c4, c5, c6⟩ := (hE j hlt).below hB
      have hz := hB.size
      have e0 : wr.cell? ⟨q, j * 7, none⟩ = some (.int .i64 (1 + 7 * (j : Int))) := by simpa [markEnt] using c0
      have e1 : wr.cell? ⟨q, j * 7 + 1, none⟩ = some (.int .i64 (1 + 7 * (j : Int) + 1)) := by simpa [markEnt] using c1
      have e2 : wr.cell? ⟨q, j * 7 + 2, none⟩ = some (.int .i64 (1 + 7 * (j : Int) + 1 + 1)) := by rw [c2]; simp [markEnt]; omega
      have e3 : wr.cell? ⟨q, j * 7 + 3, none⟩ = some (.int .i64 (1 + 7 * (j : Int) + 1 + 1 + 1)) := by rw [c3]; simp [markEnt]; omega
      have e4 : wr.cell? ⟨q, j * 7 + 1 + 3, none⟩ = some (.string (mtx (1 + 7 * j + 1 + 1 + 1 + 1))) := c4
      have e5 : wr.cell? ⟨q, j * 7 + 1 + 4, none⟩ = some (.string (mtx (1 + 7 * j + 1 + 1 + 1 + 1 + 1))) := c5
      have e6 : wr.cell? ⟨q, j * 7 + 1 + 5, none⟩ = some (.string (mtx (1 + 7 * j + 1 + 1 + 1 + 1 + 1 + 1))) := c6
      clear c0 c1 c2 c3 c4 c5 c6 h hE
      go_wp2
      go_region_held3 (fun w' => w'.cell? ⟨q, j * 7 + 1 + 3, none⟩ = some (.string (mtx (1 + 7 * j + 1 + 1 + 1 + 1))) ∧ w'.cell? ⟨q, j * 7 + 1 + 4, none⟩ = some (.string (mtx (1 + 7 * j + 1 + 1 + 1 + 1 + 1))) ∧ w'.cell? ⟨q, j * 7 + 1 + 5, none⟩ = some (.string (mtx (1 + 7 * j + 1 + 1 + 1 + 1 + 1 + 1)))) (simp [*, go_sem])
        (first
          | (go_at_call 64; refine (markText_at _ _ (by omega) (by omega)).mono ?_; rw [show (1 + 7 * (j : Int) + 1 + 1 + 1 + 1).toNat = 1 + 7 * j + 1 + 1 + 1 + 1 by omega]; rintro r w1 ⟨rfl, hb1⟩; have q1 := fun (o : Nat) => hb1.cell (p := ⟨q, o, none⟩) (show q < wr.heap.size by omega); have hB1 : Below w.heap.size w w1 := hB.trans (((Below.refl _ _).drew).trans (hb1.mono hz)); have hz1 := hB1.size))
      all_goals go_wp2
      all_goals go_region_held3 (fun w' => w'.cell? ⟨q, j * 7 + 1 + 3, none⟩ = some (.string (mtx (1 + 7 * j + 1 + 1 + 1 + 1))) ∧ w'.cell? ⟨q, j * 7 + 1 + 4, none⟩ = some (.string (mtx (1 + 7 * j + 1 + 1 + 1 + 1 + 1))) ∧ w'.cell? ⟨q, j * 7 + 1 + 5, none⟩ = some (.string (mtx (1 + 7 * j + 1 + 1 + 1 + 1 + 1 + 1)))) (simp [*, go_sem])
        (first
          | (go_at_call 64; refine (markText_at _ _ (by omega) (by omega)).mono ?_; rw [show (1 + 7 * (j : Int) + 1 + 1 + 1 + 1 + 1).toNat = 1 + 7 * j + 1 + 1 + 1 + 1 + 1 by omega]; rintro r w2 ⟨rfl, hb2⟩; have q2 := fun (o : Nat) => hb2.cell (p := ⟨q, o, none⟩) (show q < w1.heap.size by omega); have hB2 : Below w.heap.size w w2 := hB1.trans (((Below.refl _ _).drew).trans (hb2.mono hz1)); have hz2 := hB2.size))
      all_goals go_wp2
      all_goals go_region_held3 (fun w' => w'.cell? ⟨q, j * 7 + 1 + 3, none⟩ = some (.string (mtx (1 + 7 * j + 1 + 1 + 1 + 1))) ∧ w'.cell? ⟨q, j * 7 + 1 + 4, none⟩ = some (.string (mtx (1 + 7 * j + 1 + 1 + 1 + 1 + 1))) ∧ w'.cell? ⟨q, j * 7 + 1 + 5, none⟩ = some (.string (mtx (1 + 7 * j + 1 + 1 + 1 + 1 + 1 + 1)))) (simp [*, go_sem])
        (first
          | (go_at_call 64; refine (markText_at _ _ (by omega) (by omega)).mono ?_; rw [show (1 + 7 * (j : Int) + 1 + 1 + 1 + 1 + 1 + 1).toNat = 1 + 7 * j + 1 + 1 + 1 + 1 + 1 + 1 by omega]; rintro r w3 ⟨rfl, hb3⟩; have q3 := fun (o : Nat) => hb3.cell (p := ⟨q, o, none⟩) (show q < w2.heap.size by omega); have hB3 : Below w.heap.size w w3 := hB2.trans (((Below.refl _ _).drew).trans (hb3.mono hz2)); have hz3 := hB3.size))
      all_goals go_wp2
      all_goals (
        go_roundw
        case rel => exact ⟨j + 1, by omega, by go_num, by go_num, hB3⟩
        case measure => simp [intOf]; omega)
    · obtain rfl : j = n := by omega
      go_wp2
      go_ret
      exact ⟨rfl, hB⟩
end Go.Proofs.YtlfnlhbkagjheaaDoor
