/-
  laws.heldStepS where all is marked.
-/
import Derived.Test.YtanpindbhdeomaaGreatDoorPsMk
import Derived.Deep.RegionHeld3
namespace Go.Proofs.YtanpindbhdeomaaGreatDoor
open Go.RowKit
set_option linter.unusedVariables false
set_option linter.unusedSimpArgs false

set_option maxHeartbeats 4000000 in
set_option maxRecDepth 100000 in
theorem heldStepS_is (k0 : Nat) (hk0 : k0 ≤ 20000000) (a : Option Addr) (n cap : Nat) (w : World) (hn : n ≤ 1048578) (h : 0 < n → ∃ q, a = some ⟨q, 0, none⟩ ∧ q < w.heap.size ∧ ∀ i, i < n → ∀ s v, (mkStp (k0 + 10 * i))[s]? = some v → w.cell? ⟨q, i * 10 + s, none⟩ = some v) :
    Calls Tryz.prog 32 #[.slice a n cap, .int .i64 k0] w fun r w' => r = .returned (.int .i64 ((k0 + 10 * n : Nat) : Int)) ∧ Below w.heap.size w w' := by
  go_enter Tryz.func32, Tryz.ntmps32
  go_wp2
  go_loopw [1, 5] (fun c i wr => ∃ j : Nat, j ≤ n ∧ i = .int .i64 j ∧ c = .int .i64 ((k0 + 10 * j : Nat) : Int) ∧ Below w.heap.size w wr) (fun _ i _ => n - (intOf i).toNat)
  case atStart => exact ⟨0, Nat.zero_le _, rfl, by simp, Below.refl _ _⟩
  case round =>
    obtain ⟨j, hj, rfl, rfl, hB⟩ := hrel
    by_cases hlt : j < n
    · obtain ⟨q, rfl, hq, hE⟩ := h (by omega)
      have hz := hB.size
      have e0 : wr.cell? ⟨q, j * 10, none⟩ = some (.int .i64 ((k0 : Int) + 10 * (j : Int))) := by
        have h := (hB.cell (p := ⟨q, j * 10 + 0, none⟩) hq).trans (hE j hlt 0 _ rfl)
        rw [show ((k0 : Int) + 10 * (j : Int)) = ((k0 + 10 * j + 0 : Nat) : Int) by omega]; exact h
      have e1 : wr.cell? ⟨q, j * 10 + 1, none⟩ = some (.int .i64 ((k0 : Int) + 10 * (j : Int) + 1)) := by
        have h := (hB.cell (p := ⟨q, j * 10 + 1, none⟩) hq).trans (hE j hlt 1 _ rfl)
        rw [show ((k0 : Int) + 10 * (j : Int) + 1) = ((k0 + 10 * j + 1 : Nat) : Int) by omega]; exact h
      have e2 : wr.cell? ⟨q, j * 10 + 2, none⟩ = some (.int .i64 ((k0 : Int) + 10 * (j : Int) + 1 + 1)) := by
        have h := (hB.cell (p := ⟨q, j * 10 + 2, none⟩) hq).trans (hE j hlt 2 _ rfl)
        rw [show ((k0 : Int) + 10 * (j : Int) + 1 + 1) = ((k0 + 10 * j + 2 : Nat) : Int) by omega]; exact h
      have e3 : wr.cell? ⟨q, j * 10 + 3, none⟩ = some (.int .i64 ((k0 : Int) + 10 * (j : Int) + 1 + 1 + 1)) := by
        have h := (hB.cell (p := ⟨q, j * 10 + 3, none⟩) hq).trans (hE j hlt 3 _ rfl)
        rw [show ((k0 : Int) + 10 * (j : Int) + 1 + 1 + 1) = ((k0 + 10 * j + 3 : Nat) : Int) by omega]; exact h
      have e4 : wr.cell? ⟨q, j * 10 + 4, none⟩ = some (.int .i64 ((k0 : Int) + 10 * (j : Int) + 1 + 1 + 1 + 1)) := by
        have h := (hB.cell (p := ⟨q, j * 10 + 4, none⟩) hq).trans (hE j hlt 4 _ rfl)
        rw [show ((k0 : Int) + 10 * (j : Int) + 1 + 1 + 1 + 1) = ((k0 + 10 * j + 4 : Nat) : Int) by omega]; exact h
      have e5 : wr.cell? ⟨q, j * 10 + 4 + 1, none⟩ = some (.int .i64 ((k0 : Int) + 10 * (j : Int) + 1 + 1 + 1 + 1 + 1)) := by
        have h := (hB.cell (p := ⟨q, j * 10 + 5, none⟩) hq).trans (hE j hlt 5 _ rfl)
        rw [show ((k0 : Int) + 10 * (j : Int) + 1 + 1 + 1 + 1 + 1) = ((k0 + 10 * j + 5 : Nat) : Int) by omega]; exact h
      have e6 : wr.cell? ⟨q, j * 10 + 4 + 2, none⟩ = some (.int .i64 ((k0 : Int) + 10 * (j : Int) + 1 + 1 + 1 + 1 + 1 + 1)) := by
        have h := (hB.cell (p := ⟨q, j * 10 + 6, none⟩) hq).trans (hE j hlt 6 _ rfl)
        rw [show ((k0 : Int) + 10 * (j : Int) + 1 + 1 + 1 + 1 + 1 + 1) = ((k0 + 10 * j + 6 : Nat) : Int) by omega]; exact h
      have e7 : wr.cell? ⟨q, j * 10 + 4 + 3, none⟩ = some (.string (mtx (k0 + 10 * j + 1 + 1 + 1 + 1 + 1 + 1 + 1))) := (hB.cell (p := ⟨q, j * 10 + 7, none⟩) hq).trans (hE j hlt 7 _ rfl)
      have e8 : wr.cell? ⟨q, j * 10 + 4 + 4, none⟩ = some (.string (mtx (k0 + 10 * j + 1 + 1 + 1 + 1 + 1 + 1 + 1 + 1))) := (hB.cell (p := ⟨q, j * 10 + 8, none⟩) hq).trans (hE j hlt 8 _ rfl)
      have e9 : wr.cell? ⟨q, j * 10 + 4 + 5, none⟩ = some (.string (mtx (k0 + 10 * j + 1 + 1 + 1 + 1 + 1 + 1 + 1 + 1 + 1))) := (hB.cell (p := ⟨q, j * 10 + 9, none⟩) hq).trans (hE j hlt 9 _ rfl)
      clear h hE
      go_wp2
      go_region_held3 (fun w' => w'.cell? ⟨q, j * 10 + 4 + 3, none⟩ = some (.string (mtx (k0 + 10 * j + 1 + 1 + 1 + 1 + 1 + 1 + 1))) ∧ w'.cell? ⟨q, j * 10 + 4 + 4, none⟩ = some (.string (mtx (k0 + 10 * j + 1 + 1 + 1 + 1 + 1 + 1 + 1 + 1))) ∧ w'.cell? ⟨q, j * 10 + 4 + 5, none⟩ = some (.string (mtx (k0 + 10 * j + 1 + 1 + 1 + 1 + 1 + 1 + 1 + 1 + 1)))) (simp [*, go_sem])
        (first
          | (go_at_call 52; refine (markText_at _ _ (by omega) (by omega)).mono ?_; rw [show ((k0 : Int) + 10 * (j : Int) + 1 + 1 + 1 + 1 + 1 + 1 + 1).toNat = k0 + 10 * j + 1 + 1 + 1 + 1 + 1 + 1 + 1 by omega]; rintro r w1 ⟨rfl, hb1⟩; have q1 := fun (o : Nat) => hb1.cell (p := ⟨q, o, none⟩) (show q < wr.heap.size by omega); have hB1 : Below w.heap.size w w1 := hB.trans (((Below.refl _ _).drew).trans (hb1.mono hz)); have hz1 := hB1.size; have zz1 : wr.heap.size ≤ w1.heap.size := hb1.size))
      all_goals go_wp2
      all_goals go_region_held3 (fun w' => w'.cell? ⟨q, j * 10 + 4 + 3, none⟩ = some (.string (mtx (k0 + 10 * j + 1 + 1 + 1 + 1 + 1 + 1 + 1))) ∧ w'.cell? ⟨q, j * 10 + 4 + 4, none⟩ = some (.string (mtx (k0 + 10 * j + 1 + 1 + 1 + 1 + 1 + 1 + 1 + 1))) ∧ w'.cell? ⟨q, j * 10 + 4 + 5, none⟩ = some (.string (mtx (k0 + 10 * j + 1 + 1 + 1 + 1 + 1 + 1 + 1 + 1 + 1)))) (simp [*, go_sem])
        (first
          | (go_at_call 52; refine (markText_at _ _ (by omega) (by omega)).mono ?_; rw [show ((k0 : Int) + 10 * (j : Int) + 1 + 1 + 1 + 1 + 1 + 1 + 1 + 1).toNat = k0 + 10 * j + 1 + 1 + 1 + 1 + 1 + 1 + 1 + 1 by omega]; rintro r w2 ⟨rfl, hb2⟩; have q2 := fun (o : Nat) => hb2.cell (p := ⟨q, o, none⟩) (show q < w1.heap.size by omega); have hB2 : Below w.heap.size w w2 := hB1.trans (((Below.refl _ _).drew).trans (hb2.mono hz1)); have hz2 := hB2.size; have zz2 : w1.heap.size ≤ w2.heap.size := hb2.size))
      all_goals go_wp2
      all_goals go_region_held3 (fun w' => w'.cell? ⟨q, j * 10 + 4 + 3, none⟩ = some (.string (mtx (k0 + 10 * j + 1 + 1 + 1 + 1 + 1 + 1 + 1))) ∧ w'.cell? ⟨q, j * 10 + 4 + 4, none⟩ = some (.string (mtx (k0 + 10 * j + 1 + 1 + 1 + 1 + 1 + 1 + 1 + 1))) ∧ w'.cell? ⟨q, j * 10 + 4 + 5, none⟩ = some (.string (mtx (k0 + 10 * j + 1 + 1 + 1 + 1 + 1 + 1 + 1 + 1 + 1)))) (simp [*, go_sem])
        (first
          | (go_at_call 52; refine (markText_at _ _ (by omega) (by omega)).mono ?_; rw [show ((k0 : Int) + 10 * (j : Int) + 1 + 1 + 1 + 1 + 1 + 1 + 1 + 1 + 1).toNat = k0 + 10 * j + 1 + 1 + 1 + 1 + 1 + 1 + 1 + 1 + 1 by omega]; rintro r w3 ⟨rfl, hb3⟩; have q3 := fun (o : Nat) => hb3.cell (p := ⟨q, o, none⟩) (show q < w2.heap.size by omega); have hB3 : Below w.heap.size w w3 := hB2.trans (((Below.refl _ _).drew).trans (hb3.mono hz2)); have hz3 := hB3.size; have zz3 : w2.heap.size ≤ w3.heap.size := hb3.size))
      all_goals go_wp2
      all_goals (
        go_roundw
        case rel => exact ⟨j + 1, by omega, by go_num, by go_num, hB3⟩
        case measure => simp [intOf]; omega)
    · obtain rfl : j = n := by omega
      go_wp2
      go_ret
      exact ⟨rfl, hB⟩
end Go.Proofs.YtanpindbhdeomaaGreatDoor
