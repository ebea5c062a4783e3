/-
  laws.heldPairS, laws.heldSessionS.
-/
import Derived.Test.YtelfejhopjbhpaaTbRow
import Derived.Deep.RegionHeld3
namespace Go.Proofs.Ytelfejhopjbhpaa
open Go.RowKit Go.Maps
set_option linter.unusedVariables false
set_option linter.unusedSimpArgs false

set_option maxHeartbeats 8000000 in
set_option maxRecDepth 100000 in
theorem heldPairS_is (k0 : Nat) (hk0 : k0 ≤ 100000000) (a : Option Addr) (n cap : Nat) (w : World) (hn : n ≤ 1048578) (h : 0 < n → ∃ q, a = some ⟨q, 0, none⟩ ∧ q < w.heap.size ∧ ∀ i, i < n → ∀ s v, (mkPrC (k0 + 2 * i))[s]? = some v → w.cell? ⟨q, i * 2 + s, none⟩ = some v) :
    Calls Try.prog 44 #[.slice a n cap, .int .i64 k0] w fun r w' => r = .returned (.int .i64 ((k0 + 2 * n : Nat) : Int)) ∧ Below w.heap.size w w' := by
  go_enter Try.func44, Try.ntmps44
  go_wp2
  go_loopw [1, 5] (fun c i wr => ∃ j : Nat, j ≤ n ∧ i = .int .i64 j ∧ c = .int .i64 ((k0 + 2 * j : Nat) : Int) ∧ Below w.heap.size w wr) (fun _ i _ => n - (RowKit.intOf i).toNat)
  case atStart => exact ⟨0, Nat.zero_le _, rfl, by simp, Below.refl _ _⟩
  case round =>
    obtain ⟨j, hj, rfl, rfl, hB⟩ := hrel
    by_cases hlt : j < n
    · obtain ⟨q, rfl, hq, hE⟩ := h (by omega)
      have hz := hB.size
      have e0 : wr.cell? ⟨q, j * 2, none⟩ = some (.string (mtx (k0 + 2 * j))) := (hB.cell (p := ⟨q, j * 2 + 0, none⟩) hq).trans (hE j hlt 0 _ rfl)
      have e1 : wr.cell? ⟨q, j * 2 + 1, none⟩ = some (.string (mtx (k0 + 2 * j + 1))) := (hB.cell (p := ⟨q, j * 2 + 1, none⟩) hq).trans (hE j hlt 1 _ rfl)
      clear h hE
      go_wp2
      go_region_held3 (fun u => u.cell? ⟨q, j * 2, none⟩ = some (.string (mtx (k0 + 2 * j))) ∧ u.cell? ⟨q, j * 2 + 1, none⟩ = some (.string (mtx (k0 + 2 * j + 1)))) (simp [*, go_sem])
        (first
          | (go_at_call 41; refine (markText_at _ _ (by omega) (by omega)).mono ?_; rw [show ((k0 : Int) + 2 * (j : Int)).toNat = k0 + 2 * j by omega]; rintro r w1 ⟨rfl, hb⟩; have q1 := fun (o : Nat) => hb.cell (p := ⟨q, o, none⟩) (show q < wr.heap.size by omega); have hB1 : Below w.heap.size w w1 := hB.trans (((Below.refl _ _).drew).trans (hb.mono (show w.heap.size ≤ wr.heap.size from hB.size))); have z1 := hB1.size; clear hb))
      all_goals go_wp2
      all_goals go_region_held3 (fun u => u.cell? ⟨q, j * 2, none⟩ = some (.string (mtx (k0 + 2 * j))) ∧ u.cell? ⟨q, j * 2 + 1, none⟩ = some (.string (mtx (k0 + 2 * j + 1)))) (simp [*, go_sem])
        (first
          | (go_at_call 41; refine (markText_at _ _ (by omega) (by omega)).mono ?_; rw [show ((k0 : Int) + 2 * (j : Int) + 1).toNat = k0 + 2 * j + 1 by omega]; rintro r w2 ⟨rfl, hb⟩; have q2 := fun (o : Nat) => hb.cell (p := ⟨q, o, none⟩) (show q < w1.heap.size by omega); have hB2 : Below w.heap.size w w2 := hB1.trans (((Below.refl _ _).drew).trans (hb.mono (show w.heap.size ≤ w1.heap.size from hB1.size))); have z2 := hB2.size; clear hb))
      all_goals go_wp2
      all_goals go_roundw
      all_goals try (case rel => exact ⟨j + 1, by omega, by go_num, by go_num, hB2⟩)
      all_goals try (case measure => simp [RowKit.intOf]; omega)
    · go_wp2
      go_ret
      obtain rfl : j = n := by omega
      exact ⟨rfl, hB⟩
theorem heldPairS_u (v : Value) (n : Nat) (z : Int) (k0 : Nat) (hz : z = (k0 : Int)) (w : World) {lo hi : Nat} (hv : RowR prC 2 lo hi w v (mkPrs k0 n)) (hl : n ≤ 1048576) (hk0 : k0 ≤ 100000000) :
    Calls Try.prog 44 #[v, .int .i64 z] w fun r w' => r = .returned (.int .i64 ((k0 + 2 * n : Nat) : Int)) ∧ Below w.heap.size w w' := by
  subst hz
  obtain ⟨a, cap, rfl⟩ := hv.sh
  have hr := hv.row
  rw [mkPrs_len]
  refine heldPairS_is k0 hk0 a n cap w (by omega) fun h0 => ?_
  obtain ⟨q, cap', e, h1, h2, h3, h4, h5⟩ := hr (by rw [mkPrs_len]; exact h0)
  injection e with e1 _ _
  exact ⟨q, e1, h3, fun i hi s y hy => h5 i (by rw [mkPrs_len]; exact hi) s y (by rw [mkPrs_get]; exact hy)⟩
set_option maxHeartbeats 8000000 in
set_option maxRecDepth 100000 in
theorem heldSessionS_is (k0 : Nat) (hk0 : k0 ≤ 100000000) (a : Option Addr) (n cap : Nat) (w : World) (hn : n ≤ 1048578) (h : 0 < n → ∃ q, a = some ⟨q, 0, none⟩ ∧ q < w.heap.size ∧ ∀ i, i < n → ∀ s v, (mkSeC (k0 + 4 * i))[s]? = some v → w.cell? ⟨q, i * 4 + s, none⟩ = some v) :
    Calls Try.prog 45 #[.slice a n cap, .int .i64 k0] w fun r w' => r = .returned (.int .i64 ((k0 + 4 * n : Nat) : Int)) ∧ Below w.heap.size w w' := by
  go_enter Try.func45, Try.ntmps45
  go_wp2
  go_loopw [1, 5] (fun c i wr => ∃ j : Nat, j ≤ n ∧ i = .int .i64 j ∧ c = .int .i64 ((k0 + 4 * j : Nat) : Int) ∧ Below w.heap.size w wr) (fun _ i _ => n - (RowKit.intOf i).toNat)
  case atStart => exact ⟨0, Nat.zero_le _, rfl, by simp, Below.refl _ _⟩
  case round =>
    obtain ⟨j, hj, rfl, rfl, hB⟩ := hrel
    by_cases hlt : j < n
    · obtain ⟨q, rfl, hq, hE⟩ := h (by omega)
      have hz := hB.size
      have e0 : wr.cell? ⟨q, j * 4, none⟩ = some (.int .i64 ((k0 : Int) + 4 * (j : Int))) := by
        have h := (hB.cell (p := ⟨q, j * 4 + 0, none⟩) hq).trans (hE j hlt 0 _ rfl)
        rw [show ((k0 : Int) + 4 * (j : Int)) = ((k0 + 4 * j + 0 : Nat) : Int) by omega]; exact h
      have e1 : wr.cell? ⟨q, j * 4 + 1, none⟩ = some (.int .i64 ((k0 : Int) + 4 * (j : Int) + 1)) := by
        have h := (hB.cell (p := ⟨q, j * 4 + 1, none⟩) hq).trans (hE j hlt 1 _ rfl)
        rw [show ((k0 : Int) + 4 * (j : Int) + 1) = ((k0 + 4 * j + 1 : Nat) : Int) by omega]; exact h
      have e2 : wr.cell? ⟨q, j * 4 + 2, none⟩ = some (.int .i64 ((k0 : Int) + 4 * (j : Int) + 1 + 1)) := by
        have h := (hB.cell (p := ⟨q, j * 4 + 2, none⟩) hq).trans (hE j hlt 2 _ rfl)
        rw [show ((k0 : Int) + 4 * (j : Int) + 1 + 1) = ((k0 + 4 * j + 2 : Nat) : Int) by omega]; exact h
      have e3 : wr.cell? ⟨q, j * 4 + 3, none⟩ = some (.string (mtx (k0 + 4 * j + 3))) := (hB.cell (p := ⟨q, j * 4 + 3, none⟩) hq).trans (hE j hlt 3 _ rfl)
      clear h hE
      go_wp2
      go_region_held3 (fun u => u.cell? ⟨q, j * 4 + 3, none⟩ = some (.string (mtx (k0 + 4 * j + 3)))) (simp [*, go_sem])
        (first
          | (go_at_call 41; refine (markText_at _ _ (by omega) (by omega)).mono ?_; rw [show ((k0 : Int) + 4 * (j : Int) + 1 + 1 + 1).toNat = k0 + 4 * j + 3 by omega]; rintro r w1 ⟨rfl, hb⟩; have q1 := fun (o : Nat) => hb.cell (p := ⟨q, o, none⟩) (show q < wr.heap.size by omega); have hB1 : Below w.heap.size w w1 := hB.trans (((Below.refl _ _).drew).trans (hb.mono (show w.heap.size ≤ wr.heap.size from hB.size))); have z1 := hB1.size; clear hb))
      all_goals go_wp2
      all_goals go_roundw
      all_goals try (case rel => exact ⟨j + 1, by omega, by go_num, by go_num, hB1⟩)
      all_goals try (case measure => simp [RowKit.intOf]; omega)
    · go_wp2
      go_ret
      obtain rfl : j = n := by omega
      exact ⟨rfl, hB⟩
theorem heldSessionS_u (v : Value) (n : Nat) (z : Int) (k0 : Nat) (hz : z = (k0 : Int)) (w : World) {lo hi : Nat} (hv : RowR seC 4 lo hi w v (mkSes k0 n)) (hl : n ≤ 1048576) (hk0 : k0 ≤ 100000000) :
    Calls Try.prog 45 #[v, .int .i64 z] w fun r w' => r = .returned (.int .i64 ((k0 + 4 * n : Nat) : Int)) ∧ Below w.heap.size w w' := by
  subst hz
  obtain ⟨a, cap, rfl⟩ := hv.sh
  have hr := hv.row
  rw [mkSes_len]
  refine heldSessionS_is k0 hk0 a n cap w (by omega) fun h0 => ?_
  obtain ⟨q, cap', e, h1, h2, h3, h4, h5⟩ := hr (by rw [mkSes_len]; exact h0)
  injection e with e1 _ _
  exact ⟨q, e1, h3, fun i hi s y hy => h5 i (by rw [mkSes_len]; exact hi) s y (by rw [mkSes_get]; exact hy)⟩

end Go.Proofs.Ytelfejhopjbhpaa
