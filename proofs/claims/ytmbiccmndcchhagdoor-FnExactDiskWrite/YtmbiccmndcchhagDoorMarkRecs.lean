/-
  laws.markRecordS.
-/
import Derived.Test.YtmbiccmndcchhagDoorRecBase
import Derived.Test.YtmbiccmndcchhagDoorMarkText
namespace Go.Proofs.YtmbiccmndcchhagDoor
open Go.RowKit
set_option linter.unusedVariables false

theorem there_set {w : World} {b n : Nat} (h : w.there b 0 n) (b' j : Nat) (x : Value) : (w.setCell ⟨b', j, none⟩ x).there b 0 n := World.there_setCells h b' j [x]
theorem there_get {w : World} {b n : Nat} (h : w.there b 0 n) (i : Nat) (hi : i < n) : ∃ y, w.cell? ⟨b, i, none⟩ = some y := by
  have := (h i hi).1
  rw [Nat.zero_add] at this
  exact Option.isSome_iff_exists.1 this
theorem there_free {w : World} {b n : Nat} (h : w.there b 0 n) (i : Nat) (hi : i < n) : w.frozen? ⟨b, i, none⟩ = false := by
  have := (h i hi).2
  rwa [Nat.zero_add] at this

set_option maxHeartbeats 8000000 in
set_option maxRecDepth 100000 in
theorem markRecordS_from (k0 : Nat) (hk0 : k0 ≤ 20000000) (q n cap : Nat) (w : World) (hR : w.there q 0 (n * 11)) (hq : q < w.heap.size) (hn : n ≤ 1048576) :
    Calls Tryd.prog 27 #[.slice (some ⟨q, 0, none⟩) n cap, .int .i64 k0] w fun r w' => (∃ k : Nat, r = .returned (.int .i64 k)) ∧ w.grownBy w' (some q) := by
  go_enter Tryd.func27, Tryd.ntmps27
  go_wp2
  go_loopw [1, 5] (fun c i wr => ∃ j : Nat, j ≤ n ∧ i = .int .i64 j ∧ c = .int .i64 ((k0 + 11 * j : Nat) : Int) ∧ wr.there q 0 (n * 11) ∧ w.grownBy wr (some q)) (fun _ i _ => n - (intOf i).toNat)
  case atStart => exact ⟨0, Nat.zero_le _, rfl, by simp, hR, ⟨rfl, rfl, rfl, Nat.le_refl _, fun _ _ _ => rfl⟩⟩
  case round =>
    obtain ⟨j, hj, rfl, rfl, hR', hg⟩ := hrel
    have hz := hg.size
    have HT : Hid (wr.there q 0 (n * 11)) := hR'
    clear hR
    by_cases hlt : j < n
    · obtain ⟨y0, d0⟩ := there_get hR' (j * 11) (by omega)
      have f0 := there_free hR' (j * 11) (by omega)
      obtain ⟨y1, d1⟩ := there_get hR' (j * 11 + 1) (by omega)
      have f1 := there_free hR' (j * 11 + 1) (by omega)
      obtain ⟨y2, d2⟩ := there_get hR' (j * 11 + 2) (by omega)
      have f2 := there_free hR' (j * 11 + 2) (by omega)
      obtain ⟨y3, d3⟩ := there_get hR' (j * 11 + 3) (by omega)
      have f3 := there_free hR' (j * 11 + 3) (by omega)
      obtain ⟨y4, d4⟩ := there_get hR' (j * 11 + 4) (by omega)
      have f4 := there_free hR' (j * 11 + 4) (by omega)
      obtain ⟨y5, d5⟩ := there_get hR' (j * 11 + 5) (by omega)
      have f5 := there_free hR' (j * 11 + 5) (by omega)
      obtain ⟨y6, d6⟩ := there_get hR' (j * 11 + 6) (by omega)
      have f6 := there_free hR' (j * 11 + 6) (by omega)
      obtain ⟨y7, d7⟩ := there_get hR' (j * 11 + 7) (by omega)
      have f7 := there_free hR' (j * 11 + 7) (by omega)
      obtain ⟨y5a, d5a⟩ := there_get hR' (j * 11 + 4 + 1) (by omega)
      have f5a := there_free hR' (j * 11 + 4 + 1) (by omega)
      obtain ⟨y6a, d6a⟩ := there_get hR' (j * 11 + 4 + 1 + 1) (by omega)
      have f6a := there_free hR' (j * 11 + 4 + 1 + 1) (by omega)
      obtain ⟨y7a, d7a⟩ := there_get hR' (j * 11 + 4 + 1 + 2) (by omega)
      have f7a := there_free hR' (j * 11 + 4 + 1 + 2) (by omega)
      have g1 : True := trivial
      have g2 : True := trivial
      clear hR'
      go_wp2_with (first
        | (go_at_call 57; clear g1; refine (markText_int _ _ (by omega) (by omega)).mono ?_; rintro r w1 ⟨⟨s1, rfl⟩, hb1⟩; have R1 : w1.there q 0 (n * 11) := there_below (by exact there_set (there_set (there_set (there_set (there_set (there_set (there_set (there_set (HT.out) _ _ _) _ _ _) _ _ _) _ _ _) _ _ _) _ _ _) _ _ _) _ _ _) hb1 (by simp [World.setCell]; omega); have G1 : w.grownBy w1 (some q) := grown_trans (by exact grown_trans (grown_trans (grown_trans (grown_trans (grown_trans (grown_trans (grown_trans (grown_trans (hg) (grown_set _ _ _ _ _ rfl)) (grown_set _ _ _ _ _ rfl)) (grown_set _ _ _ _ _ rfl)) (grown_set _ _ _ _ _ rfl)) (grown_set _ _ _ _ _ rfl)) (grown_set _ _ _ _ _ rfl)) (grown_set _ _ _ _ _ rfl)) (grown_set _ _ _ _ _ rfl)) (grown_below _ hb1); obtain ⟨y8, d8⟩ := there_get R1 (j * 11 + 4 + 1 + 3) (by omega); have f8 := there_free R1 (j * 11 + 4 + 1 + 3) (by omega); have hz1 := G1.size; clear hb1)
        | (go_at_call 57; clear g2; refine (markText_int _ _ (by omega) (by omega)).mono ?_; rintro r w2 ⟨⟨s2, rfl⟩, hb2⟩; have R2 : w2.there q 0 (n * 11) := there_below (by exact there_set R1 _ _ _) hb2 (by simp [World.setCell]; omega); have G2 : w.grownBy w2 (some q) := grown_trans (by exact grown_trans G1 (grown_set _ _ _ _ _ rfl)) (grown_below _ hb2); obtain ⟨y9, d9⟩ := there_get R2 (j * 11 + 4 + 1 + 4) (by omega); have f9 := there_free R2 (j * 11 + 4 + 1 + 4) (by omega); have hz2 := G2.size; clear hb2)
        | (go_at_call 57; refine (markText_int _ _ (by omega) (by omega)).mono ?_; rintro r w3 ⟨⟨s3, rfl⟩, hb3⟩; have R3 : w3.there q 0 (n * 11) := there_below (by exact there_set R2 _ _ _) hb3 (by simp [World.setCell]; omega); have G3 : w.grownBy w3 (some q) := grown_trans (by exact grown_trans G2 (grown_set _ _ _ _ _ rfl)) (grown_below _ hb3); obtain ⟨y10, d10⟩ := there_get R3 (j * 11 + 4 + 1 + 5) (by omega); have f10 := there_free R3 (j * 11 + 4 + 1 + 5) (by omega); clear hb3))
      go_roundw
      case rel => exact ⟨j + 1, by omega, by go_num, by go_num, there_set R3 _ _ _, grown_trans G3 (grown_set _ _ _ _ _ rfl)⟩
      case measure => simp [intOf]; omega
    · go_wp2
      go_ret
      exact ⟨⟨_, rfl⟩, hg⟩
theorem markRecordS_any (q n cap : Nat) (w : World) (hR : w.there q 0 (n * 11)) (hq : q < w.heap.size) (hn : n ≤ 1048576) :
    Calls Tryd.prog 27 #[.slice (some ⟨q, 0, none⟩) n cap, .int .i64 1] w fun r w' => (∃ k : Nat, r = .returned (.int .i64 k)) ∧ w.grownBy w' (some q) := markRecordS_from 1 (by omega) q n cap w hR hq hn
end Go.Proofs.YtmbiccmndcchhagDoor
