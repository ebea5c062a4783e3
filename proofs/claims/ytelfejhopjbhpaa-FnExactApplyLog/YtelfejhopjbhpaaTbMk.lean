/-
  laws.markPairS, laws.markSessionS.
-/
import Derived.Test.YtelfejhopjbhpaaTbRow
namespace Go.Proofs.Ytelfejhopjbhpaa
open Go.RowKit Go.Maps
set_option linter.unusedVariables false
set_option linter.unusedSimpArgs false

set_option maxHeartbeats 8000000 in
set_option maxRecDepth 100000 in
theorem markPairS_is (k0 : Nat) (hk0 : k0 ≤ 100000000) (q n cap : Nat) (w : World) (hR : w.there q 0 (n * 2)) (hq : q < w.heap.size) (hn : n ≤ 1048576) :
    Calls Try.prog 42 #[.slice (some ⟨q, 0, none⟩) n cap, .int .i64 k0] w fun r w' => r = .returned (.int .i64 ((k0 + 2 * n : Nat) : Int)) ∧ MkG mkPrC 2 w' q n k0 n 0 ∧ w.grownBy w' (some q) := by
  go_enter Try.func42, Try.ntmps42
  go_wp2
  go_loopw [1, 5] (fun c i wr => ∃ j : Nat, j ≤ n ∧ i = .int .i64 j ∧ c = .int .i64 ((k0 + 2 * j : Nat) : Int) ∧ MkG mkPrC 2 wr q n k0 j 0 ∧ w.grownBy wr (some q)) (fun _ i _ => n - (RowKit.intOf i).toNat)
  case atStart => exact ⟨0, Nat.zero_le _, rfl, by simp, .start hR, ⟨rfl, rfl, rfl, Nat.le_refl _, fun _ _ _ => rfl⟩⟩
  case round =>
    obtain ⟨j, hj, rfl, rfl, hK, hg⟩ := hrel
    have hz := hg.size
    clear hR
    by_cases hlt : j < n
    · have HK : Hid (MkG mkPrC 2 wr q n k0 j 0) := hK
      obtain ⟨y0z, d0z⟩ := there_get' hK.room (j * 2) (by omega)
      have f0z := there_free' hK.room (j * 2) (by omega)
      obtain ⟨y1z, d1z⟩ := there_get' hK.room (j * 2 + 1) (by omega)
      have f1z := there_free' hK.room (j * 2 + 1) (by omega)
      have g1 : True := trivial
      clear hK
      go_wp2_with (first
        | (go_at_call 41; clear g1; refine (markText_at _ _ (by omega) (by omega)).mono ?_; rintro r w1 ⟨rfl, hb⟩; have K1 : MkG mkPrC 2 w1 q n k0 j 0 := MkG.below (by exact HK.out) hb (by first | omega | (simp [World.setCell]; omega)); have G1 : w.grownBy w1 (some q) := grown_trans (by exact hg) (grown_belowG _ hb); obtain ⟨y0, d0a⟩ := there_get' K1.room (j * 2) (by omega); have f0a := there_free' K1.room (j * 2) (by omega); obtain ⟨y1, d1a⟩ := there_get' K1.room (j * 2 + 1) (by omega); have f1a := there_free' K1.room (j * 2 + 1) (by omega); have z1 := G1.size; clear hb)
        | (go_at_call 41; refine (markText_at _ _ (by omega) (by omega)).mono ?_; rintro r w2 ⟨rfl, hb⟩; have K2 : MkG mkPrC 2 w2 q n k0 j 1 := MkG.below (by exact K1.step mkPrC_len hlt (by omega) _ (by rfl)) hb (by first | omega | (simp [World.setCell]; omega)); have G2 : w.grownBy w2 (some q) := grown_trans (by exact grown_trans G1 (grown_set _ _ _ _ _ rfl)) (grown_belowG _ hb); obtain ⟨y1, d1b⟩ := there_get' K2.room (j * 2 + 1) (by omega); have f1b := there_free' K2.room (j * 2 + 1) (by omega); have z2 := G2.size; clear hb))
      go_roundw
      case rel => exact ⟨j + 1, by omega, by go_num, by go_num, (K2.step mkPrC_len hlt (by omega) _ (by rfl)).next mkPrC_len, grown_trans G2 (grown_set _ _ _ _ _ rfl)⟩
      case measure => simp [RowKit.intOf]; omega
    · go_wp2
      go_ret
      obtain rfl : j = n := by omega
      exact ⟨rfl, hK, hg⟩
theorem markPairS_u (v : Value) (l : List Pr) (z : Int) (k0 : Nat) (hz : z = (k0 : Int)) (w : World) {lo hi : Nat} (hv : RowR prC 2 lo hi w v l) (hl : l.length ≤ 1048576) (hk0 : k0 ≤ 100000000) :
    Calls Try.prog 42 #[v, .int .i64 z] w fun r w' => r = .returned (.int .i64 ((k0 + 2 * l.length : Nat) : Int)) ∧ RowR prC 2 lo hi w' v (mkPrs k0 l.length) ∧ Turned lo hi w w' := by
  subst hz
  by_cases h0 : l.length = 0
  · obtain ⟨a, cap, rfl⟩ := hv.sh
    rw [h0]
    go_enter Try.func42, Try.ntmps42
    go_wp2
    go_loopw [1, 5] (fun c i wr => c = .int .i64 (k0 : Int) ∧ i = .int .i64 0 ∧ wr = w) (fun _ _ _ => 0)
    case atStart => exact ⟨rfl, rfl, rfl⟩
    case round =>
      obtain ⟨rfl, rfl, rfl⟩ := hrel
      go_wp2
      go_ret
      exact ⟨by simp, ⟨by simp [mkPrs_len, maxLen], ⟨_, _, rfl⟩, fun h => absurd h (by simp [mkPrs_len])⟩, Turned.of_below _ _ (Below.refl _ _)⟩
  · obtain ⟨q, cap, rfl, h1, h2, h3, h4, h5⟩ := hv.row (by omega)
    refine (markPairS_is k0 hk0 q l.length cap w h4 h3 hl).mono ?_
    rintro r w' ⟨rfl, hm, hg⟩
    refine ⟨rfl, ⟨by rw [mkPrs_len]; exact hv.len, by rw [mkPrs_len]; exact ⟨_, _, rfl⟩, fun _ => ⟨q, cap, by rw [mkPrs_len], h1, h2, Nat.lt_of_lt_of_le h3 hg.size, by rw [mkPrs_len]; exact hm.room, fun j hj t y hy => ?_⟩⟩, Turned.grown hg h1 h2⟩
    rw [mkPrs_get] at hy
    exact hm.old j (by rw [mkPrs_len] at hj; exact hj) t y hy
set_option maxHeartbeats 8000000 in
set_option maxRecDepth 100000 in
theorem markSessionS_is (k0 : Nat) (hk0 : k0 ≤ 100000000) (q n cap : Nat) (w : World) (hR : w.there q 0 (n * 4)) (hq : q < w.heap.size) (hn : n ≤ 1048576) :
    Calls Try.prog 43 #[.slice (some ⟨q, 0, none⟩) n cap, .int .i64 k0] w fun r w' => r = .returned (.int .i64 ((k0 + 4 * n : Nat) : Int)) ∧ MkG mkSeC 4 w' q n k0 n 0 ∧ w.grownBy w' (some q) := by
  go_enter Try.func43, Try.ntmps43
  go_wp2
  go_loopw [1, 5] (fun c i wr => ∃ j : Nat, j ≤ n ∧ i = .int .i64 j ∧ c = .int .i64 ((k0 + 4 * j : Nat) : Int) ∧ MkG mkSeC 4 wr q n k0 j 0 ∧ w.grownBy wr (some q)) (fun _ i _ => n - (RowKit.intOf i).toNat)
  case atStart => exact ⟨0, Nat.zero_le _, rfl, by simp, .start hR, ⟨rfl, rfl, rfl, Nat.le_refl _, fun _ _ _ => rfl⟩⟩
  case round =>
    obtain ⟨j, hj, rfl, rfl, hK, hg⟩ := hrel
    have hz := hg.size
    clear hR
    by_cases hlt : j < n
    · have HK : Hid (MkG mkSeC 4 wr q n k0 j 0) := hK
      obtain ⟨y0z, d0z⟩ := there_get' hK.room (j * 4) (by omega)
      have f0z := there_free' hK.room (j * 4) (by omega)
      obtain ⟨y1z, d1z⟩ := there_get' hK.room (j * 4 + 1) (by omega)
      have f1z := there_free' hK.room (j * 4 + 1) (by omega)
      obtain ⟨y2z, d2z⟩ := there_get' hK.room (j * 4 + 2) (by omega)
      have f2z := there_free' hK.room (j * 4 + 2) (by omega)
      obtain ⟨y3z, d3z⟩ := there_get' hK.room (j * 4 + 3) (by omega)
      have f3z := there_free' hK.room (j * 4 + 3) (by omega)
      have g1 : True := trivial
      clear hK
      go_wp2_with (first
        | (go_at_call 41; refine (markText_at _ _ (by omega) (by omega)).mono ?_; rintro r w1 ⟨rfl, hb⟩; have K1 : MkG mkSeC 4 w1 q n k0 j 3 := MkG.below (by exact (((HK.out.step mkSeC_len hlt (by omega) _ (by simp [mkSeC] <;> omega)).step mkSeC_len hlt (by omega) _ (by simp [mkSeC] <;> omega)).step mkSeC_len hlt (by omega) _ (by simp [mkSeC] <;> omega))) hb (by first | omega | (simp [World.setCell]; omega)); have G1 : w.grownBy w1 (some q) := grown_trans (by exact (grown_trans (grown_trans (grown_trans hg (grown_set _ _ _ _ _ rfl)) (grown_set _ _ _ _ _ rfl)) (grown_set _ _ _ _ _ rfl))) (grown_belowG _ hb); obtain ⟨y3, d3a⟩ := there_get' K1.room (j * 4 + 3) (by omega); have f3a := there_free' K1.room (j * 4 + 3) (by omega); have z1 := G1.size; clear hb))
      go_roundw
      case rel => exact ⟨j + 1, by omega, by go_num, by go_num, (K1.step mkSeC_len hlt (by omega) _ (by rfl)).next mkSeC_len, grown_trans G1 (grown_set _ _ _ _ _ rfl)⟩
      case measure => simp [RowKit.intOf]; omega
    · go_wp2
      go_ret
      obtain rfl : j = n := by omega
      exact ⟨rfl, hK, hg⟩
theorem markSessionS_u (v : Value) (l : List Se) (z : Int) (k0 : Nat) (hz : z = (k0 : Int)) (w : World) {lo hi : Nat} (hv : RowR seC 4 lo hi w v l) (hl : l.length ≤ 1048576) (hk0 : k0 ≤ 100000000) :
    Calls Try.prog 43 #[v, .int .i64 z] w fun r w' => r = .returned (.int .i64 ((k0 + 4 * l.length : Nat) : Int)) ∧ RowR seC 4 lo hi w' v (mkSes k0 l.length) ∧ Turned lo hi w w' := by
  subst hz
  by_cases h0 : l.length = 0
  · obtain ⟨a, cap, rfl⟩ := hv.sh
    rw [h0]
    go_enter Try.func43, Try.ntmps43
    go_wp2
    go_loopw [1, 5] (fun c i wr => c = .int .i64 (k0 : Int) ∧ i = .int .i64 0 ∧ wr = w) (fun _ _ _ => 0)
    case atStart => exact ⟨rfl, rfl, rfl⟩
    case round =>
      obtain ⟨rfl, rfl, rfl⟩ := hrel
      go_wp2
      go_ret
      exact ⟨by simp, ⟨by simp [mkSes_len, maxLen], ⟨_, _, rfl⟩, fun h => absurd h (by simp [mkSes_len])⟩, Turned.of_below _ _ (Below.refl _ _)⟩
  · obtain ⟨q, cap, rfl, h1, h2, h3, h4, h5⟩ := hv.row (by omega)
    refine (markSessionS_is k0 hk0 q l.length cap w h4 h3 hl).mono ?_
    rintro r w' ⟨rfl, hm, hg⟩
    refine ⟨rfl, ⟨by rw [mkSes_len]; exact hv.len, by rw [mkSes_len]; exact ⟨_, _, rfl⟩, fun _ => ⟨q, cap, by rw [mkSes_len], h1, h2, Nat.lt_of_lt_of_le h3 hg.size, by rw [mkSes_len]; exact hm.room, fun j hj t y hy => ?_⟩⟩, Turned.grown hg h1 h2⟩
    rw [mkSes_get] at hy
    exact hm.old j (by rw [mkSes_len] at hj; exact hj) t y hy

end Go.Proofs.Ytelfejhopjbhpaa
