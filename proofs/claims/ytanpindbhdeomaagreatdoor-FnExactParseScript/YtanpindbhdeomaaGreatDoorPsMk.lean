/-
  laws.markStepS: what is marked.
-/
import Derived.Test.YtanpindbhdeomaaGreatDoorMkG
namespace Go.Proofs.YtanpindbhdeomaaGreatDoor
open Go.RowKit
set_option linter.unusedVariables false

def mkStp (k : Nat) : List Value := [.int .i64 k, .int .i64 (k + 1 : Nat), .int .i64 (k + 2 : Nat), .int .i64 (k + 3 : Nat), .int .i64 (k + 4 : Nat), .int .i64 (k + 5 : Nat), .int .i64 (k + 6 : Nat), .string (mtx (k + 7)), .string (mtx (k + 8)), .string (mtx (k + 9))]
theorem mkStp_len (k : Nat) : (mkStp k).length = 10 := rfl

set_option maxHeartbeats 4000000 in
set_option maxRecDepth 100000 in
theorem markStepS_is (k0 : Nat) (hk0 : k0 ≤ 20000000) (q n cap : Nat) (w : World) (hR : w.there q 0 (n * 10)) (hq : q < w.heap.size) (hn : n ≤ 1048576) :
    Calls Tryz.prog 30 #[.slice (some ⟨q, 0, none⟩) n cap, .int .i64 k0] w fun r w' => r = .returned (.int .i64 ((k0 + 10 * n : Nat) : Int)) ∧ MkG mkStp 10 w' q n k0 n 0 ∧ w.grownBy w' (some q) := by
  go_enter Tryz.func30, Tryz.ntmps30
  go_wp2
  go_loopw [1, 5] (fun c i wr => ∃ j : Nat, j ≤ n ∧ i = .int .i64 j ∧ c = .int .i64 ((k0 + 10 * j : Nat) : Int) ∧ MkG mkStp 10 wr q n k0 j 0 ∧ w.grownBy wr (some q)) (fun _ i _ => n - (intOf i).toNat)
  case atStart => exact ⟨0, Nat.zero_le _, rfl, by simp, .start hR, ⟨rfl, rfl, rfl, Nat.le_refl _, fun _ _ _ => rfl⟩⟩
  case round =>
    obtain ⟨j, hj, rfl, rfl, hK, hg⟩ := hrel
    have hz := hg.size
    clear hR
    by_cases hlt : j < n
    · have HK : Hid (MkG mkStp 10 wr q n k0 j 0) := hK
      obtain ⟨y0z, d0z⟩ := there_get' hK.room (j * 10) (by omega)
      have f0z := there_free' hK.room (j * 10) (by omega)
      obtain ⟨y1z, d1z⟩ := there_get' hK.room (j * 10 + 1) (by omega)
      have f1z := there_free' hK.room (j * 10 + 1) (by omega)
      obtain ⟨y2z, d2z⟩ := there_get' hK.room (j * 10 + 2) (by omega)
      have f2z := there_free' hK.room (j * 10 + 2) (by omega)
      obtain ⟨y3z, d3z⟩ := there_get' hK.room (j * 10 + 3) (by omega)
      have f3z := there_free' hK.room (j * 10 + 3) (by omega)
      obtain ⟨y4z, d4z⟩ := there_get' hK.room (j * 10 + 4) (by omega)
      have f4z := there_free' hK.room (j * 10 + 4) (by omega)
      obtain ⟨y5z, d5z⟩ := there_get' hK.room (j * 10 + 5) (by omega)
      have f5z := there_free' hK.room (j * 10 + 5) (by omega)
      obtain ⟨y6z, d6z⟩ := there_get' hK.room (j * 10 + 6) (by omega)
      have f6z := there_free' hK.room (j * 10 + 6) (by omega)
      obtain ⟨y7z, d7z⟩ := there_get' hK.room (j * 10 + 4 + 1) (by omega)
      have f7z := there_free' hK.room (j * 10 + 4 + 1) (by omega)
      obtain ⟨y8z, d8z⟩ := there_get' hK.room (j * 10 + 4 + 2) (by omega)
      have f8z := there_free' hK.room (j * 10 + 4 + 2) (by omega)
      have g1 : True := trivial
      have g2 : True := trivial
      clear hK
      go_wp2_with (first
        | (go_at_call 52; clear g1; refine (markText_at _ _ (by omega) (by omega)).mono ?_; rintro r w1 ⟨rfl, hb1⟩; have K1 : MkG mkStp 10 w1 q n k0 j 7 := MkG.below (by exact (((((((HK.out.step mkStp_len hlt (by omega) _ (by simp [mkStp])).step mkStp_len hlt (by omega) _ (by simp [mkStp])).step mkStp_len hlt (by omega) _ (by simp [mkStp]; omega)).step mkStp_len hlt (by omega) _ (by simp [mkStp]; omega)).step mkStp_len hlt (by omega) _ (by simp [mkStp]; omega)).step mkStp_len hlt (by omega) _ (by simp [mkStp]; omega)).step mkStp_len hlt (by omega) _ (by simp [mkStp]; omega))) hb1 (by simp [World.setCell]; omega); have G1 : w.grownBy w1 (some q) := grown_trans (by exact (grown_trans (grown_trans (grown_trans (grown_trans (grown_trans (grown_trans (grown_trans hg (grown_set _ _ _ _ _ rfl)) (grown_set _ _ _ _ _ rfl)) (grown_set _ _ _ _ _ rfl)) (grown_set _ _ _ _ _ rfl)) (grown_set _ _ _ _ _ rfl)) (grown_set _ _ _ _ _ rfl)) (grown_set _ _ _ _ _ rfl))) (grown_belowG _ hb1); obtain ⟨y8, d8⟩ := there_get' K1.room (j * 10 + 4 + 3) (by omega); have f8 := there_free' K1.room (j * 10 + 4 + 3) (by omega); have hz1 := G1.size; clear hb1)
        | (go_at_call 52; clear g2; refine (markText_at _ _ (by omega) (by omega)).mono ?_; rintro r w2 ⟨rfl, hb2⟩; have K2 : MkG mkStp 10 w2 q n k0 j 8 := MkG.below (by exact K1.step mkStp_len hlt (by omega) _ (by rfl)) hb2 (by simp [World.setCell]; omega); have G2 : w.grownBy w2 (some q) := grown_trans (by exact grown_trans G1 (grown_set _ _ _ _ _ rfl)) (grown_belowG _ hb2); obtain ⟨y9, d9⟩ := there_get' K2.room (j * 10 + 4 + 4) (by omega); have f9 := there_free' K2.room (j * 10 + 4 + 4) (by omega); have hz2 := G2.size; clear hb2)
        | (go_at_call 52; refine (markText_at _ _ (by omega) (by omega)).mono ?_; rintro r w3 ⟨rfl, hb3⟩; have K3 : MkG mkStp 10 w3 q n k0 j 9 := MkG.below (by exact K2.step mkStp_len hlt (by omega) _ (by rfl)) hb3 (by simp [World.setCell]; omega); have G3 : w.grownBy w3 (some q) := grown_trans (by exact grown_trans G2 (grown_set _ _ _ _ _ rfl)) (grown_belowG _ hb3); obtain ⟨y10, d10⟩ := there_get' K3.room (j * 10 + 4 + 5) (by omega); have f10 := there_free' K3.room (j * 10 + 4 + 5) (by omega); have hz3 := G3.size; clear hb3))
      go_roundw
      case rel => exact ⟨j + 1, by omega, by go_num, by go_num, (K3.step mkStp_len hlt (by omega) _ (by rfl)).next mkStp_len, grown_trans G3 (grown_set _ _ _ _ _ rfl)⟩
      case measure => simp [intOf]; omega
    · go_wp2
      go_ret
      obtain rfl : j = n := by omega
      exact ⟨rfl, hK, hg⟩
end Go.Proofs.YtanpindbhdeomaaGreatDoor
