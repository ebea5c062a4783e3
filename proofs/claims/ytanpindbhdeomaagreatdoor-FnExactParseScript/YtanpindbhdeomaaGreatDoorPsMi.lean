/-
  laws.markIntS, heldIntS.
-/
import Derived.Test.YtanpindbhdeomaaGreatDoorLawTurn
import Derived.Test.YtanpindbhdeomaaGreatDoorRowBase
namespace Go.Proofs.YtanpindbhdeomaaGreatDoor
open Go.RowKit
set_option linter.unusedVariables false
set_option linter.unusedSimpArgs false

/-- the first j ints are marked from k0 on -/
structure MkI (w : World) (q n k0 j : Nat) : Prop where
  room : w.there q 0 n
  old : ∀ i, i < j → w.cell? ⟨q, i, none⟩ = some (.int .i64 ((k0 + i : Nat) : Int))
theorem MkI.step {w : World} {q n k0 j : Nat} (h : MkI w q n k0 j) (hj : j < n) : MkI (w.setCell ⟨q, j, none⟩ (.int .i64 ((k0 + j : Nat) : Int))) q n k0 (j + 1) := by
  refine ⟨there_set' h.room _ _ _, fun i hi => ?_⟩
  by_cases e : i = j
  · subst e
    obtain ⟨y, hy⟩ := there_get' h.room i hj
    exact World.cell?_setCell_same w ⟨q, i, none⟩ _ hy
  · rw [World.cell?_setCell_other w ⟨q, j, none⟩ ⟨q, i, none⟩ _ (by intro h; injection h with h1 h2; omega)]
    exact h.old i (by omega)
theorem MkI.keep {w w' : World} {q n k0 j : Nat} (h : MkI w q n k0 j) (hb : w'.heap[q]? = w.heap[q]?) : MkI w' q n k0 j :=
  ⟨there_block' h.room hb, fun i hi => (World.cell?_of_block (w := w) hb).trans (h.old i hi)⟩

set_option maxHeartbeats 2000000 in
set_option maxRecDepth 100000 in
theorem markIntS_is (k0 : Nat) (hk0 : k0 ≤ 100000000) (q n cap : Nat) (w : World) (hR : w.there q 0 n) (hq : q < w.heap.size) (hn : n ≤ 1048576) :
    Calls Tryz.prog 29 #[.slice (some ⟨q, 0, none⟩) n cap, .int .i64 k0] w fun r w' => r = .returned (.int .i64 ((k0 + n : Nat) : Int)) ∧ MkI w' q n k0 n ∧ w.grownBy w' (some q) := by
  go_enter Tryz.func29, Tryz.ntmps29
  go_wp2
  go_loopw [1, 5] (fun c i wr => ∃ j : Nat, j ≤ n ∧ i = .int .i64 j ∧ c = .int .i64 ((k0 + j : Nat) : Int) ∧ MkI wr q n k0 j ∧ w.grownBy wr (some q)) (fun _ i _ => n - (intOf i).toNat)
  case atStart => exact ⟨0, Nat.zero_le _, rfl, by simp, ⟨hR, fun i hi => by omega⟩, ⟨rfl, rfl, rfl, Nat.le_refl _, fun _ _ _ => rfl⟩⟩
  case round =>
    obtain ⟨j, hj, rfl, rfl, hK, hg⟩ := hrel
    by_cases hlt : j < n
    · obtain ⟨y, hy⟩ := there_get' hK.room j hlt
      have hyf := there_free' hK.room j hlt
      have HK : Hid (MkI (wr.setCell ⟨q, j, none⟩ (.int .i64 ((k0 + j : Nat) : Int))) q n k0 (j + 1)) := hK.step hlt
      have HG : Hid (w.grownBy (wr.setCell ⟨q, j, none⟩ (.int .i64 ((k0 + j : Nat) : Int))) (some q)) := grown_trans hg (grown_set _ _ _ _ _ rfl)
      clear hK hR
      go_wp2
      go_roundw
      case rel => exact ⟨j + 1, by omega, by go_num, by go_num, HK.out, HG.out⟩
      case measure => simp [intOf]; omega
    · obtain rfl : j = n := by omega
      go_wp2
      go_ret
      exact ⟨rfl, hK, hg⟩

set_option maxHeartbeats 2000000 in
set_option maxRecDepth 100000 in
theorem heldIntS_is (k0 : Nat) (hk0 : k0 ≤ 100000000) (a : Option Addr) (n cap : Nat) (w : World) (hn : n ≤ 1048576) (h : 0 < n → ∃ q, a = some ⟨q, 0, none⟩ ∧ ∀ i, i < n → w.cell? ⟨q, i, none⟩ = some (.int .i64 ((k0 + i : Nat) : Int))) :
    Calls Tryz.prog 31 #[.slice a n cap, .int .i64 k0] w fun r w' => r = .returned (.int .i64 ((k0 + n : Nat) : Int)) ∧ Below w.heap.size w w' := by
  go_enter Tryz.func31, Tryz.ntmps31
  go_wp2
  go_loopw [1, 5] (fun c i wr => ∃ j : Nat, j ≤ n ∧ i = .int .i64 j ∧ c = .int .i64 ((k0 + j : Nat) : Int) ∧ ∃ m, wr = w.drewN m) (fun _ i _ => n - (intOf i).toNat)
  case atStart => exact ⟨0, Nat.zero_le _, rfl, by simp, 0, rfl⟩
  case round =>
    obtain ⟨j, hj, rfl, rfl, m, rfl⟩ := hrel
    by_cases hlt : j < n
    · obtain ⟨q, rfl, hE⟩ := h (by omega)
      have hck : w.cell? ⟨q, j, none⟩ = some (.int .i64 ((k0 : Int) + (j : Int))) := by have h := hE j hlt; simpa using h
      clear hE h
      go_wp2
      go_roundw
      case rel => exact ⟨j + 1, by omega, by go_num, by go_num, _, rfl⟩
      case measure => simp [intOf]; omega
    · obtain rfl : j = n := by omega
      go_wp2
      go_ret
      exact ⟨rfl, rfl, rfl, rfl, Nat.le_refl _, fun _ _ => rfl⟩
end Go.Proofs.YtanpindbhdeomaaGreatDoor
