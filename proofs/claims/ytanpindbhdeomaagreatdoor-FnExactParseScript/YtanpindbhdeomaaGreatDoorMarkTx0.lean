/-
  laws.markText, as a function.
-/
import Derived.Test.YtanpindbhdeomaaGreatDoorOwn
import Derived.Laws.BytesArg
namespace Go.Proofs.YtanpindbhdeomaaGreatDoor
open Go.RowKit
set_option linter.unusedVariables false
set_option linter.unusedSimpArgs false

def mtxA : Nat → Nat → ByteArray → ByteArray
  | 0, _, t => t
  | f + 1, m, t => if m = 0 then t else mtxA f (m / 10) (strOfNums [48 + (m : Int) % 10] ++ t)
def mtx (k : Nat) : ByteArray := if k = 0 then ⟨#[109, 48]⟩ else ⟨#[109]⟩ ++ mtxA k k ⟨#[]⟩
theorem mtxA_zero (f : Nat) (t : ByteArray) : mtxA f 0 t = t := by cases f <;> simp [mtxA]
theorem mtxA_step (f m : Nat) (t : ByteArray) (h : 0 < m) (hf : m ≤ f) : ∃ f', m / 10 ≤ f' ∧ mtxA f m t = mtxA f' (m / 10) (strOfNums [48 + (m : Int) % 10] ++ t) := by
  cases f with
  | zero => omega
  | succ f => exact ⟨f, by omega, by rw [mtxA, if_neg (by omega)]⟩

set_option maxHeartbeats 2000000 in
set_option maxRecDepth 100000 in
theorem markText_is (k : Nat) (w : World) (hk : k ≤ 1000000000) :
    Calls Tryz.prog 52 #[.int .i64 k] w fun r w' => r = .returned (.string (mtx k)) ∧ Below w.heap.size w w' := by
  by_cases h0 : k = 0
  · subst h0
    go_enter Tryz.func52, Tryz.ntmps52
    go_wp2
    go_ret
    exact ⟨rfl, Below.refl _ _⟩
  · have hp : 0 < k := by omega
    have hm : Hid (mtx k = ⟨#[109]⟩ ++ mtxA k k ⟨#[]⟩) := by unfold mtx; exact if_neg h0
    go_enter Tryz.func52, Tryz.ntmps52
    go_wp2
    go_loopw [0, 3] (fun i s wr => ∃ (m f : Nat) (t : ByteArray), i = .int .i64 m ∧ s = .string t ∧ t.size + m ≤ k ∧ m ≤ f ∧ mtxA k k ⟨#[]⟩ = mtxA f m t ∧ Below w.heap.size w wr) (fun i _ _ => (intOf i).toNat)
    case atStart => exact ⟨k, k, _, rfl, rfl, by simp [ByteArray.size], Nat.le_refl _, rfl, Below.refl _ _⟩
    case round =>
      obtain ⟨m, f, t, rfl, rfl, ht, hf, he, hB⟩ := hrel
      have hz := hB.size
      by_cases hlt : 0 < m
      · obtain ⟨f', hf', he'⟩ := mtxA_step f m t hlt hf
        have HE : Hid (mtxA k k ⟨#[]⟩ = mtxA f' (m / 10) (strOfNums [48 + (m : Int) % 10] ++ t)) := he.trans he'
        clear he he'
        have hcv := run_convert_bytes_arg (P := Tryz.prog) (wr.alloc (.cells #[.int .u8 (48 + (m : Int) % 10)] 5)) 102 5 Tryz.underlying102 Tryz.underlying5 wr.heap.size 0 1 1 [48 + (m : Int) % 10] rfl
        have hs1 : ¬ (9223372036854775807 < (strOfNums [48 + (m : Int) % 10]).size + t.size) := by rw [strOfNums_size]; simp; omega
        go_wp2
        go_roundw
        case rel => exact ⟨m / 10, f', _, by go_num, rfl, by rw [ByteArray.size_append, strOfNums_size]; simp; omega, hf', HE.out, hB.trans ((Below.refl _ _).alloc hz _)⟩
        case measure => simp [intOf]; omega
      · obtain rfl : m = 0 := by omega
        rw [mtxA_zero] at he
        have HE : Hid (mtxA k k ⟨#[]⟩ = t) := he
        clear he
        have hs : ¬ (9223372036854775807 < 1 + t.size) := by omega
        go_wp2
        go_ret
        exact ⟨by rw [hm.out, HE.out]; rfl, hB⟩
theorem markText_at (k : Int) (w : World) (h0 : 0 ≤ k) (hk : k ≤ 1000000000) :
    Calls Tryz.prog 52 #[.int .i64 k] w fun r w' => r = .returned (.string (mtx k.toNat)) ∧ Below w.heap.size w w' := by
  obtain ⟨k, rfl⟩ := Int.eq_ofNat_of_zero_le h0
  exact markText_is k w (by omega)

theorem set_thereT {w : World} {b i j : Nat} {x : Value} (h : ∃ y, w.cell? ⟨b, i, none⟩ = some y) : ∃ y, (w.setCell ⟨b, j, none⟩ x).cell? ⟨b, i, none⟩ = some y := by
  obtain ⟨y, hy⟩ := h
  by_cases e : j = i
  · subst e
    exact ⟨x, World.cell?_setCell_same w _ _ hy⟩
  · exact ⟨y, (World.cell?_setCell_other w _ _ _ (by intro h; injection h with _ h2 _; exact e h2)).trans hy⟩
theorem set_other {w : World} {b i j : Nat} {x : Value} (h : j ≠ i) : (w.setCell ⟨b, j, none⟩ x).cell? ⟨b, i, none⟩ = w.cell? ⟨b, i, none⟩ :=
  World.cell?_setCell_other w _ _ _ (by intro e; injection e with _ h2 _; exact h h2)
theorem set_same {w : World} {b i : Nat} {x : Value} (h : ∃ y, w.cell? ⟨b, i, none⟩ = some y) : (w.setCell ⟨b, i, none⟩ x).cell? ⟨b, i, none⟩ = some x := by
  obtain ⟨y, hy⟩ := h
  exact World.cell?_setCell_same w _ _ hy
end Go.Proofs.YtanpindbhdeomaaGreatDoor
