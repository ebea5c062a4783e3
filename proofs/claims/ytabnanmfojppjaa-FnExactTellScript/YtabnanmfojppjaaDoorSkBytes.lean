/-
  spec.l7bytes: a line appended tq bytes.
-/
import Derived.Test.YtabnanmfojppjaaDoorSkTell
import Derived.Test.YtabnanmfojppjaaDoorOwn
import Derived.Test.YtabnanmfojppjaaDoorOwnStep
import Derived.Test.YtabnanmfojppjaaDoorOwnLit
namespace Go.Proofs.YtabnanmfojppjaaDoor
open Go.RowKit
set_option linter.unusedVariables false
set_option linter.unusedSimpArgs false

def bL (l : List UInt8) : List Int := l.map fun c => (c.toNat : Int)
theorem bL_app (a b : List UInt8) : bL (a ++ b) = bL a ++ bL b := by simp [bL]
theorem bL_len (a : List UInt8) : (bL a).length = a.length := by simp [bL]
theorem bL_byte (a : List UInt8) : ∀ x ∈ bL a, 0 ≤ x ∧ x ≤ 255 := by
  intro x hx
  simp only [bL, List.mem_map] at hx
  obtain ⟨c, _, rfl⟩ := hx
  have := c.toNat_lt
  omega
theorem bL_take {l : List UInt8} {k : Nat} (h : k < l.length) : bL (l.take (k + 1)) = bL (l.take k) ++ [(l[k].toNat : Int)] := by
  rw [List.take_succ_eq_append_getElem h, bL_app]; rfl

set_option maxHeartbeats 2000000 in
set_option maxRecDepth 100000 in
theorem l7bytes_any (v : Value) (bs : List Int) (B : Nat) (t : List UInt8) (w : World) (ho : Own w B v bs) (hB : B ≤ w.heap.size) (ht : t.length ≤ 1048576) (hb : bs.length ≤ 1000000000) :
    Calls Tryd.prog 12 #[v, .string (sOf t)] w fun e w' => ∃ v', e = .returned v' ∧ Own w' B v' (bs ++ bL (t ++ [10])) ∧ Grew w v w' v' := by
  have HO : Hid (Own w B v bs) := ho
  obtain ⟨S, hS⟩ : ∃ S, S = sOf t := ⟨_, rfl⟩
  have hss : S.size = t.length := by rw [hS, sOf_size]
  have HI : Hid (∀ k, (h : k < t.length) → ∀ u : World, (Instr.index 9 (.string S) (.int .i64 (k : Int))).run Tryd.prog u = .ok (.int .u8 (t[k].toNat : Int)) u) := fun k h u => by
    have h1 : (sOf t).data.toList = t := list_sOf t
    have h2 := idx_run S (k := k) (by rw [hS, h1]; exact h) u
    simpa [hS, h1] using h2
  rw [← hS]
  clear hS ho
  go_enter Tryd.func12, Tryd.ntmps12
  go_wp2
  go_loopw [0, 5] (fun o i wr => ∃ k : Nat, k ≤ t.length ∧ i = .int .i64 k ∧ Own wr B o (bs ++ bL (t.take k)) ∧ Grew w v wr o) (fun _ i _ => t.length - (intOf i).toNat)
  case atStart => exact ⟨0, Nat.zero_le _, rfl, by simpa [bL] using HO.out, Grew.refl _ _⟩
  case round =>
    obtain ⟨k, hk, rfl, ho, hg⟩ := hrel
    have hz := hg.g.size
    have hkl : (bL (t.take k)).length = k := by rw [bL_len, List.length_take_of_le hk]
    by_cases hlt : k < t.length
    · have HT := bL_take hlt
      have HT' : Hid (bL (t.take (k + 1)) = bL (t.take k) ++ [(t[k].toNat : Int)]) := HT
      have h8 : 0 ≤ (t[k].toNat : Int) ∧ (t[k].toNat : Int) ≤ 255 := by have := t[k].toNat_lt; omega
      have hix := HI.out k hlt
      have hlk : (k : Int) < (t.length : Int) := by omega
      clear HT
      generalize (t[k].toNat : Int) = x at hix h8 HT'
      go_wp2_with (at_builtin; refine wpl_append rfl (.tmp 12) (.tmp 16) rfl (ho.below ((Below.refl _ _).alloc (Nat.le_refl _) _)) rfl (Bs.one _ x h8) rfl (by simp) (by simp; omega) (by simp; omega) ?_; intro v2 w2 ho2 hg2)
      go_roundw
      case rel => exact ⟨k + 1, by omega, by go_num, by rw [HT'.out, ← List.append_assoc]; exact ho2, (hg.alloc _).trans hg2⟩
      case measure => simp [intOf]; omega
    · obtain rfl : k = t.length := by omega
      rw [List.take_length] at ho hkl
      go_wp2_with (at_builtin; refine wpl_append rfl (.tmp 18) (.tmp 19) rfl (ho.below ((Below.refl _ _).alloc (Nat.le_refl _) _)) rfl (Bs.one _ 10 (by omega)) rfl (by simp) (by simp; omega) (by simp; omega) ?_; intro v2 w2 ho2 hg2)
      go_ret
      exact ⟨_, rfl, by rw [bL_app, ← List.append_assoc]; exact ho2, (hg.alloc _).trans hg2⟩
end Go.Proofs.YtabnanmfojppjaaDoor
