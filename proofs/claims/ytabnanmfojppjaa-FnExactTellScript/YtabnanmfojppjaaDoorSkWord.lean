/-
  Words: spec.l7plain, impl.isWord.
-/
import Derived.Test.YtabnanmfojppjaaDoorSkPure
namespace Go.Proofs.YtabnanmfojppjaaDoor
open Go.RowKit
set_option linter.unusedVariables false
set_option linter.unusedSimpArgs false

theorem idx_run (t : ByteArray) {k : Nat} (h : k < t.data.toList.length) (u : World) :
    (Instr.index 9 (.string t) (.int .i64 (k : Int))).run Tryd.prog u = .ok (.int .u8 (t.data.toList[k].toNat : Int)) u := by
  obtain ⟨⟨l⟩⟩ := t
  have hl : k < l.length := h
  rw [run_index_string u 9 _ _ _ Tryd.underlying9, dif_pos ⟨by omega, by have : (ByteArray.mk ⟨l⟩).size = l.length := rfl; omega⟩]
  rfl
theorem size_list (t : ByteArray) : t.size = t.data.toList.length := rfl
def okB (x : UInt8) : Bool := decide (33 ≤ x.toNat) && decide (x.toNat ≤ 126)
theorem wordB_def (l : List UInt8) : wordB l = (l.all okB && !l.isEmpty) := rfl
theorem all_take_succ {l : List UInt8} {k : Nat} (h : k < l.length) (p : UInt8 → Bool) (h1 : (l.take k).all p = true) (h2 : p l[k] = true) : (l.take (k + 1)).all p = true := by
  rw [List.take_succ_eq_append_getElem h, List.all_append, h1]; simp [h2]
theorem all_no {l : List UInt8} {k : Nat} (h : k < l.length) (p : UInt8 → Bool) (h2 : p l[k] = false) : l.all p = false := by
  cases e : l.all p
  · rfl
  · rw [List.all_eq_true] at e; rw [e _ (List.getElem_mem h)] at h2; cases h2

set_option maxHeartbeats 2000000 in
theorem l7plain_any (t : ByteArray) (hl : t.size ≤ 1048576) (w : World) :
    Calls Tryd.prog 34 #[.string t] w fun e w' => e = .returned (.bool (wordB t.data.toList)) ∧ w' = w := by
  have HI : Hid (∀ k, (h : k < t.data.toList.length) → ∀ u : World, (Instr.index 9 (.string t) (.int .i64 (k : Int))).run Tryd.prog u = .ok (.int .u8 (t.data.toList[k].toNat : Int)) u) := fun k h u => idx_run t h u
  have hs := size_list t
  have HW : Hid (wordB t.data.toList = (t.data.toList.all okB && !t.data.toList.isEmpty)) := wordB_def _
  have HL : Hid (t.data.toList.isEmpty = decide (t.size = 0)) := by unfold Hid; rw [hs]; cases t.data.toList <;> simp
  generalize t.data.toList = l at *
  generalize wordB l = B at *
  go_enter Tryd.func34, Tryd.ntmps34
  go_wp2
  go_loopw [3] (fun i wr => ∃ k : Nat, k ≤ l.length ∧ i = .int .i64 k ∧ (l.take k).all okB = true ∧ wr = w) (fun i _ => l.length - (intOf i).toNat)
  case atStart => exact ⟨0, Nat.zero_le _, rfl, rfl, rfl⟩
  case round =>
    obtain ⟨k, hk, rfl, hA, rfl⟩ := hrel
    have HA : Hid ((l.take k).all okB = true) := hA
    clear hA
    by_cases hlt : k < l.length
    · have hix := HI.out k hlt
      have HY : Hid (okB l[k] = (decide (33 ≤ l[k].toNat) && decide (l[k].toNat ≤ 126))) := rfl
      have HN : Hid (okB l[k] = true → (l.take (k + 1)).all okB = true) := fun h => all_take_succ hlt _ HA.out h
      have HF : Hid (okB l[k] = false → l.all okB = false) := fun h => all_no hlt _ h
      generalize okB l[k] = y at HY HN HF
      generalize l[k].toNat = x at hix HY
      have hkl : (k : Int) < (l.length : Int) := by omega
      by_cases h1 : x < 33
      · have h1' : (x : Int) < 33 := by omega
        have hy : y = false := by rw [HY.out]; simp; omega
        go_wp2
        go_ret
        exact ⟨by rw [HW.out, HF.out hy]; rfl, rfl⟩
      · have h1' : ¬ (x : Int) < 33 := by omega
        by_cases h2 : 126 < x
        · have h2' : (126 : Int) < x := by omega
          have hy : y = false := by rw [HY.out]; simp; omega
          go_wp2
          go_ret
          exact ⟨by rw [HW.out, HF.out hy]; rfl, rfl⟩
        · have h2' : ¬ (126 : Int) < x := by omega
          have hy : y = true := by rw [HY.out]; simp; omega
          go_wp2
          go_roundw
          case rel => exact ⟨k + 1, by omega, by go_num, HN.out hy, by trivial⟩
          case measure => simp [intOf]; omega
    · obtain rfl : k = l.length := by omega
      rw [List.take_length] at HA
      go_wp2
      go_ret
      refine ⟨?_, rfl⟩
      rw [HW.out, HA.out, HL.out]
      have HS : Hid (t.size = l.length) := hs
      clear hs
      by_cases h0 : l.length = 0
      · have h1 : t.size = 0 := HS.out.trans h0
        simp [h0, h1]
      · have h1 : t.size ≠ 0 := fun h => h0 (HS.out.symm.trans h)
        have h2 : 0 < l.length := by omega
        have h3 : 0 < t.size := by omega
        simp [h0, h1, h2, h3]

set_option maxHeartbeats 2000000 in
theorem isWord_any (t : ByteArray) (hl : t.size ≤ 1048576) (w : World) :
    Calls Tryd.prog 48 #[.string t] w fun e w' => e = .returned (.bool (wordB t.data.toList)) ∧ w' = w := by
  have HI : Hid (∀ k, (h : k < t.data.toList.length) → ∀ u : World, (Instr.index 9 (.string t) (.int .i64 (k : Int))).run Tryd.prog u = .ok (.int .u8 (t.data.toList[k].toNat : Int)) u) := fun k h u => idx_run t h u
  have hs := size_list t
  have HW : Hid (wordB t.data.toList = (t.data.toList.all okB && !t.data.toList.isEmpty)) := wordB_def _
  have HL : Hid (t.data.toList.isEmpty = decide (t.size = 0)) := by unfold Hid; rw [hs]; cases t.data.toList <;> simp
  have HE : Hid (t.toList.isEmpty = decide (t.size = 0)) := by unfold Hid; rw [ByteArray.toList_eq]; exact HL.out
  generalize t.data.toList = l at *
  generalize wordB l = B at *
  go_enter Tryd.func48, Tryd.ntmps48
  go_wp2
  go_loopw [6] (fun i wr => ∃ k : Nat, k ≤ l.length ∧ i = .int .i64 k ∧ (l.take k).all okB = true ∧ wr = w) (fun i _ => l.length - (intOf i).toNat)
  case atStart => exact ⟨0, Nat.zero_le _, rfl, rfl, rfl⟩
  case round =>
    obtain ⟨k, hk, rfl, hA, rfl⟩ := hrel
    have HA : Hid ((l.take k).all okB = true) := hA
    clear hA
    by_cases hlt : k < l.length
    · have hix := HI.out k hlt
      have HY : Hid (okB l[k] = (decide (33 ≤ l[k].toNat) && decide (l[k].toNat ≤ 126))) := rfl
      have HN : Hid (okB l[k] = true → (l.take (k + 1)).all okB = true) := fun h => all_take_succ hlt _ HA.out h
      have HF : Hid (okB l[k] = false → l.all okB = false) := fun h => all_no hlt _ h
      have hx256 := l[k].toNat_lt
      generalize okB l[k] = y at HY HN HF
      generalize l[k].toNat = x at hix HY hx256
      have hkl : (k : Int) < (l.length : Int) := by omega
      cases hb : inB x 33 126
      · have hy : y = false := by rw [HY.out]; unfold inB at hb; simp at hb ⊢; omega
        go_wp2_with (go_at_call 56; refine (within_any _ _ _ _).mono ?_; rintro e w' ⟨rfl, rfl⟩)
        all_goals go_ret
        all_goals exact ⟨by rw [HW.out, HF.out hy]; rfl, rfl⟩
      · have hy : y = true := by rw [HY.out]; unfold inB at hb; simp at hb ⊢; omega
        go_wp2_with (go_at_call 56; refine (within_any _ _ _ _).mono ?_; rintro e w' ⟨rfl, rfl⟩)
        go_roundw
        case rel => exact ⟨k + 1, by omega, by go_num, HN.out hy, by trivial⟩
        case measure => simp [intOf]; omega
    · obtain rfl : k = l.length := by omega
      rw [List.take_length] at HA
      go_wp2
      go_ret
      refine ⟨?_, rfl⟩
      rw [HW.out, HA.out, HL.out, HE.out]; rfl
end Go.Proofs.YtabnanmfojppjaaDoor
