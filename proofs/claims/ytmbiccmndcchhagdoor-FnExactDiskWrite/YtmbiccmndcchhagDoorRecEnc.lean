/-
  spec.l2recordsOk, spec.EncodeRecords.
-/
import Derived.Test.YtmbiccmndcchhagDoorRecBytes
namespace Go.Proofs.YtmbiccmndcchhagDoor
open Go.RowKit
set_option linter.unusedVariables false

def recsB (l : List Rec) : Bool := decide (l.length ≤ 8192) && l.all recB
def framesL (l : List Rec) : List Int := l.flatMap fun r => frameL (recL r)
/-- what EncodeRecords answers -/
def encRecs (l : List Rec) : List Int := if recsB l = true then framesL l else []

theorem framesL_len {l : List Rec} (h : l.all recB = true) : (framesL l).length ≤ 408 * l.length := by
  induction l with
  | nil => simp [framesL]
  | cons r l ih =>
    simp only [List.all_cons, Bool.and_eq_true] at h
    have h1 := (recL_len h.1).2.2
    have h2 := ih h.2
    simp only [framesL, List.flatMap_cons, List.length_append, List.length_cons] at h2 ⊢
    omega
theorem encRecs_len (l : List Rec) : (encRecs l).length ≤ 3400000 := by
  unfold encRecs
  split
  · next h =>
    simp only [recsB, Bool.and_eq_true, decide_eq_true_eq] at h
    have := framesL_len h.2
    omega
  · simp
theorem all_take_succ (l : List Rec) (k : Nat) (h : k < l.length) : (l.take (k + 1)).all recB = ((l.take k).all recB && recB l[k]) := by
  rw [List.take_succ_eq_append_getElem h, List.all_append]; simp
theorem all_take_false {l : List Rec} {k : Nat} (h : k < l.length) (hk : recB l[k] = false) : l.all recB = false := by
  cases e : l.all recB
  · rfl
  · rw [List.all_eq_true] at e
    rw [e _ (List.getElem_mem h)] at hk
    cases hk
theorem framesL_take (l : List Rec) (k : Nat) (h : k < l.length) : framesL (l.take (k + 1)) = framesL (l.take k) ++ frameL (recL l[k]) := by
  rw [List.take_succ_eq_append_getElem h, framesL, framesL, List.flatMap_append]; simp

set_option maxHeartbeats 4000000 in
set_option maxRecDepth 100000 in
theorem l2recordsOk_any (v : Value) (l : List Rec) (w : World) (hv : Sl Rec.cells 11 w v l) (hf : ∀ r ∈ l, r.e.fits) :
    Calls Tryd.prog 37 #[v] w fun x w' => x = .returned (.bool (recsB l)) ∧ Below w.heap.size w w' := by
  obtain ⟨hl, a, cap, rfl, hc⟩ := hv
  unfold maxLen at hl
  by_cases h8 : (8192 : Int) < l.length
  · have e : recsB l = false := by simp [recsB]; omega
    rw [e]
    go_enter Tryd.func37, Tryd.ntmps37
    go_wp2
    go_ret
    exact ⟨rfl, Below.refl _ _⟩
  · have e : recsB l = l.all recB := by
      have : l.length ≤ 8192 := by omega
      simp [recsB, this]
    rw [e]
    go_enter Tryd.func37, Tryd.ntmps37
    go_wp2
    go_loopw [3] (fun i wr => ∃ k : Nat, k ≤ l.length ∧ i = .int .i64 k ∧ (l.take k).all recB = true ∧ Below w.heap.size w wr) (fun i _ => l.length - (intOf i).toNat)
    case atStart => exact ⟨0, Nat.zero_le _, rfl, rfl, Below.refl _ _⟩
    case round =>
      obtain ⟨k, hk, rfl, hal, hB⟩ := hrel
      have HA : Hid ((l.take k).all recB = true) := hal
      clear hal
      by_cases hlt : k < l.length
      · obtain ⟨b, off, rfl, hj⟩ := hc k hlt
        have hra := range_below (hj k hlt) hB
        have hfk := hf l[k] (List.getElem_mem hlt)
        have hz := hB.size
        clear hc hj
        cases hr : recB l[k]
        · have HF : Hid (l.all recB = false) := all_take_false hlt hr
          go_wp2_with (first
            | (refine gate_load' 93 (.tmp 15) rfl ?_; refine wpList_load_mid rfl 93 (.tmp 15) rfl b (off + k * 11) rfl l[k].cells _ hra Tryd.underlying93 rfl sizeRec ?_)
            | (go_at_call 66; refine (l2recordOk_any l[k] hfk _).mono ?_; rintro x w1 ⟨rfl, hb⟩; rw [hr]))
          go_ret
          exact ⟨ret_bool HF.out.symm, hB.trans (hb.mono hz)⟩
        · have HS : Hid ((l.take (k + 1)).all recB = true) := by
            show _ = _
            rw [all_take_succ l k hlt, HA.out, hr]; rfl
          go_wp2_with (first
            | (refine gate_load' 93 (.tmp 15) rfl ?_; refine wpList_load_mid rfl 93 (.tmp 15) rfl b (off + k * 11) rfl l[k].cells _ hra Tryd.underlying93 rfl sizeRec ?_)
            | (go_at_call 66; refine (l2recordOk_any l[k] hfk _).mono ?_; rintro x w1 ⟨rfl, hb⟩; rw [hr]))
          go_roundw
          case rel => exact ⟨k + 1, by omega, by go_num, HS.out, hB.trans (hb.mono hz)⟩
          case measure => simp [intOf]; omega
      · have e : l.take k = l := List.take_of_length_le (by omega)
        rw [e] at HA
        go_wp2
        go_ret
        exact ⟨ret_bool HA.out.symm, hB⟩

set_option maxHeartbeats 4000000 in
set_option maxRecDepth 100000 in
theorem sEncodeRecords_any (v : Value) (l : List Rec) (w : World) (hv : Sl Rec.cells 11 w v l) (hf : ∀ r ∈ l, r.e.fits) :
    Calls Tryd.prog 34 #[v] w fun e w' => ∃ v', e = .returned v' ∧ Own w' w.heap.size v' (encRecs l) ∧ Below w.heap.size w w' := by
  have HV : Hid (Sl Rec.cells 11 w v l) := hv
  obtain ⟨hl, a, cap, rfl, hc⟩ := hv
  unfold maxLen at hl
  have h0 := Own.lit0 w
  have hb0 : Below w.heap.size w (w.alloc (.cells #[] 5)) := (Below.refl _ _).alloc (Nat.le_refl _) _
  cases hR : recsB l
  · have e : encRecs l = [] := by simp [encRecs, hR]
    rw [e]
    go_enter Tryd.func34, Tryd.ntmps34
    go_wp2_with (go_at_call 37; refine (l2recordsOk_any _ l _ (HV.out.below hb0) hf).mono ?_; rintro x w1 ⟨rfl, hb⟩; rw [hR])
    go_ret
    exact ⟨_, rfl, h0.below hb, hb0.trans (hb.mono (by simp))⟩
  · have e : encRecs l = framesL l := by simp [encRecs, hR]
    rw [e]
    have hR' := hR
    simp only [recsB, Bool.and_eq_true, decide_eq_true_eq, List.all_eq_true] at hR'
    obtain ⟨h8, hall⟩ := hR'
    have HA : Hid (∀ r ∈ l, recB r = true) := hall
    clear hall
    go_enter Tryd.func34, Tryd.ntmps34
    go_wp2_with (go_at_call 37; refine (l2recordsOk_any _ l _ (HV.out.below hb0) hf).mono ?_; rintro x w1 ⟨rfl, hb⟩; rw [hR]; replace h0 := h0.below hb; replace hb0 := hb0.trans (hb.mono (by simp)))
    go_loopw [3, 4] (fun o i wr => ∃ k : Nat, k ≤ l.length ∧ i = .int .i64 k ∧ Own wr w.heap.size o (framesL (l.take k)) ∧ Below w.heap.size w wr) (fun _ i _ => l.length - (intOf i).toNat)
    case atStart => exact ⟨0, Nat.zero_le _, rfl, h0, hb0⟩
    case round =>
      obtain ⟨k, hk, rfl, ho, hB⟩ := hrel
      have hz := hB.size
      by_cases hlt : k < l.length
      · obtain ⟨b, off, rfl, hj⟩ := hc k hlt
        have hra := range_below (hj k hlt) hB
        have hrk := HA.out l[k] (List.getElem_mem hlt)
        obtain ⟨_, _, q3⟩ := recL_len hrk
        have q1 : 0 < (frameL (recL l[k])).length := by simp [frameL, wordL]
        have hfl : (framesL (l.take k)).length ≤ 408 * 8192 := by
          have h := framesL_len (l := l.take k) (by rw [List.all_eq_true]; exact fun r hr => HA.out r (List.mem_of_mem_take hr))
          have h2 : (l.take k).length ≤ 8192 := by rw [List.length_take]; omega
          omega
        have HT : Hid (framesL (l.take (k + 1)) = framesL (l.take k) ++ frameL (recL l[k])) := framesL_take l k hlt
        clear hc hj h0 hb0
        go_wp2_with (first
          | (refine gate_load' 93 (.tmp 19) rfl ?_; refine wpList_load_mid rfl 93 (.tmp 19) rfl b (off + k * 11) rfl l[k].cells _ hra Tryd.underlying93 rfl sizeRec ?_)
          | (go_at_call 64; refine (recBytes_any l[k] hrk _).mono ?_; rintro x w2 ⟨v2, rfl, ho2, hb2⟩; have ho' := ho.below hb2; have hz2 := hb2.size)
          | (at_builtin; refine wpl_append rfl (.tmp 16) (.tmp 21) rfl ho' rfl (ho2.bs (by unfold maxLen; omega)) rfl q1 (by omega) (by omega) ?_; intro v3 w3 ho3 hg3))
        go_roundw
        case rel => exact ⟨k + 1, by omega, by go_num, by rw [HT.out]; exact ho3, hB.trans ((hb2.mono hz).trans (hg3.below ho' (by omega)))⟩
        case measure => simp [intOf]; omega
      · have e : l.take k = l := List.take_of_length_le (by omega)
        rw [e] at ho
        go_wp2
        go_ret
        exact ⟨_, rfl, ho, hB⟩
end Go.Proofs.YtmbiccmndcchhagDoor
