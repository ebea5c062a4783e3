/-
  laws.toRecord, toRecordS, szRecord, szRecordS.
-/
import Derived.Test.YtmbiccmndcchhagDoorRecEqL
import Derived.Test.YtmbiccmndcchhagDoorEntOne
namespace Go.Proofs.YtmbiccmndcchhagDoor
open Go.RowKit
set_option linter.unusedVariables false

theorem sizeRecL : (Tryd.prog.info? 88).map (·.size) = some 11 := by kernel_rfl

set_option maxHeartbeats 4000000 in
set_option maxRecDepth 100000 in
theorem toRecord_any (r : Rec) (w : World) :
    Calls Tryd.prog 55 #[.agg r.cells.toArray] w fun x w' => x = .returned (.agg r.cells.toArray) ∧ Below w.heap.size w w' := by
  obtain ⟨ki, tm, vo, ix, e⟩ := r
  show Calls Tryd.prog 55 #[.agg #[.int .i64 ki, .int .i64 tm, .int .i64 vo, .int .i64 ix, .int .i64 e.t, .int .i64 e.cl, .int .i64 e.sq, .int .i64 e.op, .string e.k, .string e.v, .string e.o]] w _
  go_enter Tryd.func55, Tryd.ntmps55
  go_wp2_with (go_at_call 82; refine (toEntry_any e _).mono ?_; rintro x w1 ⟨rfl, hb⟩; obtain ⟨hc, hf⟩ := bcell hb; have hz : w.heap.size + 1 + 1 < w1.heap.size := (by have := hb.size; simp at this; omega))
  refine bodyPost_ret (v := .agg #[.int .i64 ki, .int .i64 tm, .int .i64 vo, .int .i64 ix, .int .i64 e.t, .int .i64 e.cl, .int .i64 e.sq, .int .i64 e.op, .string e.k, .string e.v, .string e.o]) (by simp [results, Tryd.results55, go_sem, hc]) rfl ⟨rfl, ?_⟩
  have hB0 : Below w.heap.size w w1 := ((((Below.refl _ _).alloc (Nat.le_refl _) _).alloc (by simp) _).alloc (by simp; omega) _).trans (hb.mono (by simp; omega))
  exact below_setCells' (show w.heap.size ≤ w.heap.size + 1 by omega) [.int .i64 ki, .int .i64 tm, .int .i64 vo, .int .i64 ix, .int .i64 e.t, .int .i64 e.cl, .int .i64 e.sq, .int .i64 e.op, .string e.k, .string e.v, .string e.o] 0 _ (below_setCells' (show w.heap.size ≤ w.heap.size + 1 + 1 by omega) [.int .i64 e.t, .int .i64 e.cl, .int .i64 e.sq, .int .i64 e.op, .string e.k, .string e.v, .string e.o] 4 _ hB0)


set_option maxHeartbeats 4000000 in
set_option maxRecDepth 100000 in
theorem toRecordS_any (v : Value) (l : List Rec) (w : World) (hv : Sl Rec.cells 11 w v l) (hl' : l.length ≤ 1048576) :
    Calls Tryd.prog 24 #[v] w fun x w' => x = .returned (.slice (some ⟨w.heap.size, 0, none⟩) l.length l.length) ∧ CopiedG Rec.cells 11 w w' l l.length := by
  obtain ⟨hl, a, cap, rfl, hc⟩ := hv
  obtain ⟨i0, hi, hz0, hz1, hz2⟩ := info_parts infoRec
  have hmk : ∀ u : World, (Instr.makeSlice 25 (.int .i64 (l.length : Int)) (.int .i64 (l.length : Int))).run Tryd.prog u =
      .ok (.slice (some ⟨u.heap.size, 0, none⟩) l.length l.length) (u.alloc (.cells (madeCells #[.int .i64 0, .int .i64 0, .int .i64 0, .int .i64 0, .int .i64 0, .int .i64 0, .int .i64 0, .int .i64 0, .string .empty, .string .empty, .string .empty] (l.length * 11)) 93)) := fun u => by
    have h := run_make (P := Tryd.prog) u 25 93 i0 _ Tryd.underlying25 hi hz0 .i64 .i64 (l.length : Int) (l.length : Int) (by omega) (Int.le_refl _) (by rw [hz2]; omega) (by omega)
    simpa [hz1, Value.cells] using h
  go_enter Tryd.func24, Tryd.ntmps24
  go_wp2
  go_loopw [4] (fun i wr => ∃ k : Nat, k ≤ l.length ∧ i = .int .i64 k ∧ CopiedG Rec.cells 11 w wr l k) (fun i _ => l.length - (intOf i).toNat)
  case atStart => exact ⟨0, Nat.zero_le _, rfl, CopiedG.start _ _ w l _ _⟩
  case round =>
    obtain ⟨k, hk, rfl, hC⟩ := hrel
    by_cases hlt : k < l.length
    · obtain ⟨b, off, rfl, hj⟩ := hc k hlt
      have hra := range_below (hj k hlt) hC.below
      have hlt' : (k : Int) < (l.length : Int) := by omega
      clear hc hj
      go_wp2_with (first
        | (refine gate_load' 88 (.tmp 18) rfl ?_; refine wpList_load_mid rfl 88 (.tmp 18) rfl b (off + k * 11) rfl l[k].cells _ hra Tryd.underlying88 rfl sizeRecL ?_)
        | (go_at_call 55; refine (toRecord_any l[k] _).mono ?_; rintro x w1 ⟨rfl, hb⟩; have hC1 := hC.later hb; have hth := there_sub hC1.there (k * 11) 11 (row_le hlt (Nat.le_refl _)))
        | (refine gate_store' 93 (.tmp 21) (.tmp 20) rfl ?_; refine wpList_store_mid rfl 93 (.tmp 21) (.tmp 20) rfl w.heap.size (k * 11) l[k].cells.toArray rfl rfl hth sizeRec (by simp [Rec.cells, Value.oneCell']) ?_))
      go_roundw
      case rel => exact ⟨k + 1, by omega, by go_num, hC1.step hlt Rec.cells_len⟩
      case measure => simp [intOf]; omega
    · have e : k = l.length := by omega
      subst e
      go_wp2
      go_ret
      exact ⟨rfl, hC⟩

set_option maxHeartbeats 2000000 in
set_option maxRecDepth 100000 in
theorem szRecord_any (r : Rec) (left : Int) (hl : 0 ≤ left) (hl' : left ≤ 1048576) (hf : r.e.fits) (w : World) :
    Calls Tryd.prog 54 #[.agg r.cells.toArray, .int .i64 left] w fun x w' => (∃ s : Int, x = .returned (.int .i64 s) ∧ s ≤ left) ∧ Below w.heap.size w w' := by
  obtain ⟨ki, tm, vo, ix, e⟩ := r
  show Calls Tryd.prog 54 #[.agg #[.int .i64 ki, .int .i64 tm, .int .i64 vo, .int .i64 ix, .int .i64 e.t, .int .i64 e.cl, .int .i64 e.sq, .int .i64 e.op, .string e.k, .string e.v, .string e.o], .int .i64 left] w _
  go_enter Tryd.func54, Tryd.ntmps54
  go_wp2_with (go_at_call 81; refine (szEntry_any e _ hl hl' hf _).mono ?_; rintro r w1 ⟨⟨s, rfl, hs⟩, hb⟩)
  all_goals go_ret
  all_goals refine ⟨⟨_, rfl, ?_⟩, ((Below.refl _ _).alloc (Nat.le_refl _) _).trans (hb.mono (by simp))⟩
  all_goals omega

set_option maxHeartbeats 2000000 in
set_option maxRecDepth 100000 in
theorem szRecordS_any (v : Value) (l : List Rec) (w : World) (hv : Sl Rec.cells 11 w v l) (hf : ∀ r ∈ l, r.e.fits) :
    Calls Tryd.prog 23 #[v, .int .i64 1048576] w fun r w' =>
      (∃ s : Int, r = .returned (.int .i64 s) ∧ s ≤ 1048576 ∧ (0 ≤ s → l.length ≤ 1048576)) ∧ Below w.heap.size w w' := by
  obtain ⟨hl, a, cap, rfl, hc⟩ := hv
  unfold maxLen at hl
  go_enter Tryd.func23, Tryd.ntmps23
  go_wp2
  · go_ret
    exact ⟨⟨_, rfl, by omega, by omega⟩, Below.refl _ _⟩
  · go_loopw [1, 5] (fun s i wr => ∃ (k : Nat) (x : Int), k ≤ l.length ∧ i = .int .i64 k ∧ s = .int .i64 x ∧ 0 ≤ x ∧ x ≤ 1048576 ∧ Below w.heap.size w wr) (fun _ i _ => l.length - (intOf i).toNat)
    case atStart => exact ⟨0, _, Nat.zero_le _, rfl, rfl, by omega, by omega, Below.refl _ _⟩
    case round =>
      obtain ⟨k, x, hk, rfl, rfl, hx, hx', hB⟩ := hrel
      by_cases hlt : k < l.length
      · obtain ⟨b, off, rfl, hj⟩ := hc k hlt
        have hra := range_below (hj k hlt) hB
        have hfk := hf l[k] (List.getElem_mem hlt)
        have hsz := hB.size
        clear hc hj
        go_wp2_with (first
          | (refine gate_load' 88 (.tmp 20) rfl ?_; refine wpList_load_mid rfl 88 (.tmp 20) rfl b (off + k * 11) rfl l[k].cells _ hra Tryd.underlying88 rfl sizeRecL ?_)
          | (go_at_call 54; refine (szRecord_any l[k] _ hx hx' hfk _).mono ?_; rintro r w1 ⟨⟨s, rfl, hs⟩, hb⟩))
        · go_ret
          exact ⟨⟨_, rfl, by omega, by omega⟩, hB.trans (hb.mono (by omega))⟩
        · go_roundw
          case rel => exact ⟨k + 1, s, by omega, by go_num, rfl, by omega, by omega, hB.trans (hb.mono (by omega))⟩
          case measure => simp [intOf]; omega
      · go_wp2
        go_ret
        exact ⟨⟨_, rfl, by omega, by omega⟩, hB⟩
end Go.Proofs.YtmbiccmndcchhagDoor
