/-
  laws.toByteS: a copy.
-/
import Derived.Test.YtlfnlhbkagjheaaDoorGround
namespace Go.Proofs.YtlfnlhbkagjheaaDoor
open Go.RowKit
set_option linter.unusedVariables false

theorem info5 : (Tryd.prog.info? 5).map (fun i => (i.zero, i.size, i.bytes)) = some (some (.int .u8 0), 1, 1) := by kernel_rfl

theorem made_cell (w : World) (n i : Nat) (hi : i < n) : (w.alloc (.cells (madeCells #[.int .u8 0] n) 5)).cell? ⟨w.heap.size, i, none⟩ = some (.int .u8 0) := by
  rw [World.cell?_alloc_new]
  have h := congrArg (fun l => l[i]?) (toList_madeCells_one (.int .u8 0) n)
  simpa [List.getElem?_replicate, hi] using h

/-- what has been copied after k rounds -/
def Copied (w wr : World) (l : List Int) (k : Nat) : Prop :=
  Below w.heap.size w wr ∧ w.heap.size < wr.heap.size ∧ (∀ i, wr.frozen? ⟨w.heap.size, i, none⟩ = false) ∧
  ∀ i, i < l.length → wr.cell? ⟨w.heap.size, i, none⟩ = some (.int .u8 (if i < k then l[i]?.getD 0 else 0))

theorem Copied.start (w : World) (l : List Int) : Copied w (w.alloc (.cells (madeCells #[.int .u8 0] l.length) 5)) l 0 :=
  ⟨(Below.refl _ _).alloc (Nat.le_refl _) _, by simp, fun i => by simp, fun i hi => by simpa using made_cell w l.length i hi⟩

theorem Copied.step {w wr : World} {l : List Int} {k : Nat} (h : Copied w wr l k) (hk : k < l.length) : Copied w (wr.setCell ⟨w.heap.size, k, none⟩ (.int .u8 (l[k]?.getD 0))) l (k + 1) := by
  obtain ⟨h1, h2, h3, h4⟩ := h
  refine ⟨h1.setCell (Nat.le_refl _) _, by simpa [World.setCell] using h2, fun i => by rw [World.frozen?_setCell]; exact h3 i, fun i hi => ?_⟩
  by_cases e : i = k
  · subst e
    rw [World.cell?_setCell_same wr _ _ (h4 i hi), if_pos (by omega)]
  · rw [World.cell?_setCell_other wr _ _ _ (by intro h; injection h with _ h2 _; exact e h2.symm), h4 i hi]
    by_cases e' : i < k
    · rw [if_pos e', if_pos (by omega)]
    · rw [if_neg e', if_neg (by omega)]

theorem Copied.bs {w wr : World} {l : List Int} (h : Copied w wr l l.length) (hl : l.length ≤ maxLen) (h8 : ∀ x ∈ l, 0 ≤ x ∧ x ≤ 255) : Bs wr (.slice (some ⟨w.heap.size, 0, none⟩) l.length l.length) l :=
  ⟨hl, h8, _, _, rfl, fun i hi => ⟨_, _, rfl, fun j hj => by rw [Nat.zero_add, h.2.2.2 j hj, if_pos hj]⟩⟩

set_option maxHeartbeats 1000000 in
theorem toByteS_free (v : Value) (l : List Int) (w : World) (hv : Bs w v l) (hl' : l.length ≤ 1048576) :
    Calls Tryd.prog 6 #[v] w fun e w' => e = .returned (.slice (some ⟨w.heap.size, 0, none⟩) l.length l.length) ∧ Bs w' (.slice (some ⟨w.heap.size, 0, none⟩) l.length l.length) l ∧ Below w.heap.size w w' ∧ w.heap.size < w'.heap.size ∧ ∀ i, w'.frozen? ⟨w.heap.size, i, none⟩ = false := by
  obtain ⟨hl, h8, a, cap, rfl, hc⟩ := hv
  obtain ⟨i0, hi, hz0, hz1, hz2⟩ := info_parts info5
  have hmk : ∀ u : World, (Instr.makeSlice 22 (.int .i64 (l.length : Int)) (.int .i64 (l.length : Int))).run Tryd.prog u =
      .ok (.slice (some ⟨u.heap.size, 0, none⟩) l.length l.length) (u.alloc (.cells (madeCells #[.int .u8 0] l.length) 5)) := fun u => by
    have h := run_make (P := Tryd.prog) u 22 5 i0 (.int .u8 0) Tryd.underlying22 hi hz0 .i64 .i64 (l.length : Int) (l.length : Int) (by omega) (Int.le_refl _) (by rw [hz2]; omega) (by omega)
    simpa [hz1, Value.cells] using h
  go_enter Tryd.func6, Tryd.ntmps6
  go_wp2
  go_loopw [4] (fun i wr => ∃ k : Nat, k ≤ l.length ∧ i = .int .i64 k ∧ Copied w wr l k) (fun i _ => l.length - (intOf i).toNat)
  case atStart => exact ⟨0, Nat.zero_le _, rfl, Copied.start w l⟩
  case round =>
    obtain ⟨k, hk, rfl, hC⟩ := hrel
    by_cases hlt : k < l.length
    · obtain ⟨b, off, rfl, hcell⟩ := hc k hlt
      have hS := hC.step hlt
      have hck : wr.cell? ⟨b, off + k, none⟩ = some (.int .u8 (l[k]?.getD 0)) := by rw [hC.1.cell (cell_lt (hcell k hlt))]; exact hcell k hlt
      have hok : wr.cell? ⟨w.heap.size, k, none⟩ = some (.int .u8 0) := by rw [hC.2.2.2 k hlt, if_neg (by omega)]
      have hof := hC.2.2.1 k
      clear hcell
      go_wp2
      go_roundw
      case rel => exact ⟨k + 1, by omega, by go_num, by simpa [hlt] using hS⟩
      case measure => simp [intOf]; omega
    · have e : k = l.length := by omega
      subst e
      go_wp2
      go_ret
      exact ⟨rfl, hC.bs hl h8, hC.1, hC.2.1, hC.2.2.1⟩
theorem toByteS_at (v : Value) (l : List Int) (w : World) (hv : Bs w v l) (hl' : l.length ≤ 1048576) :
    Calls Tryd.prog 6 #[v] w fun e w' => e = .returned (.slice (some ⟨w.heap.size, 0, none⟩) l.length l.length) ∧ Bs w' (.slice (some ⟨w.heap.size, 0, none⟩) l.length l.length) l ∧ Below w.heap.size w w' ∧ w.heap.size < w'.heap.size :=
  (toByteS_free v l w hv hl').mono fun e w' ⟨h1, h2, h3, h4, _⟩ => ⟨h1, h2, h3, h4⟩
/-- with a letter for the place -/
theorem toByteS_new (v : Value) (l : List Int) (w : World) (hv : Bs w v l) (hl' : l.length ≤ 1048576) :
    Calls Tryd.prog 6 #[v] w fun e w' => ∃ q, w.heap.size ≤ q ∧ q < w'.heap.size ∧ e = .returned (.slice (some ⟨q, 0, none⟩) l.length l.length) ∧ Bs w' (.slice (some ⟨q, 0, none⟩) l.length l.length) l ∧ Below w.heap.size w w' ∧ ∀ i, w'.frozen? ⟨q, i, none⟩ = false :=
  (toByteS_free v l w hv hl').mono fun e w' ⟨h1, h2, h3, h4, h5⟩ => ⟨_, Nat.le_refl _, h4, h1, h2, h3, h5⟩
theorem toByteS_fit (v : Value) (l : List Int) (w : World) (hv : Bs w v l) (hl' : l.length ≤ 1048576) :
    Calls Tryd.prog 6 #[v] w fun e w' => ∃ a, e = .returned (.slice a l.length l.length) ∧ Bs w' (.slice a l.length l.length) l ∧ Below w.heap.size w w' ∧ w.heap.size < w'.heap.size :=
  (toByteS_at v l w hv hl').mono fun e w' ⟨h1, h2, h3, h4⟩ => ⟨_, h1, h2, h3, h4⟩
theorem toByteS_any (v : Value) (l : List Int) (w : World) (hv : Bs w v l) (hl' : l.length ≤ 1048576) :
    Calls Tryd.prog 6 #[v] w fun e w' => ∃ v', e = .returned v' ∧ Bs w' v' l ∧ Below w.heap.size w w' :=
  (toByteS_at v l w hv hl').mono fun e w' ⟨h1, h2, h3, _⟩ => ⟨_, h1, h2, h3⟩
end Go.Proofs.YtlfnlhbkagjheaaDoor
