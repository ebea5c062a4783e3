/-
  A list of ints as a law takes it: sz, to, eq.
-/
import Derived.Test.YthondmpnleleiaaLawBase
import Derived.Test.YthondmpnleleiaaRowBase
namespace Go.Proofs.Ythondmpnleleiaa
open Go.RowKit
set_option linter.unusedVariables false
set_option linter.unusedSimpArgs false

/-- a slice of ints that holds l -/
def Ix (w : World) (v : Value) (l : List Int) : Prop :=
  l.length ≤ maxLen ∧ ∃ a cap, v = .slice a l.length cap ∧ ∀ i, i < l.length → ∃ b off, a = some ⟨b, off, none⟩ ∧ ∀ j (h : j < l.length), w.cell? ⟨b, off + j, none⟩ = some (.int .i64 l[j])
theorem Ix.below {w w' : World} {v : Value} {l : List Int} (h : Ix w v l) (hb : Below w.heap.size w w') : Ix w' v l := by
  obtain ⟨hl, a, cap, rfl, hc⟩ := h
  refine ⟨hl, a, cap, rfl, fun i hi => ?_⟩
  obtain ⟨b, off, rfl, hj⟩ := hc i hi
  exact ⟨b, off, rfl, fun j hj' => (hb.cell (p := ⟨b, off + j, none⟩) (cell_lt (hj j hj'))).trans (hj j hj')⟩
theorem Ix.nil (w : World) : Ix w (.slice none 0 0) [] := ⟨by simp [maxLen], _, _, rfl, fun i hi => absurd hi (by simp)⟩
/-- ints in memory of one's own: one block of the span -/
structure IntsN (lo hi : Nat) (w : World) (q : Nat) (l : List Int) : Prop where
  ix : Ix w (.slice (some ⟨q, 0, none⟩) l.length l.length) l
  room : w.there q 0 l.length
  lo : lo ≤ q
  hi : q < hi
  in_ : q < w.heap.size
theorem IntsN.keep {w w' : World} {lo hi q : Nat} {l : List Int} (h : IntsN lo hi w q l) (hk : ∀ k, lo ≤ k → k < hi → w'.heap[k]? = w.heap[k]?) : IntsN lo hi w' q l := by
  have hb := hk q h.lo h.hi
  refine ⟨?_, there_block' h.room hb, h.lo, h.hi, ?_⟩
  · obtain ⟨hl, a, cap, e, hc⟩ := h.ix
    injection e with e1 e2 e3
    subst e1 e3
    refine ⟨hl, _, _, rfl, fun i hi' => ?_⟩
    obtain ⟨b, off, e', hr⟩ := hc i hi'
    refine ⟨b, off, e', fun j hj => ?_⟩
    injection e' with e'
    injection e' with e4 e5
    subst e4
    rw [World.cell?_of_block (w := w) hb]
    exact hr j hj
  · rcases Nat.lt_or_ge q w'.heap.size with h' | h'
    · exact h'
    · rw [Array.getElem?_eq_none h'] at hb
      have := h.in_
      rw [Array.getElem?_eq_getElem this] at hb
      cases hb
theorem IntsN.wide {w : World} {lo hi lo' hi' q : Nat} {l : List Int} (h : IntsN lo hi w q l) (h1 : lo' ≤ lo) (h2 : hi ≤ hi') : IntsN lo' hi' w q l := ⟨h.ix, h.room, Nat.le_trans h1 h.lo, Nat.lt_of_lt_of_le h.hi h2, h.in_⟩

set_option maxHeartbeats 1000000 in
theorem szIntS_left (v : Value) (l : List Int) (w : World) (hv : Ix w v l) (left : Int) (h0 : 0 ≤ left) (h1 : left ≤ 1048576) :
    Calls Try.prog 31 #[v, .int .i64 left] w fun r w' => (∃ s : Int, r = .returned (.int .i64 s) ∧ s ≤ 1048576 ∧ (0 ≤ s → l.length ≤ 1048576)) ∧ w' = w := by
  obtain ⟨hl, a, cap, rfl, hc⟩ := hv
  unfold maxLen at hl
  clear hc
  by_cases h : (l.length : Int) ≤ left
  · go_enter Try.func31, Try.ntmps31
    go_wp2
    go_ret
    exact ⟨⟨_, rfl, by omega, by omega⟩, rfl⟩
  · go_enter Try.func31, Try.ntmps31
    go_wp2
    go_ret
    exact ⟨⟨_, rfl, by omega, by omega⟩, rfl⟩

/-- a copy under way -/
structure CopI (w wr : World) (l : List Int) (k : Nat) : Prop where
  below : Below w.heap.size w wr
  size : w.heap.size < wr.heap.size
  there : wr.there w.heap.size 0 l.length
  rows : ∀ j (h : j < l.length), j < k → wr.cell? ⟨w.heap.size, j, none⟩ = some (.int .i64 l[j])
theorem infoInt : (Try.prog.info? 3).map (fun i => (i.zero, i.size, i.bytes)) = some (some (.int .i64 0), 1, 8) := by kernel_rfl

set_option maxHeartbeats 2000000 in
set_option maxRecDepth 100000 in
theorem toIntS_u (v : Value) (l : List Int) (w : World) (hv : Ix w v l) (hl' : l.length ≤ 1048576) :
    Calls Try.prog 37 #[v] w fun x w' => ∃ q, x = .returned (.slice (some ⟨q, 0, none⟩) l.length l.length) ∧ IntsN w.heap.size w'.heap.size w' q l ∧ Below w.heap.size w w' := by
  obtain ⟨hl, a, cap, rfl, hc⟩ := hv
  obtain ⟨i0, hi, hz0, hz1, hz2⟩ := info_parts infoInt
  have hmk : ∀ u : World, (Instr.makeSlice 23 (.int .i64 (l.length : Int)) (.int .i64 (l.length : Int))).run Try.prog u =
      .ok (.slice (some ⟨u.heap.size, 0, none⟩) l.length l.length) (u.alloc (.cells (madeCells #[.int .i64 0] l.length) 3)) := fun u => by
    have h := run_make (P := Try.prog) u 23 3 i0 (.int .i64 0) Try.underlying23 hi hz0 .i64 .i64 (l.length : Int) (l.length : Int) (by omega) (Int.le_refl _) (by rw [hz2]; omega) (by omega)
    simpa [hz1, Value.cells] using h
  go_enter Try.func37, Try.ntmps37
  go_wp2
  go_loopw [4] (fun i wr => ∃ k : Nat, k ≤ l.length ∧ i = .int .i64 k ∧ CopI w wr l k) (fun i _ => l.length - (intOf i).toNat)
  case atStart => exact ⟨0, Nat.zero_le _, rfl, ⟨(Below.refl _ _).alloc (Nat.le_refl _) _, by simp, by have h := there_new' w (madeCells #[.int .i64 0] l.length) 3; rwa [size_madeCells] at h, fun j _ h => absurd h (by omega)⟩⟩
  case round =>
    obtain ⟨k, hk, rfl, hC⟩ := hrel
    have hz := hC.size
    by_cases hlt : k < l.length
    · obtain ⟨b, off, rfl, hcell⟩ := hc k hlt
      have hck : wr.cell? ⟨b, off + k, none⟩ = some (.int .i64 l[k]) := (hC.below.cell (p := ⟨b, off + k, none⟩) (cell_lt (hcell k hlt))).trans (hcell k hlt)
      obtain ⟨y, hy⟩ := there_get' hC.there k hlt
      have hyf := there_free' hC.there k hlt
      have HC : Hid (CopI w (wr.setCell ⟨w.heap.size, k, none⟩ (.int .i64 l[k])) l (k + 1)) := ⟨hC.below.setCell (Nat.le_refl _) _, by simpa [World.setCell] using hC.size, there_set' hC.there _ _ _, fun j hj hjk => by
        by_cases e : j = k
        · subst e
          exact World.cell?_setCell_same wr ⟨w.heap.size, j, none⟩ _ hy
        · rw [World.cell?_setCell_other wr ⟨w.heap.size, k, none⟩ ⟨w.heap.size, j, none⟩ _ (by intro h; injection h with h1 h2; omega)]
          exact hC.rows j hj (by omega)⟩
      clear hcell hC hc
      generalize l[k] = e at *
      go_wp2
      go_roundw
      case rel => exact ⟨k + 1, by omega, by go_num, HC.out⟩
      case measure => simp [intOf]; omega
    · have e : k = l.length := by omega
      subst e
      go_wp2
      go_ret
      exact ⟨w.heap.size, rfl, ⟨⟨hl, _, _, rfl, fun i hi' => ⟨_, _, rfl, fun j hj => by rw [Nat.zero_add]; exact hC.rows j hj hj⟩⟩, hC.there, Nat.le_refl _, hC.size, hC.size⟩, hC.below⟩

set_option maxHeartbeats 2000000 in
set_option maxRecDepth 100000 in
theorem eqIntS_same (v u : Value) (l : List Int) (w : World) (hv : Ix w v l) (hu : Ix w u l) :
    Calls Try.prog 43 #[v, u] w fun r w' => r = .returned (.bool true) ∧ Below w.heap.size w w' := by
  obtain ⟨hl, a, cap, rfl, hc⟩ := hv
  obtain ⟨_, a', cap', rfl, hc'⟩ := hu
  unfold maxLen at hl
  go_enter Try.func43, Try.ntmps43
  go_wp2
  go_loopw [5] (fun i wr => ∃ k : Nat, k ≤ l.length ∧ i = .int .i64 k ∧ ∃ n, wr = w.drewN n) (fun i _ => l.length - (intOf i).toNat)
  case atStart => exact ⟨0, Nat.zero_le _, rfl, 0, rfl⟩
  case round =>
    obtain ⟨k, hk, rfl, n, rfl⟩ := hrel
    by_cases hlt : k < l.length
    · obtain ⟨b, off, rfl, hcell⟩ := hc k hlt
      obtain ⟨b', off', rfl, hcell'⟩ := hc' k hlt
      have hck := hcell k hlt
      have hck' := hcell' k hlt
      clear hcell hcell' hc hc'
      go_wp2
      go_quiet (fail)
      go_wp2
      go_roundw
      case rel => exact ⟨k + 1, by omega, by go_num, _, rfl⟩
      case measure => simp [intOf]; omega
    · have e : k = l.length := by omega
      subst e
      go_wp2
      go_ret
      exact ⟨rfl, rfl, rfl, rfl, Nat.le_refl _, fun _ _ => rfl⟩
end Go.Proofs.Ythondmpnleleiaa
