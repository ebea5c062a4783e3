/-
  laws.toRecord, toRecordS, szRecord, szRecordS, eqRecord, eqRecordS.
-/
import Derived.Test.YtdobgdbceonjkaeDoorRecBase
import Derived.Test.YtdobgdbceonjkaeDoorEntOne
import Derived.Test.YtdobgdbceonjkaeDoorEqEnts
namespace Go.Proofs.YtdobgdbceonjkaeDoor
open Go.RowKit
set_option linter.unusedVariables false

/-- the eleven cells of a record -/
def RecAt (w : World) (b off : Nat) (r : Rec) : Prop :=
  w.cell? ⟨b, off, none⟩ = some (.int .i64 r.ki) ∧ w.cell? ⟨b, off + 1, none⟩ = some (.int .i64 r.tm) ∧ w.cell? ⟨b, off + 2, none⟩ = some (.int .i64 r.vo) ∧ w.cell? ⟨b, off + 3, none⟩ = some (.int .i64 r.ix) ∧ w.cell? ⟨b, off + 4, none⟩ = some (.int .i64 r.e.t) ∧ w.cell? ⟨b, off + 5, none⟩ = some (.int .i64 r.e.cl) ∧ w.cell? ⟨b, off + 6, none⟩ = some (.int .i64 r.e.sq) ∧ w.cell? ⟨b, off + 7, none⟩ = some (.int .i64 r.e.op) ∧ w.cell? ⟨b, off + 8, none⟩ = some (.string r.e.k) ∧ w.cell? ⟨b, off + 9, none⟩ = some (.string r.e.v) ∧ w.cell? ⟨b, off + 10, none⟩ = some (.string r.e.o)
theorem RecAt.of {w : World} {b off : Nat} {r : Rec} (h : w.rangeAt b off r.cells) : RecAt w b off r :=
  ⟨h 0 _ rfl, h 1 _ rfl, h 2 _ rfl, h 3 _ rfl, h 4 _ rfl, h 5 _ rfl, h 6 _ rfl, h 7 _ rfl, h 8 _ rfl, h 9 _ rfl, h 10 _ rfl⟩
theorem RecAt.below {w w' : World} {b off : Nat} {r : Rec} (h : w.rangeAt b off r.cells) (hb : Below w.heap.size w w') : RecAt w' b off r := RecAt.of (range_below h hb)

set_option maxHeartbeats 4000000 in
set_option maxRecDepth 100000 in
theorem toRecord_any (r : Rec) (w : World) :
    Calls Tryd.prog 32 #[.agg r.cells.toArray] w fun x w' => x = .returned (.agg r.cells.toArray) ∧ Below w.heap.size w w' := by
  obtain ⟨ki, tm, vo, ix, e⟩ := r
  show Calls Tryd.prog 32 #[.agg #[.int .i64 ki, .int .i64 tm, .int .i64 vo, .int .i64 ix, .int .i64 e.t, .int .i64 e.cl, .int .i64 e.sq, .int .i64 e.op, .string e.k, .string e.v, .string e.o]] w _
  go_enter Tryd.func32, Tryd.ntmps32
  go_wp2_with (go_at_call 55; refine (toEntry_any e _).mono ?_; rintro x w1 ⟨rfl, hb⟩; obtain ⟨hc, hf⟩ := bcell hb; have hz : w.heap.size + 1 + 1 < w1.heap.size := (by have := hb.size; simp at this; omega))
  refine bodyPost_ret (v := .agg #[.int .i64 ki, .int .i64 tm, .int .i64 vo, .int .i64 ix, .int .i64 e.t, .int .i64 e.cl, .int .i64 e.sq, .int .i64 e.op, .string e.k, .string e.v, .string e.o]) (by simp [results, Tryd.results32, go_sem, hc]) rfl ⟨rfl, ?_⟩
  have hB0 : Below w.heap.size w w1 := ((((Below.refl _ _).alloc (Nat.le_refl _) _).alloc (by simp) _).alloc (by simp; omega) _).trans (hb.mono (by simp; omega))
  exact below_setCells' (show w.heap.size ≤ w.heap.size + 1 by omega) [.int .i64 ki, .int .i64 tm, .int .i64 vo, .int .i64 ix, .int .i64 e.t, .int .i64 e.cl, .int .i64 e.sq, .int .i64 e.op, .string e.k, .string e.v, .string e.o] 0 _ (below_setCells' (show w.heap.size ≤ w.heap.size + 1 + 1 by omega) [.int .i64 e.t, .int .i64 e.cl, .int .i64 e.sq, .int .i64 e.op, .string e.k, .string e.v, .string e.o] 4 _ hB0)

theorem infoRec : (Tryd.prog.info? 77).map (fun i => (i.zero, i.size, i.bytes)) = some (some (.agg #[.int .i64 0, .int .i64 0, .int .i64 0, .int .i64 0, .int .i64 0, .int .i64 0, .int .i64 0, .int .i64 0, .string .empty, .string .empty, .string .empty]), 11, 112) := by kernel_rfl
theorem sizeRec : (Tryd.prog.info? 77).map (·.size) = some 11 := by kernel_rfl
theorem sizeRecL : (Tryd.prog.info? 73).map (·.size) = some 11 := by kernel_rfl

set_option maxHeartbeats 4000000 in
set_option maxRecDepth 100000 in
theorem toRecordS_any (v : Value) (l : List Rec) (w : World) (hv : Sl Rec.cells 11 w v l) (hl' : l.length ≤ 1048576) :
    Calls Tryd.prog 15 #[v] w fun x w' => x = .returned (.slice (some ⟨w.heap.size, 0, none⟩) l.length l.length) ∧ CopiedG Rec.cells 11 w w' l l.length := by
  obtain ⟨hl, a, cap, rfl, hc⟩ := hv
  obtain ⟨i0, hi, hz0, hz1, hz2⟩ := info_parts infoRec
  have hmk : ∀ u : World, (Instr.makeSlice 38 (.int .i64 (l.length : Int)) (.int .i64 (l.length : Int))).run Tryd.prog u =
      .ok (.slice (some ⟨u.heap.size, 0, none⟩) l.length l.length) (u.alloc (.cells (madeCells #[.int .i64 0, .int .i64 0, .int .i64 0, .int .i64 0, .int .i64 0, .int .i64 0, .int .i64 0, .int .i64 0, .string .empty, .string .empty, .string .empty] (l.length * 11)) 77)) := fun u => by
    have h := run_make (P := Tryd.prog) u 38 77 i0 _ Tryd.underlying38 hi hz0 .i64 .i64 (l.length : Int) (l.length : Int) (by omega) (Int.le_refl _) (by rw [hz2]; omega) (by omega)
    simpa [hz1, Value.cells] using h
  go_enter Tryd.func15, Tryd.ntmps15
  go_wp2
  go_loopw [4] (fun i wr => ∃ k : Nat, k ≤ l.length ∧ i = .int .i64 k ∧ CopiedG Rec.cells 11 w wr l k) (fun i _ => l.length - (intOf i).toNat)
  case atStart => exact ⟨0, Nat.zero_le _, rfl, CopiedG.start _ _ w l _ _⟩
  case round =>
    obtain ⟨k, hk, rfl, hC⟩ := hrel
    by_cases hlt : k < l.length
    · obtain ⟨b, off, rfl, hj⟩ := hc k hlt
      have hra := range_below (hj k hlt) hC.below
      have hlt' : (k : Int) < (l.length : Int) := by omega
      clear hc hj
      go_wp2_with (first
        | (refine gate_load' 73 (.tmp 18) rfl ?_; refine wpList_load_mid rfl 73 (.tmp 18) rfl b (off + k * 11) rfl l[k].cells _ hra Tryd.underlying73 rfl sizeRecL ?_)
        | (go_at_call 32; refine (toRecord_any l[k] _).mono ?_; rintro x w1 ⟨rfl, hb⟩; have hC1 := hC.later hb; have hth := there_sub hC1.there (k * 11) 11 (row_le hlt (Nat.le_refl _)))
        | (refine gate_store' 77 (.tmp 21) (.tmp 20) rfl ?_; refine wpList_store_mid rfl 77 (.tmp 21) (.tmp 20) rfl w.heap.size (k * 11) l[k].cells.toArray rfl rfl hth sizeRec (by simp [Rec.cells, Value.oneCell']) ?_))
      go_roundw
      case rel => exact ⟨k + 1, by omega, by go_num, hC1.step hlt Rec.cells_len⟩
      case measure => simp [intOf]; omega
    · have e : k = l.length := by omega
      subst e
      go_wp2
      go_ret
      exact ⟨rfl, hC⟩

set_option maxHeartbeats 2000000 in
set_option maxRecDepth 100000 in
theorem szRecord_any (r : Rec) (left : Int) (hl : 0 ≤ left) (hl' : left ≤ 1048576) (hf : r.e.fits) (w : World) :
    Calls Tryd.prog 29 #[.agg r.cells.toArray, .int .i64 left] w fun x w' => (∃ s : Int, x = .returned (.int .i64 s) ∧ s ≤ left) ∧ Below w.heap.size w w' := by
  obtain ⟨ki, tm, vo, ix, e⟩ := r
  show Calls Tryd.prog 29 #[.agg #[.int .i64 ki, .int .i64 tm, .int .i64 vo, .int .i64 ix, .int .i64 e.t, .int .i64 e.cl, .int .i64 e.sq, .int .i64 e.op, .string e.k, .string e.v, .string e.o], .int .i64 left] w _
  go_enter Tryd.func29, Tryd.ntmps29
  go_wp2_with (go_at_call 50; refine (szEntry_any e _ hl hl' hf _).mono ?_; rintro r w1 ⟨⟨s, rfl, hs⟩, hb⟩)
  all_goals go_ret
  all_goals refine ⟨⟨_, rfl, ?_⟩, ((Below.refl _ _).alloc (Nat.le_refl _) _).trans (hb.mono (by simp))⟩
  all_goals omega

set_option maxHeartbeats 2000000 in
set_option maxRecDepth 100000 in
theorem szRecordS_any (v : Value) (l : List Rec) (w : World) (hv : Sl Rec.cells 11 w v l) (hf : ∀ r ∈ l, r.e.fits) :
    Calls Tryd.prog 13 #[v, .int .i64 1048576] w fun r w' =>
      (∃ s : Int, r = .returned (.int .i64 s) ∧ s ≤ 1048576 ∧ (0 ≤ s → l.length ≤ 1048576)) ∧ Below w.heap.size w w' := by
  obtain ⟨hl, a, cap, rfl, hc⟩ := hv
  unfold maxLen at hl
  go_enter Tryd.func13, Tryd.ntmps13
  go_wp2
  · go_ret
    exact ⟨⟨_, rfl, by omega, by omega⟩, Below.refl _ _⟩
  · go_loopw [1, 5] (fun s i wr => ∃ (k : Nat) (x : Int), k ≤ l.length ∧ i = .int .i64 k ∧ s = .int .i64 x ∧ 0 ≤ x ∧ x ≤ 1048576 ∧ Below w.heap.size w wr) (fun _ i _ => l.length - (intOf i).toNat)
    case atStart => exact ⟨0, _, Nat.zero_le _, rfl, rfl, by omega, by omega, Below.refl _ _⟩
    case round =>
      obtain ⟨k, x, hk, rfl, rfl, hx, hx', hB⟩ := hrel
      by_cases hlt : k < l.length
      · obtain ⟨b, off, rfl, hj⟩ := hc k hlt
        have hra := range_below (hj k hlt) hB
        have hfk := hf l[k] (List.getElem_mem hlt)
        have hsz := hB.size
        clear hc hj
        go_wp2_with (first
          | (refine gate_load' 73 (.tmp 20) rfl ?_; refine wpList_load_mid rfl 73 (.tmp 20) rfl b (off + k * 11) rfl l[k].cells _ hra Tryd.underlying73 rfl sizeRecL ?_)
          | (go_at_call 29; refine (szRecord_any l[k] _ hx hx' hfk _).mono ?_; rintro r w1 ⟨⟨s, rfl, hs⟩, hb⟩))
        · go_ret
          exact ⟨⟨_, rfl, by omega, by omega⟩, hB.trans (hb.mono (by omega))⟩
        · go_roundw
          case rel => exact ⟨k + 1, s, by omega, by go_num, rfl, by omega, by omega, hB.trans (hb.mono (by omega))⟩
          case measure => simp [intOf]; omega
      · go_wp2
        go_ret
        exact ⟨⟨_, rfl, by omega, by omega⟩, hB⟩

set_option maxHeartbeats 2000000 in
set_option maxRecDepth 100000 in
theorem eqRecord_same (r : Rec) (w : World) :
    Calls Tryd.prog 34 #[.agg r.cells.toArray, .agg r.cells.toArray] w fun x w' => x = .returned (.bool true) ∧ Below w.heap.size w w' := by
  obtain ⟨ki, tm, vo, ix, e⟩ := r
  show Calls Tryd.prog 34 #[.agg #[.int .i64 ki, .int .i64 tm, .int .i64 vo, .int .i64 ix, .int .i64 e.t, .int .i64 e.cl, .int .i64 e.sq, .int .i64 e.op, .string e.k, .string e.v, .string e.o], .agg #[.int .i64 ki, .int .i64 tm, .int .i64 vo, .int .i64 ix, .int .i64 e.t, .int .i64 e.cl, .int .i64 e.sq, .int .i64 e.op, .string e.k, .string e.v, .string e.o]] w _
  go_enter Tryd.func34, Tryd.ntmps34
  go_wp2_with (go_at_call 58; refine (eqEntry_same e _).mono ?_; rintro r w1 ⟨rfl, hb⟩)
  go_ret
  exact ⟨rfl, (((Below.refl _ _).alloc (Nat.le_refl _) _).alloc (by simp) _).trans (hb.mono (by simp; omega))⟩

set_option maxHeartbeats 8000000 in
set_option maxRecDepth 100000 in
theorem eqRecordS_same (v u : Value) (l : List Rec) (w : World) (hv : Sl Rec.cells 11 w v l) (hu : Sl Rec.cells 11 w u l) :
    Calls Tryd.prog 17 #[v, u] w fun r w' => r = .returned (.bool true) ∧ Below w.heap.size w w' := by
  obtain ⟨hl, a, cap, rfl, hc⟩ := hv
  obtain ⟨_, a', cap', rfl, hc'⟩ := hu
  unfold maxLen at hl
  go_enter Tryd.func17, Tryd.ntmps17
  go_wp2
  go_loopw [5] (fun i wr => ∃ k : Nat, k ≤ l.length ∧ i = .int .i64 k ∧ Below w.heap.size w wr) (fun i _ => l.length - (intOf i).toNat)
  case atStart => exact ⟨0, Nat.zero_le _, rfl, Below.refl _ _⟩
  case round =>
    obtain ⟨k, hk, rfl, hB⟩ := hrel
    by_cases hlt : k < l.length
    · obtain ⟨b, off, rfl, hj⟩ := hc k hlt
      obtain ⟨b', off', rfl, hj'⟩ := hc' k hlt
      have hbl := cell_lt (hj k hlt 0 _ rfl)
      have hbl' := cell_lt (hj' k hlt 0 _ rfl)
      obtain ⟨c0, c1, c2, c3, c4, c5, c6, c7, c8, c9, c10⟩ := RecAt.below (hj k hlt) hB
      obtain ⟨d0, d1, d2, d3, d4, d5, d6, d7, d8, d9, d10⟩ := RecAt.below (hj' k hlt) hB
      have hz := hB.size
      clear hc hj hc' hj'
      have HE : ∀ w, Hid (Calls Tryd.prog 34 #[.agg l[k].cells.toArray, .agg l[k].cells.toArray] w fun x w' => x = .returned (.bool true) ∧ Below w.heap.size w w') := fun w => eqRecord_same l[k] w
      generalize l[k] = r at *
      go_wp2
      go_region_held3 (fun w' => w'.cell? ⟨b, off + k * 11, none⟩ = some (.int .i64 r.ki) ∧ w'.cell? ⟨b, off + k * 11 + 1, none⟩ = some (.int .i64 r.tm) ∧ w'.cell? ⟨b, off + k * 11 + 2, none⟩ = some (.int .i64 r.vo) ∧ w'.cell? ⟨b, off + k * 11 + 3, none⟩ = some (.int .i64 r.ix) ∧ w'.cell? ⟨b, off + k * 11 + 4, none⟩ = some (.int .i64 r.e.t) ∧ w'.cell? ⟨b, off + k * 11 + 5, none⟩ = some (.int .i64 r.e.cl) ∧ w'.cell? ⟨b, off + k * 11 + 6, none⟩ = some (.int .i64 r.e.sq) ∧ w'.cell? ⟨b, off + k * 11 + 7, none⟩ = some (.int .i64 r.e.op) ∧ w'.cell? ⟨b, off + k * 11 + 8, none⟩ = some (.string r.e.k) ∧ w'.cell? ⟨b, off + k * 11 + 9, none⟩ = some (.string r.e.v) ∧ w'.cell? ⟨b, off + k * 11 + 10, none⟩ = some (.string r.e.o) ∧ w'.cell? ⟨b', off' + k * 11, none⟩ = some (.int .i64 r.ki) ∧ w'.cell? ⟨b', off' + k * 11 + 1, none⟩ = some (.int .i64 r.tm) ∧ w'.cell? ⟨b', off' + k * 11 + 2, none⟩ = some (.int .i64 r.vo) ∧ w'.cell? ⟨b', off' + k * 11 + 3, none⟩ = some (.int .i64 r.ix) ∧ w'.cell? ⟨b', off' + k * 11 + 4, none⟩ = some (.int .i64 r.e.t) ∧ w'.cell? ⟨b', off' + k * 11 + 5, none⟩ = some (.int .i64 r.e.cl) ∧ w'.cell? ⟨b', off' + k * 11 + 6, none⟩ = some (.int .i64 r.e.sq) ∧ w'.cell? ⟨b', off' + k * 11 + 7, none⟩ = some (.int .i64 r.e.op) ∧ w'.cell? ⟨b', off' + k * 11 + 8, none⟩ = some (.string r.e.k) ∧ w'.cell? ⟨b', off' + k * 11 + 9, none⟩ = some (.string r.e.v) ∧ w'.cell? ⟨b', off' + k * 11 + 10, none⟩ = some (.string r.e.o)) (simp [*, go_sem])
        (first
          | (go_at_call 34; refine Calls.mono (HE _).out ?_; rintro r w1 ⟨rfl, hb⟩; have q1 := fun (o : Nat) => hb.cell (p := ⟨b, o, none⟩) (show b < wr.heap.size by omega); have q2 := fun (o : Nat) => hb.cell (p := ⟨b', o, none⟩) (show b' < wr.heap.size by omega)))
      all_goals go_wp2
      go_roundw
      case rel => exact ⟨k + 1, by omega, by go_num, hB.trans (((Below.refl _ _).drew).trans (hb.mono hz))⟩
      case measure => simp [intOf]; omega
    · go_wp2
      go_ret
      exact ⟨rfl, hB⟩
end Go.Proofs.YtdobgdbceonjkaeDoor
