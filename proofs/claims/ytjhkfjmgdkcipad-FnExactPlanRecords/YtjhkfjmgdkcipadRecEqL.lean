/-
  laws.eqRecord, eqRecordS.
-/
import Derived.Test.YtjhkfjmgdkcipadRecBase
import Derived.Test.YtjhkfjmgdkcipadEqEnts
namespace Go.Proofs.Ytjhkfjmgdkcipad
open Go.RowKit
set_option linter.unusedVariables false

/-- the eleven cells of a record -/
def RecAt (w : World) (b off : Nat) (r : Rec) : Prop :=
  w.cell? ⟨b, off, none⟩ = some (.int .i64 r.ki) ∧ w.cell? ⟨b, off + 1, none⟩ = some (.int .i64 r.tm) ∧ w.cell? ⟨b, off + 2, none⟩ = some (.int .i64 r.vo) ∧ w.cell? ⟨b, off + 3, none⟩ = some (.int .i64 r.ix) ∧ w.cell? ⟨b, off + 4, none⟩ = some (.int .i64 r.e.t) ∧ w.cell? ⟨b, off + 5, none⟩ = some (.int .i64 r.e.cl) ∧ w.cell? ⟨b, off + 6, none⟩ = some (.int .i64 r.e.sq) ∧ w.cell? ⟨b, off + 7, none⟩ = some (.int .i64 r.e.op) ∧ w.cell? ⟨b, off + 8, none⟩ = some (.string r.e.k) ∧ w.cell? ⟨b, off + 9, none⟩ = some (.string r.e.v) ∧ w.cell? ⟨b, off + 10, none⟩ = some (.string r.e.o)
theorem RecAt.of {w : World} {b off : Nat} {r : Rec} (h : w.rangeAt b off r.cells) : RecAt w b off r :=
  ⟨h 0 _ rfl, h 1 _ rfl, h 2 _ rfl, h 3 _ rfl, h 4 _ rfl, h 5 _ rfl, h 6 _ rfl, h 7 _ rfl, h 8 _ rfl, h 9 _ rfl, h 10 _ rfl⟩
theorem RecAt.below {w w' : World} {b off : Nat} {r : Rec} (h : w.rangeAt b off r.cells) (hb : Below w.heap.size w w') : RecAt w' b off r := RecAt.of (range_below h hb)

theorem infoRec : (Try.prog.info? 107).map (fun i => (i.zero, i.size, i.bytes)) = some (some (.agg #[.int .i64 0, .int .i64 0, .int .i64 0, .int .i64 0, .int .i64 0, .int .i64 0, .int .i64 0, .int .i64 0, .string .empty, .string .empty, .string .empty]), 11, 112) := by kernel_rfl
theorem sizeRec : (Try.prog.info? 107).map (·.size) = some 11 := by kernel_rfl

set_option maxHeartbeats 2000000 in
set_option maxRecDepth 100000 in
theorem eqRecord_same (r : Rec) (w : World) :
    Calls Try.prog 121 #[.agg r.cells.toArray, .agg r.cells.toArray] w fun x w' => x = .returned (.bool true) ∧ Below w.heap.size w w' := by
  obtain ⟨ki, tm, vo, ix, e⟩ := r
  show Calls Try.prog 121 #[.agg #[.int .i64 ki, .int .i64 tm, .int .i64 vo, .int .i64 ix, .int .i64 e.t, .int .i64 e.cl, .int .i64 e.sq, .int .i64 e.op, .string e.k, .string e.v, .string e.o], .agg #[.int .i64 ki, .int .i64 tm, .int .i64 vo, .int .i64 ix, .int .i64 e.t, .int .i64 e.cl, .int .i64 e.sq, .int .i64 e.op, .string e.k, .string e.v, .string e.o]] w _
  go_enter Try.func121, Try.ntmps121
  go_wp2_with (go_at_call 95; refine (eqEntry_same e _).mono ?_; rintro r w1 ⟨rfl, hb⟩)
  go_ret
  exact ⟨rfl, (((Below.refl _ _).alloc (Nat.le_refl _) _).alloc (by simp) _).trans (hb.mono (by simp; omega))⟩

set_option maxHeartbeats 8000000 in
set_option maxRecDepth 100000 in
theorem eqRecordS_same (v u : Value) (l : List Rec) (w : World) (hv : Sl Rec.cells 11 w v l) (hu : Sl Rec.cells 11 w u l) :
    Calls Try.prog 57 #[v, u] w fun r w' => r = .returned (.bool true) ∧ Below w.heap.size w w' := by
  obtain ⟨hl, a, cap, rfl, hc⟩ := hv
  obtain ⟨_, a', cap', rfl, hc'⟩ := hu
  unfold maxLen at hl
  go_enter Try.func57, Try.ntmps57
  go_wp2
  go_loopw [5] (fun i wr => ∃ k : Nat, k ≤ l.length ∧ i = .int .i64 k ∧ Below w.heap.size w wr) (fun i _ => l.length - (intOf i).toNat)
  case atStart => exact ⟨0, Nat.zero_le _, rfl, Below.refl _ _⟩
  case round =>
    obtain ⟨k, hk, rfl, hB⟩ := hrel
    by_cases hlt : k < l.length
    · obtain ⟨b, off, rfl, hj⟩ := hc k hlt
      obtain ⟨b', off', rfl, hj'⟩ := hc' k hlt
      have hbl := cell_lt (hj k hlt 0 _ rfl)
      have hbl' := cell_lt (hj' k hlt 0 _ rfl)
      obtain ⟨c0, c1, c2, c3, c4, c5, c6, c7, c8, c9, c10⟩ := RecAt.below (hj k hlt) hB
      obtain ⟨d0, d1, d2, d3, d4, d5, d6, d7, d8, d9, d10⟩ := RecAt.below (hj' k hlt) hB
      have hz := hB.size
      clear hc hj hc' hj'
      have HE : ∀ w, Hid (Calls Try.prog 121 #[.agg l[k].cells.toArray, .agg l[k].cells.toArray] w fun x w' => x = .returned (.bool true) ∧ Below w.heap.size w w') := fun w => eqRecord_same l[k] w
      generalize l[k] = r at *
      go_wp2
      go_region_held3 (fun w' => w'.cell? ⟨b, off + k * 11, none⟩ = some (.int .i64 r.ki) ∧ w'.cell? ⟨b, off + k * 11 + 1, none⟩ = some (.int .i64 r.tm) ∧ w'.cell? ⟨b, off + k * 11 + 2, none⟩ = some (.int .i64 r.vo) ∧ w'.cell? ⟨b, off + k * 11 + 3, none⟩ = some (.int .i64 r.ix) ∧ w'.cell? ⟨b, off + k * 11 + 4, none⟩ = some (.int .i64 r.e.t) ∧ w'.cell? ⟨b, off + k * 11 + 5, none⟩ = some (.int .i64 r.e.cl) ∧ w'.cell? ⟨b, off + k * 11 + 6, none⟩ = some (.int .i64 r.e.sq) ∧ w'.cell? ⟨b, off + k * 11 + 7, none⟩ = some (.int .i64 r.e.op) ∧ w'.cell? ⟨b, off + k * 11 + 8, none⟩ = some (.string r.e.k) ∧ w'.cell? ⟨b, off + k * 11 + 9, none⟩ = some (.string r.e.v) ∧ w'.cell? ⟨b, off + k * 11 + 10, none⟩ = some (.string r.e.o) ∧ w'.cell? ⟨b', off' + k * 11, none⟩ = some (.int .i64 r.ki) ∧ w'.cell? ⟨b', off' + k * 11 + 1, none⟩ = some (.int .i64 r.tm) ∧ w'.cell? ⟨b', off' + k * 11 + 2, none⟩ = some (.int .i64 r.vo) ∧ w'.cell? ⟨b', off' + k * 11 + 3, none⟩ = some (.int .i64 r.ix) ∧ w'.cell? ⟨b', off' + k * 11 + 4, none⟩ = some (.int .i64 r.e.t) ∧ w'.cell? ⟨b', off' + k * 11 + 5, none⟩ = some (.int .i64 r.e.cl) ∧ w'.cell? ⟨b', off' + k * 11 + 6, none⟩ = some (.int .i64 r.e.sq) ∧ w'.cell? ⟨b', off' + k * 11 + 7, none⟩ = some (.int .i64 r.e.op) ∧ w'.cell? ⟨b', off' + k * 11 + 8, none⟩ = some (.string r.e.k) ∧ w'.cell? ⟨b', off' + k * 11 + 9, none⟩ = some (.string r.e.v) ∧ w'.cell? ⟨b', off' + k * 11 + 10, none⟩ = some (.string r.e.o)) (simp [*, go_sem])
        (first
          | (go_at_call 121; refine Calls.mono (HE _).out ?_; rintro r w1 ⟨rfl, hb⟩; have q1 := fun (o : Nat) => hb.cell (p := ⟨b, o, none⟩) (show b < wr.heap.size by omega); have q2 := fun (o : Nat) => hb.cell (p := ⟨b', o, none⟩) (show b' < wr.heap.size by omega)))
      all_goals go_wp2
      go_roundw
      case rel => exact ⟨k + 1, by omega, by go_num, hB.trans (((Below.refl _ _).drew).trans (hb.mono hz))⟩
      case measure => simp [intOf]; omega
    · go_wp2
      go_ret
      exact ⟨rfl, hB⟩
end Go.Proofs.Ytjhkfjmgdkcipad
