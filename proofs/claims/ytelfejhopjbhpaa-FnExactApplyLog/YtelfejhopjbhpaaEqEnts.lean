/-
  laws.eqCmd, laws.eqEntry, laws.eqEntryS at equal values.
-/
import Derived.Test.YtelfejhopjbhpaaEntsBase
import Derived.Deep.RegionHeld3
namespace Go.Proofs.Ytelfejhopjbhpaa
open Go.RowKit
set_option linter.unusedVariables false

theorem eqCmd_same (cl sq op : Int) (k v o : ByteArray) (w : World) :
    Calls Try.prog 71 #[.agg #[.int .i64 cl, .int .i64 sq, .int .i64 op, .string k, .string v, .string o], .agg #[.int .i64 cl, .int .i64 sq, .int .i64 op, .string k, .string v, .string o]] w fun r w' =>
      r = .returned (.bool true) ∧ Below w.heap.size w w' := by
  go_enter Try.func71, Try.ntmps71
  go_wp2
  go_ret
  exact ⟨rfl, ((Below.refl _ _).alloc (Nat.le_refl _) _).alloc (by simp) _⟩

set_option maxHeartbeats 1000000 in
theorem eqEntry_same (e : Ent) (w : World) :
    Calls Try.prog 40 #[.agg #[.int .i64 e.t, .int .i64 e.cl, .int .i64 e.sq, .int .i64 e.op, .string e.k, .string e.v, .string e.o], .agg #[.int .i64 e.t, .int .i64 e.cl, .int .i64 e.sq, .int .i64 e.op, .string e.k, .string e.v, .string e.o]] w fun r w' =>
      r = .returned (.bool true) ∧ Below w.heap.size w w' := by
  go_enter Try.func40, Try.ntmps40
  go_wp2_with (go_at_call 71; refine (eqCmd_same _ _ _ _ _ _ _).mono ?_; rintro r w1 ⟨rfl, hb⟩)
  go_ret
  exact ⟨rfl, (((Below.refl _ _).alloc (Nat.le_refl _) _).alloc (by simp) _).trans (hb.mono (by simp; omega))⟩

set_option maxHeartbeats 4000000 in
set_option maxRecDepth 100000 in
theorem eqEntryS_same (v u : Value) (l : List Ent) (w : World) (hv : Es w v l) (hu : Es w u l) :
    Calls Try.prog 14 #[v, u] w fun r w' => r = .returned (.bool true) ∧ Below w.heap.size w w' := by
  obtain ⟨hl, hf, a, cap, rfl, hc⟩ := hv
  obtain ⟨_, _, a', cap', rfl, hc'⟩ := hu
  unfold maxLen at hl
  go_enter Try.func14, Try.ntmps14
  go_wp2
  go_loopw [5] (fun i wr => ∃ k : Nat, k ≤ l.length ∧ i = .int .i64 k ∧ Below w.heap.size w wr) (fun i _ => l.length - (intOf i).toNat)
  case atStart => exact ⟨0, Nat.zero_le _, rfl, Below.refl _ _⟩
  case round =>
    obtain ⟨k, hk, rfl, hB⟩ := hrel
    by_cases hlt : k < l.length
    · obtain ⟨b, off, rfl, hj⟩ := hc k hlt
      obtain ⟨b', off', rfl, hj'⟩ := hc' k hlt
      have hbl := cell_lt (hj k hlt).1
      have hbl' := cell_lt (hj' k hlt).1
      obtain ⟨c0, c1, c2, c3, c4, c5, c6⟩ := (hj k hlt).below hB
      obtain ⟨d0, d1, d2, d3, d4, d5, d6⟩ := (hj' k hlt).below hB
      have hz := hB.size
      clear hc hj hc' hj'
      generalize l[k] = e at *
      go_wp2
      go_region_held3 (fun w' => w'.cell? ⟨b, off + k * 7, none⟩ = some (.int .i64 e.t) ∧ w'.cell? ⟨b, off + k * 7 + 1, none⟩ = some (.int .i64 e.cl) ∧ w'.cell? ⟨b, off + k * 7 + 2, none⟩ = some (.int .i64 e.sq) ∧ w'.cell? ⟨b, off + k * 7 + 3, none⟩ = some (.int .i64 e.op) ∧ w'.cell? ⟨b, off + k * 7 + 4, none⟩ = some (.string e.k) ∧ w'.cell? ⟨b, off + k * 7 + 5, none⟩ = some (.string e.v) ∧ w'.cell? ⟨b, off + k * 7 + 6, none⟩ = some (.string e.o) ∧ w'.cell? ⟨b', off' + k * 7, none⟩ = some (.int .i64 e.t) ∧ w'.cell? ⟨b', off' + k * 7 + 1, none⟩ = some (.int .i64 e.cl) ∧ w'.cell? ⟨b', off' + k * 7 + 2, none⟩ = some (.int .i64 e.sq) ∧ w'.cell? ⟨b', off' + k * 7 + 3, none⟩ = some (.int .i64 e.op) ∧ w'.cell? ⟨b', off' + k * 7 + 4, none⟩ = some (.string e.k) ∧ w'.cell? ⟨b', off' + k * 7 + 5, none⟩ = some (.string e.v) ∧ w'.cell? ⟨b', off' + k * 7 + 6, none⟩ = some (.string e.o)) (simp [*, go_sem])
        (first
          | (go_at_call 40; refine (eqEntry_same e _).mono ?_; rintro r w1 ⟨rfl, hb⟩; have q1 := fun (o : Nat) => hb.cell (p := ⟨b, o, none⟩) (show b < wr.heap.size by omega); have q2 := fun (o : Nat) => hb.cell (p := ⟨b', o, none⟩) (show b' < wr.heap.size by omega)))
      all_goals go_wp2
      go_roundw
      case rel => exact ⟨k + 1, by omega, by go_num, hB.trans (((Below.refl _ _).drew).trans (hb.mono hz))⟩
      case measure => simp [intOf]; omega
    · go_wp2
      go_ret
      exact ⟨rfl, hB⟩
end Go.Proofs.Ytelfejhopjbhpaa
