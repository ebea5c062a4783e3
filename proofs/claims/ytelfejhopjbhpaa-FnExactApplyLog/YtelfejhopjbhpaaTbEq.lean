/-
  laws.eqPairS, laws.eqSessionS.
-/
import Derived.Test.YtelfejhopjbhpaaTbBase
import Derived.Deep.RegionHeld3
namespace Go.Proofs.Ytelfejhopjbhpaa
open Go.RowKit Go.Maps
set_option linter.unusedVariables false
set_option linter.unusedSimpArgs false

set_option maxHeartbeats 2000000 in
set_option maxRecDepth 100000 in
theorem eqPair_same (p : Pr) (w : World) :
    Calls Try.prog 69 #[.agg #[.string p.k, .string p.v], .agg #[.string p.k, .string p.v]] w fun x w' => x = .returned (.bool true) ∧ Below w.heap.size w w' := by
  go_enter Try.func69, Try.ntmps69
  go_wp2
  go_ret
  exact ⟨rfl, ((Below.refl _ _).alloc (Nat.le_refl _) _).alloc (by simp) _⟩
set_option maxHeartbeats 8000000 in
set_option maxRecDepth 100000 in
theorem eqPairS_same (v u : Value) (l : List Pr) (w : World) (hv : Sl prC 2 w v l) (hu : Sl prC 2 w u l) :
    Calls Try.prog 38 #[v, u] w fun r w' => r = .returned (.bool true) ∧ Below w.heap.size w w' := by
  have HV : Hid (Sl prC 2 w v l) := hv
  have HU : Hid (Sl prC 2 w u l) := hu
  obtain ⟨hl, a, cap, rfl, _⟩ := hv
  obtain ⟨_, a', cap', rfl, _⟩ := hu
  unfold maxLen at hl
  go_enter Try.func38, Try.ntmps38
  go_wp2
  go_loopw [5] (fun i wr => ∃ k : Nat, k ≤ l.length ∧ i = .int .i64 k ∧ Below w.heap.size w wr) (fun i _ => l.length - (RowKit.intOf i).toNat)
  case atStart => exact ⟨0, Nat.zero_le _, rfl, Below.refl _ _⟩
  case round =>
    obtain ⟨k, hk, rfl, hB⟩ := hrel
    by_cases hlt : k < l.length
    · obtain ⟨b, off, rfl, hj⟩ := Ps.at_ (HV.out.below hB) hlt
      obtain ⟨b', off', rfl, hj'⟩ := Ps.at_ (HU.out.below hB) hlt
      obtain ⟨c0, c1⟩ := hj k hlt
      obtain ⟨d0, d1⟩ := hj' k hlt
      have hbl := cell_lt c0
      have hbl' := cell_lt d0
      have hz := hB.size
      have HE : ∀ w, Hid (Calls Try.prog 69 #[.agg #[.string l[k].k, .string l[k].v], .agg #[.string l[k].k, .string l[k].v]] w fun x w' => x = .returned (.bool true) ∧ Below w.heap.size w w') := fun w => eqPair_same l[k] w
      clear hj hj'
      generalize l[k] = p at *
      go_wp2
      go_region_held3 (fun u => u.cell? ⟨b, off + k * 2, none⟩ = some (.string p.k) ∧ u.cell? ⟨b, off + k * 2 + 1, none⟩ = some (.string p.v) ∧ u.cell? ⟨b', off' + k * 2, none⟩ = some (.string p.k) ∧ u.cell? ⟨b', off' + k * 2 + 1, none⟩ = some (.string p.v)) (simp [*, go_sem])
        (first
          | (go_at_call 69; refine Calls.mono (HE _).out ?_; rintro r w1 ⟨rfl, hb⟩; have q1 := fun (o : Nat) => hb.cell (p := ⟨b, o, none⟩) (show b < wr.heap.size by omega); have q2 := fun (o : Nat) => hb.cell (p := ⟨b', o, none⟩) (show b' < wr.heap.size by omega)))
      all_goals go_wp2
      go_roundw
      case rel => exact ⟨k + 1, by omega, by go_num, hB.trans (((Below.refl _ _).drew).trans (hb.mono hz))⟩
      case measure => simp [RowKit.intOf]; omega
    · go_wp2
      go_ret
      exact ⟨rfl, hB⟩
set_option maxHeartbeats 2000000 in
set_option maxRecDepth 100000 in
theorem eqSession_same (p : Se) (w : World) :
    Calls Try.prog 70 #[.agg #[.int .i64 p.cl, .int .i64 p.sq, .int .i64 p.cd, .string p.v], .agg #[.int .i64 p.cl, .int .i64 p.sq, .int .i64 p.cd, .string p.v]] w fun x w' => x = .returned (.bool true) ∧ Below w.heap.size w w' := by
  go_enter Try.func70, Try.ntmps70
  go_wp2
  go_ret
  exact ⟨rfl, ((Below.refl _ _).alloc (Nat.le_refl _) _).alloc (by simp) _⟩
set_option maxHeartbeats 8000000 in
set_option maxRecDepth 100000 in
theorem eqSessionS_same (v u : Value) (l : List Se) (w : World) (hv : Sl seC 4 w v l) (hu : Sl seC 4 w u l) :
    Calls Try.prog 39 #[v, u] w fun r w' => r = .returned (.bool true) ∧ Below w.heap.size w w' := by
  have HV : Hid (Sl seC 4 w v l) := hv
  have HU : Hid (Sl seC 4 w u l) := hu
  obtain ⟨hl, a, cap, rfl, _⟩ := hv
  obtain ⟨_, a', cap', rfl, _⟩ := hu
  unfold maxLen at hl
  go_enter Try.func39, Try.ntmps39
  go_wp2
  go_loopw [5] (fun i wr => ∃ k : Nat, k ≤ l.length ∧ i = .int .i64 k ∧ Below w.heap.size w wr) (fun i _ => l.length - (RowKit.intOf i).toNat)
  case atStart => exact ⟨0, Nat.zero_le _, rfl, Below.refl _ _⟩
  case round =>
    obtain ⟨k, hk, rfl, hB⟩ := hrel
    by_cases hlt : k < l.length
    · obtain ⟨b, off, rfl, hj⟩ := Ss.at_ (HV.out.below hB) hlt
      obtain ⟨b', off', rfl, hj'⟩ := Ss.at_ (HU.out.below hB) hlt
      obtain ⟨c0, c1, c2, c3⟩ := hj k hlt
      obtain ⟨d0, d1, d2, d3⟩ := hj' k hlt
      have hbl := cell_lt c0
      have hbl' := cell_lt d0
      have hz := hB.size
      have HE : ∀ w, Hid (Calls Try.prog 70 #[.agg #[.int .i64 l[k].cl, .int .i64 l[k].sq, .int .i64 l[k].cd, .string l[k].v], .agg #[.int .i64 l[k].cl, .int .i64 l[k].sq, .int .i64 l[k].cd, .string l[k].v]] w fun x w' => x = .returned (.bool true) ∧ Below w.heap.size w w') := fun w => eqSession_same l[k] w
      clear hj hj'
      generalize l[k] = p at *
      go_wp2
      go_region_held3 (fun u => u.cell? ⟨b, off + k * 4, none⟩ = some (.int .i64 p.cl) ∧ u.cell? ⟨b, off + k * 4 + 1, none⟩ = some (.int .i64 p.sq) ∧ u.cell? ⟨b, off + k * 4 + 2, none⟩ = some (.int .i64 p.cd) ∧ u.cell? ⟨b, off + k * 4 + 3, none⟩ = some (.string p.v) ∧ u.cell? ⟨b', off' + k * 4, none⟩ = some (.int .i64 p.cl) ∧ u.cell? ⟨b', off' + k * 4 + 1, none⟩ = some (.int .i64 p.sq) ∧ u.cell? ⟨b', off' + k * 4 + 2, none⟩ = some (.int .i64 p.cd) ∧ u.cell? ⟨b', off' + k * 4 + 3, none⟩ = some (.string p.v)) (simp [*, go_sem])
        (first
          | (go_at_call 70; refine Calls.mono (HE _).out ?_; rintro r w1 ⟨rfl, hb⟩; have q1 := fun (o : Nat) => hb.cell (p := ⟨b, o, none⟩) (show b < wr.heap.size by omega); have q2 := fun (o : Nat) => hb.cell (p := ⟨b', o, none⟩) (show b' < wr.heap.size by omega)))
      all_goals go_wp2
      go_roundw
      case rel => exact ⟨k + 1, by omega, by go_num, hB.trans (((Below.refl _ _).drew).trans (hb.mono hz))⟩
      case measure => simp [RowKit.intOf]; omega
    · go_wp2
      go_ret
      exact ⟨rfl, hB⟩

end Go.Proofs.Ytelfejhopjbhpaa
