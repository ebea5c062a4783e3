/-
  laws.eqStep, eqStepS, eqIntS, eqSetup, eqScript.
-/
import Derived.Test.YtanpindbhdeomaaGreatDoorGround
import Derived.Test.YtanpindbhdeomaaGreatDoorRowBase
import Derived.Test.YtanpindbhdeomaaGreatDoorIxB
import Derived.Test.YtanpindbhdeomaaGreatDoorBlk
import Derived.Test.YtanpindbhdeomaaGreatDoorEqCmd
import Derived.Deep.RegionHeld3
import Derived.Deep.QuietTactic
import Derived.BigQuiet
import Derived.Laws.MakeOwn
namespace Go.Proofs.YtanpindbhdeomaaGreatDoor
open Go.RowKit
set_option linter.unusedVariables false
set_option linter.unusedSimpArgs false

theorem sizeSt : (Tryz.prog.info? 48).map (·.size) = some 10 := by kernel_rfl
set_option maxHeartbeats 4000000 in
set_option maxRecDepth 100000 in
theorem eqStep_same (kd xa xb xc cl sq op : Int) (k v o : ByteArray) (w : World) :
    Calls Tryz.prog 51 #[.agg #[.int .i64 kd, .int .i64 xa, .int .i64 xb, .int .i64 xc, .int .i64 cl, .int .i64 sq, .int .i64 op, .string k, .string v, .string o], .agg #[.int .i64 kd, .int .i64 xa, .int .i64 xb, .int .i64 xc, .int .i64 cl, .int .i64 sq, .int .i64 op, .string k, .string v, .string o]] w fun e w' => e = .returned (.bool true) ∧ Below w.heap.size w w' := by
  go_enter Tryz.func51, Tryz.ntmps51
  go_wp2_with (go_at_call 69; refine (eqCmd_same _ _ _ _ _ _ _).mono ?_; rintro e w1 ⟨rfl, hb1⟩; have HB : Below w.heap.size w w1 := ((((Below.refl w.heap.size w).alloc (Nat.le_refl _) _).alloc (by simp) _).trans (hb1.mono (by simp <;> omega))); clear hb1)
  go_ret
  exact ⟨rfl, HB⟩

set_option maxHeartbeats 8000000 in
set_option maxRecDepth 100000 in
theorem eqStepS_ln (v u : Value) (l : List Stp) (w : World) (hv : Sl stC 10 w v l) (hu : Sl stC 10 w u l) :
    Calls Tryz.prog 28 #[v, u] w fun r w' => r = .returned (.bool true) ∧ Below w.heap.size w w' := by
  obtain ⟨hl, a, cap, rfl, hc⟩ := hv
  obtain ⟨_, a', cap', rfl, hc'⟩ := hu
  unfold maxLen at hl
  go_enter Tryz.func28, Tryz.ntmps28
  go_wp2
  go_loopw [5] (fun i wr => ∃ k : Nat, k ≤ l.length ∧ i = .int .i64 k ∧ Below w.heap.size w wr) (fun i _ => l.length - (intOf i).toNat)
  case atStart => exact ⟨0, Nat.zero_le _, rfl, Below.refl _ _⟩
  case round =>
    obtain ⟨k, hk, rfl, hB⟩ := hrel
    by_cases hlt : k < l.length
    · obtain ⟨b, off, rfl, hj⟩ := hc k hlt
      obtain ⟨b', off', rfl, hj'⟩ := hc' k hlt
      have hbl := cell_lt (hj k hlt 0 _ rfl)
      have hbl' := cell_lt (hj' k hlt 0 _ rfl)
      have c0 : wr.cell? ⟨b, off + k * 10, none⟩ = some (.int .i64 l[k].kd) := range_below (hj k hlt) hB 0 _ rfl
      have d0 : wr.cell? ⟨b', off' + k * 10, none⟩ = some (.int .i64 l[k].kd) := range_below (hj' k hlt) hB 0 _ rfl
      have c1 : wr.cell? ⟨b, off + k * 10 + 1, none⟩ = some (.int .i64 l[k].a) := range_below (hj k hlt) hB 1 _ rfl
      have d1 : wr.cell? ⟨b', off' + k * 10 + 1, none⟩ = some (.int .i64 l[k].a) := range_below (hj' k hlt) hB 1 _ rfl
      have c2 : wr.cell? ⟨b, off + k * 10 + 2, none⟩ = some (.int .i64 l[k].b) := range_below (hj k hlt) hB 2 _ rfl
      have d2 : wr.cell? ⟨b', off' + k * 10 + 2, none⟩ = some (.int .i64 l[k].b) := range_below (hj' k hlt) hB 2 _ rfl
      have c3 : wr.cell? ⟨b, off + k * 10 + 3, none⟩ = some (.int .i64 l[k].c) := range_below (hj k hlt) hB 3 _ rfl
      have d3 : wr.cell? ⟨b', off' + k * 10 + 3, none⟩ = some (.int .i64 l[k].c) := range_below (hj' k hlt) hB 3 _ rfl
      have c4 : wr.cell? ⟨b, off + k * 10 + 4, none⟩ = some (.int .i64 l[k].cl) := range_below (hj k hlt) hB 4 _ rfl
      have d4 : wr.cell? ⟨b', off' + k * 10 + 4, none⟩ = some (.int .i64 l[k].cl) := range_below (hj' k hlt) hB 4 _ rfl
      have c5 : wr.cell? ⟨b, off + k * 10 + 5, none⟩ = some (.int .i64 l[k].sq) := range_below (hj k hlt) hB 5 _ rfl
      have d5 : wr.cell? ⟨b', off' + k * 10 + 5, none⟩ = some (.int .i64 l[k].sq) := range_below (hj' k hlt) hB 5 _ rfl
      have c6 : wr.cell? ⟨b, off + k * 10 + 6, none⟩ = some (.int .i64 l[k].op) := range_below (hj k hlt) hB 6 _ rfl
      have d6 : wr.cell? ⟨b', off' + k * 10 + 6, none⟩ = some (.int .i64 l[k].op) := range_below (hj' k hlt) hB 6 _ rfl
      have c7 : wr.cell? ⟨b, off + k * 10 + 7, none⟩ = some (.string l[k].k) := range_below (hj k hlt) hB 7 _ rfl
      have d7 : wr.cell? ⟨b', off' + k * 10 + 7, none⟩ = some (.string l[k].k) := range_below (hj' k hlt) hB 7 _ rfl
      have c8 : wr.cell? ⟨b, off + k * 10 + 8, none⟩ = some (.string l[k].v) := range_below (hj k hlt) hB 8 _ rfl
      have d8 : wr.cell? ⟨b', off' + k * 10 + 8, none⟩ = some (.string l[k].v) := range_below (hj' k hlt) hB 8 _ rfl
      have c9 : wr.cell? ⟨b, off + k * 10 + 9, none⟩ = some (.string l[k].o) := range_below (hj k hlt) hB 9 _ rfl
      have d9 : wr.cell? ⟨b', off' + k * 10 + 9, none⟩ = some (.string l[k].o) := range_below (hj' k hlt) hB 9 _ rfl
      have hz := hB.size
      have HE : ∀ w, Hid (Calls Tryz.prog 51 #[.agg #[.int .i64 l[k].kd, .int .i64 l[k].a, .int .i64 l[k].b, .int .i64 l[k].c, .int .i64 l[k].cl, .int .i64 l[k].sq, .int .i64 l[k].op, .string l[k].k, .string l[k].v, .string l[k].o], .agg #[.int .i64 l[k].kd, .int .i64 l[k].a, .int .i64 l[k].b, .int .i64 l[k].c, .int .i64 l[k].cl, .int .i64 l[k].sq, .int .i64 l[k].op, .string l[k].k, .string l[k].v, .string l[k].o]] w fun x w' => x = .returned (.bool true) ∧ Below w.heap.size w w') := fun w => eqStep_same _ _ _ _ _ _ _ _ _ _ w
      clear hc hj hc' hj'
      generalize l[k] = e at *
      go_wp2
      go_region_held3 (fun w' => w'.cell? ⟨b, off + k * 10, none⟩ = some (.int .i64 e.kd) ∧ w'.cell? ⟨b, off + k * 10 + 1, none⟩ = some (.int .i64 e.a) ∧ w'.cell? ⟨b, off + k * 10 + 2, none⟩ = some (.int .i64 e.b) ∧ w'.cell? ⟨b, off + k * 10 + 3, none⟩ = some (.int .i64 e.c) ∧ w'.cell? ⟨b, off + k * 10 + 4, none⟩ = some (.int .i64 e.cl) ∧ w'.cell? ⟨b, off + k * 10 + 5, none⟩ = some (.int .i64 e.sq) ∧ w'.cell? ⟨b, off + k * 10 + 6, none⟩ = some (.int .i64 e.op) ∧ w'.cell? ⟨b, off + k * 10 + 7, none⟩ = some (.string e.k) ∧ w'.cell? ⟨b, off + k * 10 + 8, none⟩ = some (.string e.v) ∧ w'.cell? ⟨b, off + k * 10 + 9, none⟩ = some (.string e.o) ∧ w'.cell? ⟨b', off' + k * 10, none⟩ = some (.int .i64 e.kd) ∧ w'.cell? ⟨b', off' + k * 10 + 1, none⟩ = some (.int .i64 e.a) ∧ w'.cell? ⟨b', off' + k * 10 + 2, none⟩ = some (.int .i64 e.b) ∧ w'.cell? ⟨b', off' + k * 10 + 3, none⟩ = some (.int .i64 e.c) ∧ w'.cell? ⟨b', off' + k * 10 + 4, none⟩ = some (.int .i64 e.cl) ∧ w'.cell? ⟨b', off' + k * 10 + 5, none⟩ = some (.int .i64 e.sq) ∧ w'.cell? ⟨b', off' + k * 10 + 6, none⟩ = some (.int .i64 e.op) ∧ w'.cell? ⟨b', off' + k * 10 + 7, none⟩ = some (.string e.k) ∧ w'.cell? ⟨b', off' + k * 10 + 8, none⟩ = some (.string e.v) ∧ w'.cell? ⟨b', off' + k * 10 + 9, none⟩ = some (.string e.o)) (simp [*, go_sem])
        (first
          | (go_at_call 51; refine Calls.mono (HE _).out ?_; rintro r w1 ⟨rfl, hb⟩; have q1 := fun (o : Nat) => hb.cell (p := ⟨b, o, none⟩) (show b < wr.heap.size by omega); have q2 := fun (o : Nat) => hb.cell (p := ⟨b', o, none⟩) (show b' < wr.heap.size by omega)))
      all_goals go_wp2
      go_roundw
      case rel => exact ⟨k + 1, by omega, by go_num, hB.trans (((Below.refl _ _).drew).trans (hb.mono hz))⟩
      case measure => simp [intOf]; omega
    · go_wp2
      go_ret
      exact ⟨rfl, hB⟩

set_option maxHeartbeats 2000000 in
set_option maxRecDepth 100000 in
theorem eqIntS_sk (v u : Value) (l : List Int) (w : World) (hv : Ix w v l) (hu : Ix w u l) :
    Calls Tryz.prog 27 #[v, u] w fun r w' => r = .returned (.bool true) ∧ Below w.heap.size w w' := by
  obtain ⟨hl, a, cap, rfl, hc⟩ := hv
  obtain ⟨_, a', cap', rfl, hc'⟩ := hu
  unfold maxLen at hl
  go_enter Tryz.func27, Tryz.ntmps27
  go_wp2
  go_loopw [5] (fun i wr => ∃ k : Nat, k ≤ l.length ∧ i = .int .i64 k ∧ ∃ n, wr = w.drewN n) (fun i _ => l.length - (intOf i).toNat)
  case atStart => exact ⟨0, Nat.zero_le _, rfl, 0, rfl⟩
  case round =>
    obtain ⟨k, hk, rfl, n, rfl⟩ := hrel
    by_cases hlt : k < l.length
    · obtain ⟨b, off, rfl, hcell⟩ := hc k hlt
      obtain ⟨b', off', rfl, hcell'⟩ := hc' k hlt
      have hck := hcell k hlt
      have hck' := hcell' k hlt
      clear hcell hcell' hc hc'
      go_wp2
      go_quiet (fail)
      go_wp2
      go_roundw
      case rel => exact ⟨k + 1, by omega, by go_num, _, rfl⟩
      case measure => simp [intOf]; omega
    · have e : k = l.length := by omega
      subst e
      go_wp2
      go_ret
      exact ⟨rfl, rfl, rfl, rfl, Nat.le_refl _, fun _ _ => rfl⟩

set_option maxHeartbeats 2000000 in
set_option maxRecDepth 100000 in
theorem eqSetup_sk (us uc ue ub ur ud : Int) (w : World) :
    Calls Tryz.prog 26 #[.agg #[.int .i64 us, .int .i64 uc, .int .i64 ue, .int .i64 ub, .int .i64 ur, .int .i64 ud], .agg #[.int .i64 us, .int .i64 uc, .int .i64 ue, .int .i64 ub, .int .i64 ur, .int .i64 ud]] w fun e w' => e = .returned (.bool true) ∧ Below w.heap.size w w' := by
  go_enter Tryz.func26, Tryz.ntmps26
  go_wp2
  go_ret
  exact ⟨rfl, ((Below.refl _ _).alloc (Nat.le_refl _) _).alloc (by simp) _⟩
theorem sizeSc : (Tryz.prog.info? 27).map (·.size) = some 8 := by kernel_rfl
set_option maxHeartbeats 4000000 in
set_option maxRecDepth 100000 in
theorem eqScript_sk (us uc ue ub ur ud : Int) (vd vs vd' vs' : Value) (ds : List Int) (ss : List Stp) (w : World) (hd : Ix w vd ds) (hs : Sl stC 10 w vs ss) (hd' : Ix w vd' ds) (hs' : Sl stC 10 w vs' ss) :
    Calls Tryz.prog 13 #[.agg #[.int .i64 us, .int .i64 uc, .int .i64 ue, .int .i64 ub, .int .i64 ur, .int .i64 ud, vd, vs], .agg #[.int .i64 us, .int .i64 uc, .int .i64 ue, .int .i64 ub, .int .i64 ur, .int .i64 ud, vd', vs']] w fun e w' => e = .returned (.bool true) ∧ Below w.heap.size w w' := by
  have HD : Hid (Ix w vd ds) := hd
  have HS : Hid (Sl stC 10 w vs ss) := hs
  have HD' : Hid (Ix w vd' ds) := hd'
  have HS' : Hid (Sl stC 10 w vs' ss) := hs'
  have HI : Hid (∀ z, Ix z vd ds → Ix z vd' ds → Calls Tryz.prog 27 #[vd, vd'] z fun r w' => r = .returned (.bool true) ∧ Below z.heap.size z w') := fun z h1 h2 => eqIntS_sk vd vd' ds z h1 h2
  have HZ : Hid (∀ z, Sl stC 10 z vs ss → Sl stC 10 z vs' ss → Calls Tryz.prog 28 #[vs, vs'] z fun r w' => r = .returned (.bool true) ∧ Below z.heap.size z w') := fun z h1 h2 => eqStepS_ln vs vs' ss z h1 h2
  obtain ⟨_, da, dc, rfl, _⟩ := hd
  obtain ⟨_, sa, sc, rfl, _⟩ := hs
  obtain ⟨_, da', dc', rfl, _⟩ := hd'
  obtain ⟨_, sa', sc', rfl, _⟩ := hs'
  go_enter Tryz.func13, Tryz.ntmps13
  go_wp2_with (first
    | (go_at_call 26; refine (eqSetup_sk _ _ _ _ _ _ _).mono ?_; rintro e w1 ⟨rfl, hb1⟩; have B1 := ((Blk.new w _ _).alloc _).below hb1 (by simp <;> omega); have B2 := (Blk.new' (w.alloc _) _ _ (k := w.heap.size + 1) (by simp)).below hb1 (by simp <;> omega); have c1 := B1.cell; have c2 := B2.cell; have HB : Hid (Below w.heap.size w w1) := ((((Below.refl w.heap.size w).alloc (Nat.le_refl _) _).alloc (by simp) _).trans (hb1.mono (by simp <;> omega))); clear hb1)
    | (go_at_call 27; refine Calls.mono (HI.out _ (HD.out.below HB.out) (HD'.out.below HB.out)) ?_; rintro e w2 ⟨rfl, hb2⟩; have B3 := B1.below hb2 B1.lt; have B4 := B2.below hb2 B2.lt; have c3 := B3.cell; have c4 := B4.cell; have HB2 : Hid (Below w.heap.size w w2) := HB.out.trans (hb2.mono HB.out.size); clear hb2)
    | (go_at_call 28; refine Calls.mono (HZ.out _ (HS.out.below HB2.out) (HS'.out.below HB2.out)) ?_; rintro e w3 ⟨rfl, hb3⟩))
  go_ret
  exact ⟨rfl, HB2.out.trans (hb3.mono HB2.out.size)⟩
end Go.Proofs.YtanpindbhdeomaaGreatDoor
