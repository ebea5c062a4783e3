/-
  The law's own functions on slices of events and of commands.
-/
import Derived.Test.YtnoihfincifphaaLnArg
namespace Go.Proofs.Ytnoihfincifphaa
open Go.RowKit Go.Maps
set_option linter.unusedVariables false
set_option linter.unusedSimpArgs false


theorem infoFEvent : (Try.prog.info? 76).map (fun i => (i.zero, i.size, i.bytes)) = some (some (.agg #[.int .i64 0, .int .i64 0, .int .i64 0, .int .i64 0, .string ⟨#[]⟩, .string ⟨#[]⟩, .string ⟨#[]⟩, .int .i64 0, .string ⟨#[]⟩]), 9, 104) := by kernel_rfl
structure SlAEvent (w : World) (v : Value) (l : List Evn) : Prop where
  sl : Sl evC 9 w v l
  fits : ∀ e ∈ l, e.fitA
theorem SlAEvent.below {w w' : World} {v : Value} {l : List Evn} (h : SlAEvent w v l) (hb : Below w.heap.size w w') : SlAEvent w' v l := ⟨h.sl.below hb, h.fits⟩
set_option maxHeartbeats 4000000 in
set_option maxRecDepth 100000 in
theorem szEventS_ln (v : Value) (l : List Evn) (w : World) (hv : SlAEvent w v l) (left : Int) (h0 : 0 ≤ left) (h1 : left ≤ 1048576) :
    Calls Try.prog 6 #[v, .int .i64 left] w fun r w' =>
      (∃ s : Int, r = .returned (.int .i64 s) ∧ s ≤ left ∧ (0 ≤ s → l.length ≤ 1048576 ∧ ∀ e ∈ l, e.small)) ∧ Below w.heap.size w w' := by
  have HV : Hid (SlAEvent w v l) := hv
  obtain ⟨⟨hl, a, cap, rfl, hc⟩, hf⟩ := hv
  have HF : Hid (∀ e ∈ l, e.fitA) := hf
  have HC : Hid (∀ i, i < l.length → ∃ b off, a = some ⟨b, off, none⟩ ∧ ∀ j (h : j < l.length), w.rangeAt b (off + j * 9) (evC l[j])) := hc
  unfold maxLen at hl
  clear hc hf
  go_enter Try.func6, Try.ntmps6
  go_wp2
  · go_ret
    exact ⟨⟨_, rfl, by omega, fun h => absurd h (by omega)⟩, Below.refl _ _⟩
  · go_loopw [1, 5] (fun s i wr => ∃ (k : Nat) (x : Int), k ≤ l.length ∧ i = .int .i64 k ∧ s = .int .i64 x ∧ 0 ≤ x ∧ x ≤ left ∧ (∀ e ∈ l.take k, e.small) ∧ Below w.heap.size w wr) (fun _ i _ => l.length - (RowKit.intOf i).toNat)
    case atStart => exact ⟨0, _, Nat.zero_le _, rfl, rfl, by omega, by omega, by simp, Below.refl _ _⟩
    case round =>
      obtain ⟨k, x, hk, rfl, rfl, hx, hx', hS, hB⟩ := hrel
      have HS : Hid (∀ e ∈ l.take k, e.small) := hS
      have HB : Hid (Below w.heap.size w wr) := hB
      clear hS hB
      by_cases hlt : k < l.length
      · obtain ⟨b, off, rfl, hj⟩ := HC.out k hlt
        have HR : Hid (wr.rangeAt b (off + k * 9) [.int .i64 l[k].kd, .int .i64 l[k].c.cl, .int .i64 l[k].c.sq, .int .i64 l[k].c.op, .string l[k].c.k, .string l[k].c.v, .string l[k].c.o, .int .i64 l[k].cd, .string l[k].v]) := range_below (hj k hlt) HB.out
        have HZ : Hid (∀ u, Calls Try.prog 33 #[.agg #[.int .i64 l[k].kd, .int .i64 l[k].c.cl, .int .i64 l[k].c.sq, .int .i64 l[k].c.op, .string l[k].c.k, .string l[k].c.v, .string l[k].c.o, .int .i64 l[k].cd, .string l[k].v], .int .i64 x] u fun r w' => (∃ s : Int, r = .returned (.int .i64 s) ∧ s ≤ x ∧ (0 ≤ s → l[k].small)) ∧ Below u.heap.size u w') := fun u => szEvent_ln l[k] (HF.out _ (List.getElem_mem hlt)) x hx (by omega) u
        have HN : Hid (l[k].small → ∀ e ∈ l.take (k + 1), e.small) := fun hs e he => by
          rw [List.take_succ_eq_append_getElem hlt] at he
          rcases List.mem_append.1 he with h | h
          · exact HS.out e h
          · rw [List.mem_singleton.1 h]; exact hs
        have hkl : (k : Int) < (l.length : Int) := by omega
        generalize l[k] = e at HR HZ HN
        have hsz := HB.out.size
        clear hj
        go_wp2_with (first
          | (refine gate_ld 70 (.tmp 20) rfl ?_; refine wpList_load_mid rfl 70 (.tmp 20) rfl b (off + k * 9) rfl _ _ HR.out Try.underlying70 rfl sizeEvL ?_)
          | (go_at_call 33; refine (HZ.out _).mono ?_; rintro r w1 ⟨⟨s, rfl, hs1, hs2⟩, hb⟩; have HS2 : Hid (0 ≤ s → e.small) := hs2; have HB1 : Hid (Below w.heap.size w w1) := HB.out.trans (hb.mono (by omega)); clear hb hs2))
        · go_ret
          exact ⟨⟨_, rfl, by omega, fun h => absurd h (by omega)⟩, HB1.out⟩
        · go_roundw
          case rel => exact ⟨k + 1, s, by omega, by go_num, rfl, by omega, by omega, HN.out (HS2.out (by omega)), HB1.out⟩
          case measure => simp [RowKit.intOf]; omega
      · obtain rfl : k = l.length := by omega
        rw [List.take_length] at HS
        go_wp2
        go_ret
        exact ⟨⟨_, rfl, by omega, fun _ => ⟨by omega, HS.out⟩⟩, HB.out⟩
set_option maxHeartbeats 4000000 in
set_option maxRecDepth 100000 in
theorem toEventS_ln (v : Value) (l : List Evn) (w : World) (hv : Sl evC 9 w v l) (hl' : l.length ≤ 1048576) :
    Calls Try.prog 9 #[v] w fun r w' => ∃ q, r = .returned (.slice (some ⟨q, 0, none⟩) l.length l.length) ∧ Sl evC 9 w' (.slice (some ⟨q, 0, none⟩) l.length l.length) l ∧ Below w.heap.size w w' := by
  have HV : Hid (Sl evC 9 w v l) := hv
  obtain ⟨hl, a, cap, rfl, hc⟩ := hv
  obtain ⟨i0, hi, hz0, hz1, hz2⟩ := info_parts infoFEvent
  have hmk : ∀ u : World, (Instr.makeSlice 29 (.int .i64 (l.length : Int)) (.int .i64 (l.length : Int))).run Try.prog u =
      .ok (.slice (some ⟨u.heap.size, 0, none⟩) l.length l.length) (u.alloc (.cells (madeCells #[.int .i64 0, .int .i64 0, .int .i64 0, .int .i64 0, .string ⟨#[]⟩, .string ⟨#[]⟩, .string ⟨#[]⟩, .int .i64 0, .string ⟨#[]⟩] (l.length * 9)) 76)) := fun u => by
    have h := run_make (P := Try.prog) u 29 76 i0 _ Try.underlying29 hi hz0 .i64 .i64 (l.length : Int) (l.length : Int) (by omega) (Int.le_refl _) (by rw [hz2]; omega) (by omega)
    simpa [hz1, Value.cells] using h
  clear hi hz0 hz1 hz2
  go_enter Try.func9, Try.ntmps9
  go_wp2
  go_loopw [4] (fun i wr => ∃ k : Nat, k ≤ l.length ∧ i = .int .i64 k ∧ CopiedG evC 9 w wr l k) (fun i _ => l.length - (RowKit.intOf i).toNat)
  case atStart => exact ⟨0, Nat.zero_le _, rfl, CopiedG.start _ _ w l _ _⟩
  case round =>
    obtain ⟨k, hk, rfl, hC⟩ := hrel
    have HC : Hid (CopiedG evC 9 w wr l k) := hC
    have hsz := hC.size
    by_cases hlt : k < l.length
    · obtain ⟨b, off, rfl, hj⟩ := hc k hlt
      have HR : Hid (wr.rangeAt b (off + k * 9) [.int .i64 l[k].kd, .int .i64 l[k].c.cl, .int .i64 l[k].c.sq, .int .i64 l[k].c.op, .string l[k].c.k, .string l[k].c.v, .string l[k].c.o, .int .i64 l[k].cd, .string l[k].v]) := range_below (hj k hlt) hC.below
      have HST : Hid (∀ w1, CopiedG evC 9 w w1 l k → CopiedG evC 9 w (w1.setCells w.heap.size (k * 9) [.int .i64 l[k].kd, .int .i64 l[k].c.cl, .int .i64 l[k].c.sq, .int .i64 l[k].c.op, .string l[k].c.k, .string l[k].c.v, .string l[k].c.o, .int .i64 l[k].cd, .string l[k].v]) l (k + 1)) := fun w1 h => h.step hlt (fun _ => rfl)
      have hkl : (k : Int) < (l.length : Int) := by omega
      clear hj hc hC hmk
      generalize l[k] = e at HR HST
      go_wp2_with (first
        | (refine gate_ld 70 (.tmp 18) rfl ?_; refine wpList_load_mid rfl 70 (.tmp 18) rfl b (off + k * 9) rfl _ _ HR.out Try.underlying70 rfl sizeEvL ?_)
        | (go_at_call 39; refine (toEvent_any _ _ _ _ _ _ _ _ _ _).mono ?_; rintro r w1 ⟨rfl, hb⟩; have HC1 : Hid (CopiedG evC 9 w w1 l k) := HC.out.later hb; have HTH : Hid (w1.there w.heap.size (k * 9) 9) := there_sub HC1.out.there _ _ (row_le hlt (Nat.le_refl _)); clear hb)
        | (have hBA := HTH; refine gate_st 76 (.tmp 21) (.tmp 20) rfl ?_; clear hBA; refine wpList_store_mid rfl 76 (.tmp 21) (.tmp 20) rfl w.heap.size (k * 9) #[.int .i64 e.kd, .int .i64 e.c.cl, .int .i64 e.c.sq, .int .i64 e.c.op, .string e.c.k, .string e.c.v, .string e.c.o, .int .i64 e.cd, .string e.v] (by simp [Act.eval, Act.put]) rfl HTH.out sizeEv (by simp [Value.oneCell']) ?_))
      go_roundw
      case rel => exact ⟨k + 1, by omega, by go_num, HST.out _ HC1.out⟩
      case measure => simp [RowKit.intOf]; omega
    · obtain rfl : k = l.length := by omega
      have HSl := HC.out.sl hl
      have HBl := HC.out.below
      clear hmk
      go_wp2
      go_ret
      exact ⟨_, rfl, HSl, HBl⟩
set_option maxHeartbeats 8000000 in
set_option maxRecDepth 100000 in
theorem eqEventS_ln (v u : Value) (l : List Evn) (w : World) (hv : Sl evC 9 w v l) (hu : Sl evC 9 w u l) :
    Calls Try.prog 13 #[v, u] w fun r w' => r = .returned (.bool true) ∧ Below w.heap.size w w' := by
  obtain ⟨hl, a, cap, rfl, hc⟩ := hv
  obtain ⟨_, a', cap', rfl, hc'⟩ := hu
  unfold maxLen at hl
  go_enter Try.func13, Try.ntmps13
  go_wp2
  go_loopw [5] (fun i wr => ∃ k : Nat, k ≤ l.length ∧ i = .int .i64 k ∧ Below w.heap.size w wr) (fun i _ => l.length - (RowKit.intOf i).toNat)
  case atStart => exact ⟨0, Nat.zero_le _, rfl, Below.refl _ _⟩
  case round =>
    obtain ⟨k, hk, rfl, hB⟩ := hrel
    by_cases hlt : k < l.length
    · obtain ⟨b, off, rfl, hj⟩ := hc k hlt
      obtain ⟨b', off', rfl, hj'⟩ := hc' k hlt
      have hbl := cell_lt (hj k hlt 0 _ rfl)
      have hbl' := cell_lt (hj' k hlt 0 _ rfl)
      have c0 : wr.cell? ⟨b, off + k * 9, none⟩ = some (.int .i64 l[k].kd) := range_below (hj k hlt) hB 0 _ rfl
      have d0 : wr.cell? ⟨b', off' + k * 9, none⟩ = some (.int .i64 l[k].kd) := range_below (hj' k hlt) hB 0 _ rfl
      have c1 : wr.cell? ⟨b, off + k * 9 + 1, none⟩ = some (.int .i64 l[k].c.cl) := range_below (hj k hlt) hB 1 _ rfl
      have d1 : wr.cell? ⟨b', off' + k * 9 + 1, none⟩ = some (.int .i64 l[k].c.cl) := range_below (hj' k hlt) hB 1 _ rfl
      have c2 : wr.cell? ⟨b, off + k * 9 + 2, none⟩ = some (.int .i64 l[k].c.sq) := range_below (hj k hlt) hB 2 _ rfl
      have d2 : wr.cell? ⟨b', off' + k * 9 + 2, none⟩ = some (.int .i64 l[k].c.sq) := range_below (hj' k hlt) hB 2 _ rfl
      have c3 : wr.cell? ⟨b, off + k * 9 + 3, none⟩ = some (.int .i64 l[k].c.op) := range_below (hj k hlt) hB 3 _ rfl
      have d3 : wr.cell? ⟨b', off' + k * 9 + 3, none⟩ = some (.int .i64 l[k].c.op) := range_below (hj' k hlt) hB 3 _ rfl
      have c4 : wr.cell? ⟨b, off + k * 9 + 4, none⟩ = some (.string l[k].c.k) := range_below (hj k hlt) hB 4 _ rfl
      have d4 : wr.cell? ⟨b', off' + k * 9 + 4, none⟩ = some (.string l[k].c.k) := range_below (hj' k hlt) hB 4 _ rfl
      have c5 : wr.cell? ⟨b, off + k * 9 + 5, none⟩ = some (.string l[k].c.v) := range_below (hj k hlt) hB 5 _ rfl
      have d5 : wr.cell? ⟨b', off' + k * 9 + 5, none⟩ = some (.string l[k].c.v) := range_below (hj' k hlt) hB 5 _ rfl
      have c6 : wr.cell? ⟨b, off + k * 9 + 6, none⟩ = some (.string l[k].c.o) := range_below (hj k hlt) hB 6 _ rfl
      have d6 : wr.cell? ⟨b', off' + k * 9 + 6, none⟩ = some (.string l[k].c.o) := range_below (hj' k hlt) hB 6 _ rfl
      have c7 : wr.cell? ⟨b, off + k * 9 + 7, none⟩ = some (.int .i64 l[k].cd) := range_below (hj k hlt) hB 7 _ rfl
      have d7 : wr.cell? ⟨b', off' + k * 9 + 7, none⟩ = some (.int .i64 l[k].cd) := range_below (hj' k hlt) hB 7 _ rfl
      have c8 : wr.cell? ⟨b, off + k * 9 + 8, none⟩ = some (.string l[k].v) := range_below (hj k hlt) hB 8 _ rfl
      have d8 : wr.cell? ⟨b', off' + k * 9 + 8, none⟩ = some (.string l[k].v) := range_below (hj' k hlt) hB 8 _ rfl
      have hz := hB.size
      have HE : ∀ w, Hid (Calls Try.prog 45 #[.agg #[.int .i64 l[k].kd, .int .i64 l[k].c.cl, .int .i64 l[k].c.sq, .int .i64 l[k].c.op, .string l[k].c.k, .string l[k].c.v, .string l[k].c.o, .int .i64 l[k].cd, .string l[k].v], .agg #[.int .i64 l[k].kd, .int .i64 l[k].c.cl, .int .i64 l[k].c.sq, .int .i64 l[k].c.op, .string l[k].c.k, .string l[k].c.v, .string l[k].c.o, .int .i64 l[k].cd, .string l[k].v]] w fun x w' => x = .returned (.bool true) ∧ Below w.heap.size w w') := fun w => eqEvent_same _ _ _ _ _ _ _ _ _ w
      clear hc hj hc' hj'
      generalize l[k] = e at *
      go_wp2
      go_region_held3 (fun w' => w'.cell? ⟨b, off + k * 9, none⟩ = some (.int .i64 e.kd) ∧ w'.cell? ⟨b, off + k * 9 + 1, none⟩ = some (.int .i64 e.c.cl) ∧ w'.cell? ⟨b, off + k * 9 + 2, none⟩ = some (.int .i64 e.c.sq) ∧ w'.cell? ⟨b, off + k * 9 + 3, none⟩ = some (.int .i64 e.c.op) ∧ w'.cell? ⟨b, off + k * 9 + 4, none⟩ = some (.string e.c.k) ∧ w'.cell? ⟨b, off + k * 9 + 5, none⟩ = some (.string e.c.v) ∧ w'.cell? ⟨b, off + k * 9 + 6, none⟩ = some (.string e.c.o) ∧ w'.cell? ⟨b, off + k * 9 + 7, none⟩ = some (.int .i64 e.cd) ∧ w'.cell? ⟨b, off + k * 9 + 8, none⟩ = some (.string e.v) ∧ w'.cell? ⟨b', off' + k * 9, none⟩ = some (.int .i64 e.kd) ∧ w'.cell? ⟨b', off' + k * 9 + 1, none⟩ = some (.int .i64 e.c.cl) ∧ w'.cell? ⟨b', off' + k * 9 + 2, none⟩ = some (.int .i64 e.c.sq) ∧ w'.cell? ⟨b', off' + k * 9 + 3, none⟩ = some (.int .i64 e.c.op) ∧ w'.cell? ⟨b', off' + k * 9 + 4, none⟩ = some (.string e.c.k) ∧ w'.cell? ⟨b', off' + k * 9 + 5, none⟩ = some (.string e.c.v) ∧ w'.cell? ⟨b', off' + k * 9 + 6, none⟩ = some (.string e.c.o) ∧ w'.cell? ⟨b', off' + k * 9 + 7, none⟩ = some (.int .i64 e.cd) ∧ w'.cell? ⟨b', off' + k * 9 + 8, none⟩ = some (.string e.v)) (simp [*, go_sem])
        (first
          | (go_at_call 45; refine Calls.mono (HE _).out ?_; rintro r w1 ⟨rfl, hb⟩; have q1 := fun (o : Nat) => hb.cell (p := ⟨b, o, none⟩) (show b < wr.heap.size by omega); have q2 := fun (o : Nat) => hb.cell (p := ⟨b', o, none⟩) (show b' < wr.heap.size by omega)))
      all_goals go_wp2
      go_roundw
      case rel => exact ⟨k + 1, by omega, by go_num, hB.trans (((Below.refl _ _).drew).trans (hb.mono hz))⟩
      case measure => simp [RowKit.intOf]; omega
    · go_wp2
      go_ret
      exact ⟨rfl, hB⟩

theorem infoFCmd : (Try.prog.info? 63).map (fun i => (i.zero, i.size, i.bytes)) = some (some (.agg #[.int .i64 0, .int .i64 0, .int .i64 0, .string ⟨#[]⟩, .string ⟨#[]⟩, .string ⟨#[]⟩]), 6, 72) := by kernel_rfl
structure SlACmd (w : World) (v : Value) (l : List Cm) : Prop where
  sl : Sl cmC 6 w v l
  fits : ∀ e ∈ l, e.fitA
theorem SlACmd.below {w w' : World} {v : Value} {l : List Cm} (h : SlACmd w v l) (hb : Below w.heap.size w w') : SlACmd w' v l := ⟨h.sl.below hb, h.fits⟩
set_option maxHeartbeats 4000000 in
set_option maxRecDepth 100000 in
theorem szCmdS_ln (v : Value) (l : List Cm) (w : World) (hv : SlACmd w v l) (left : Int) (h0 : 0 ≤ left) (h1 : left ≤ 1048576) :
    Calls Try.prog 7 #[v, .int .i64 left] w fun r w' =>
      (∃ s : Int, r = .returned (.int .i64 s) ∧ s ≤ left ∧ (0 ≤ s → l.length ≤ 1048576 ∧ ∀ e ∈ l, e.small)) ∧ Below w.heap.size w w' := by
  have HV : Hid (SlACmd w v l) := hv
  obtain ⟨⟨hl, a, cap, rfl, hc⟩, hf⟩ := hv
  have HF : Hid (∀ e ∈ l, e.fitA) := hf
  have HC : Hid (∀ i, i < l.length → ∃ b off, a = some ⟨b, off, none⟩ ∧ ∀ j (h : j < l.length), w.rangeAt b (off + j * 6) (cmC l[j])) := hc
  unfold maxLen at hl
  clear hc hf
  go_enter Try.func7, Try.ntmps7
  go_wp2
  · go_ret
    exact ⟨⟨_, rfl, by omega, fun h => absurd h (by omega)⟩, Below.refl _ _⟩
  · go_loopw [1, 5] (fun s i wr => ∃ (k : Nat) (x : Int), k ≤ l.length ∧ i = .int .i64 k ∧ s = .int .i64 x ∧ 0 ≤ x ∧ x ≤ left ∧ (∀ e ∈ l.take k, e.small) ∧ Below w.heap.size w wr) (fun _ i _ => l.length - (RowKit.intOf i).toNat)
    case atStart => exact ⟨0, _, Nat.zero_le _, rfl, rfl, by omega, by omega, by simp, Below.refl _ _⟩
    case round =>
      obtain ⟨k, x, hk, rfl, rfl, hx, hx', hS, hB⟩ := hrel
      have HS : Hid (∀ e ∈ l.take k, e.small) := hS
      have HB : Hid (Below w.heap.size w wr) := hB
      clear hS hB
      by_cases hlt : k < l.length
      · obtain ⟨b, off, rfl, hj⟩ := HC.out k hlt
        have HR : Hid (wr.rangeAt b (off + k * 6) [.int .i64 l[k].cl, .int .i64 l[k].sq, .int .i64 l[k].op, .string l[k].k, .string l[k].v, .string l[k].o]) := range_below (hj k hlt) HB.out
        have HZ : Hid (∀ u, Calls Try.prog 25 #[.agg #[.int .i64 l[k].cl, .int .i64 l[k].sq, .int .i64 l[k].op, .string l[k].k, .string l[k].v, .string l[k].o], .int .i64 x] u fun r w' => (∃ s : Int, r = .returned (.int .i64 s) ∧ s ≤ x ∧ (0 ≤ s → l[k].small)) ∧ Below u.heap.size u w') := fun u => szCmd_ln l[k] (HF.out _ (List.getElem_mem hlt)) x hx (by omega) u
        have HN : Hid (l[k].small → ∀ e ∈ l.take (k + 1), e.small) := fun hs e he => by
          rw [List.take_succ_eq_append_getElem hlt] at he
          rcases List.mem_append.1 he with h | h
          · exact HS.out e h
          · rw [List.mem_singleton.1 h]; exact hs
        have hkl : (k : Int) < (l.length : Int) := by omega
        generalize l[k] = e at HR HZ HN
        have hsz := HB.out.size
        clear hj
        go_wp2_with (first
          | (refine gate_ld 56 (.tmp 20) rfl ?_; refine wpList_load_mid rfl 56 (.tmp 20) rfl b (off + k * 6) rfl _ _ HR.out Try.underlying56 rfl sizeCmL ?_)
          | (go_at_call 25; refine (HZ.out _).mono ?_; rintro r w1 ⟨⟨s, rfl, hs1, hs2⟩, hb⟩; have HS2 : Hid (0 ≤ s → e.small) := hs2; have HB1 : Hid (Below w.heap.size w w1) := HB.out.trans (hb.mono (by omega)); clear hb hs2))
        · go_ret
          exact ⟨⟨_, rfl, by omega, fun h => absurd h (by omega)⟩, HB1.out⟩
        · go_roundw
          case rel => exact ⟨k + 1, s, by omega, by go_num, rfl, by omega, by omega, HN.out (HS2.out (by omega)), HB1.out⟩
          case measure => simp [RowKit.intOf]; omega
      · obtain rfl : k = l.length := by omega
        rw [List.take_length] at HS
        go_wp2
        go_ret
        exact ⟨⟨_, rfl, by omega, fun _ => ⟨by omega, HS.out⟩⟩, HB.out⟩
set_option maxHeartbeats 4000000 in
set_option maxRecDepth 100000 in
theorem toCmdS_ln (v : Value) (l : List Cm) (w : World) (hv : Sl cmC 6 w v l) (hl' : l.length ≤ 1048576) :
    Calls Try.prog 10 #[v] w fun r w' => ∃ q, r = .returned (.slice (some ⟨q, 0, none⟩) l.length l.length) ∧ Sl cmC 6 w' (.slice (some ⟨q, 0, none⟩) l.length l.length) l ∧ Below w.heap.size w w' := by
  have HV : Hid (Sl cmC 6 w v l) := hv
  obtain ⟨hl, a, cap, rfl, hc⟩ := hv
  obtain ⟨i0, hi, hz0, hz1, hz2⟩ := info_parts infoFCmd
  have hmk : ∀ u : World, (Instr.makeSlice 31 (.int .i64 (l.length : Int)) (.int .i64 (l.length : Int))).run Try.prog u =
      .ok (.slice (some ⟨u.heap.size, 0, none⟩) l.length l.length) (u.alloc (.cells (madeCells #[.int .i64 0, .int .i64 0, .int .i64 0, .string ⟨#[]⟩, .string ⟨#[]⟩, .string ⟨#[]⟩] (l.length * 6)) 63)) := fun u => by
    have h := run_make (P := Try.prog) u 31 63 i0 _ Try.underlying31 hi hz0 .i64 .i64 (l.length : Int) (l.length : Int) (by omega) (Int.le_refl _) (by rw [hz2]; omega) (by omega)
    simpa [hz1, Value.cells] using h
  clear hi hz0 hz1 hz2
  go_enter Try.func10, Try.ntmps10
  go_wp2
  go_loopw [4] (fun i wr => ∃ k : Nat, k ≤ l.length ∧ i = .int .i64 k ∧ CopiedG cmC 6 w wr l k) (fun i _ => l.length - (RowKit.intOf i).toNat)
  case atStart => exact ⟨0, Nat.zero_le _, rfl, CopiedG.start _ _ w l _ _⟩
  case round =>
    obtain ⟨k, hk, rfl, hC⟩ := hrel
    have HC : Hid (CopiedG cmC 6 w wr l k) := hC
    have hsz := hC.size
    by_cases hlt : k < l.length
    · obtain ⟨b, off, rfl, hj⟩ := hc k hlt
      have HR : Hid (wr.rangeAt b (off + k * 6) [.int .i64 l[k].cl, .int .i64 l[k].sq, .int .i64 l[k].op, .string l[k].k, .string l[k].v, .string l[k].o]) := range_below (hj k hlt) hC.below
      have HST : Hid (∀ w1, CopiedG cmC 6 w w1 l k → CopiedG cmC 6 w (w1.setCells w.heap.size (k * 6) [.int .i64 l[k].cl, .int .i64 l[k].sq, .int .i64 l[k].op, .string l[k].k, .string l[k].v, .string l[k].o]) l (k + 1)) := fun w1 h => h.step hlt (fun _ => rfl)
      have hkl : (k : Int) < (l.length : Int) := by omega
      clear hj hc hC hmk
      generalize l[k] = e at HR HST
      go_wp2_with (first
        | (refine gate_ld 56 (.tmp 18) rfl ?_; refine wpList_load_mid rfl 56 (.tmp 18) rfl b (off + k * 6) rfl _ _ HR.out Try.underlying56 rfl sizeCmL ?_)
        | (go_at_call 28; refine (toCmd_any _ _ _ _ _ _ _).mono ?_; rintro r w1 ⟨rfl, hb⟩; have HC1 : Hid (CopiedG cmC 6 w w1 l k) := HC.out.later hb; have HTH : Hid (w1.there w.heap.size (k * 6) 6) := there_sub HC1.out.there _ _ (row_le hlt (Nat.le_refl _)); clear hb)
        | (have hBA := HTH; refine gate_st 63 (.tmp 21) (.tmp 20) rfl ?_; clear hBA; refine wpList_store_mid rfl 63 (.tmp 21) (.tmp 20) rfl w.heap.size (k * 6) #[.int .i64 e.cl, .int .i64 e.sq, .int .i64 e.op, .string e.k, .string e.v, .string e.o] (by simp [Act.eval, Act.put]) rfl HTH.out sizeCmI (by simp [Value.oneCell']) ?_))
      go_roundw
      case rel => exact ⟨k + 1, by omega, by go_num, HST.out _ HC1.out⟩
      case measure => simp [RowKit.intOf]; omega
    · obtain rfl : k = l.length := by omega
      have HSl := HC.out.sl hl
      have HBl := HC.out.below
      clear hmk
      go_wp2
      go_ret
      exact ⟨_, rfl, HSl, HBl⟩
set_option maxHeartbeats 8000000 in
set_option maxRecDepth 100000 in
theorem eqCmdS_ln (v u : Value) (l : List Cm) (w : World) (hv : Sl cmC 6 w v l) (hu : Sl cmC 6 w u l) :
    Calls Try.prog 14 #[v, u] w fun r w' => r = .returned (.bool true) ∧ Below w.heap.size w w' := by
  obtain ⟨hl, a, cap, rfl, hc⟩ := hv
  obtain ⟨_, a', cap', rfl, hc'⟩ := hu
  unfold maxLen at hl
  go_enter Try.func14, Try.ntmps14
  go_wp2
  go_loopw [5] (fun i wr => ∃ k : Nat, k ≤ l.length ∧ i = .int .i64 k ∧ Below w.heap.size w wr) (fun i _ => l.length - (RowKit.intOf i).toNat)
  case atStart => exact ⟨0, Nat.zero_le _, rfl, Below.refl _ _⟩
  case round =>
    obtain ⟨k, hk, rfl, hB⟩ := hrel
    by_cases hlt : k < l.length
    · obtain ⟨b, off, rfl, hj⟩ := hc k hlt
      obtain ⟨b', off', rfl, hj'⟩ := hc' k hlt
      have hbl := cell_lt (hj k hlt 0 _ rfl)
      have hbl' := cell_lt (hj' k hlt 0 _ rfl)
      have c0 : wr.cell? ⟨b, off + k * 6, none⟩ = some (.int .i64 l[k].cl) := range_below (hj k hlt) hB 0 _ rfl
      have d0 : wr.cell? ⟨b', off' + k * 6, none⟩ = some (.int .i64 l[k].cl) := range_below (hj' k hlt) hB 0 _ rfl
      have c1 : wr.cell? ⟨b, off + k * 6 + 1, none⟩ = some (.int .i64 l[k].sq) := range_below (hj k hlt) hB 1 _ rfl
      have d1 : wr.cell? ⟨b', off' + k * 6 + 1, none⟩ = some (.int .i64 l[k].sq) := range_below (hj' k hlt) hB 1 _ rfl
      have c2 : wr.cell? ⟨b, off + k * 6 + 2, none⟩ = some (.int .i64 l[k].op) := range_below (hj k hlt) hB 2 _ rfl
      have d2 : wr.cell? ⟨b', off' + k * 6 + 2, none⟩ = some (.int .i64 l[k].op) := range_below (hj' k hlt) hB 2 _ rfl
      have c3 : wr.cell? ⟨b, off + k * 6 + 3, none⟩ = some (.string l[k].k) := range_below (hj k hlt) hB 3 _ rfl
      have d3 : wr.cell? ⟨b', off' + k * 6 + 3, none⟩ = some (.string l[k].k) := range_below (hj' k hlt) hB 3 _ rfl
      have c4 : wr.cell? ⟨b, off + k * 6 + 4, none⟩ = some (.string l[k].v) := range_below (hj k hlt) hB 4 _ rfl
      have d4 : wr.cell? ⟨b', off' + k * 6 + 4, none⟩ = some (.string l[k].v) := range_below (hj' k hlt) hB 4 _ rfl
      have c5 : wr.cell? ⟨b, off + k * 6 + 5, none⟩ = some (.string l[k].o) := range_below (hj k hlt) hB 5 _ rfl
      have d5 : wr.cell? ⟨b', off' + k * 6 + 5, none⟩ = some (.string l[k].o) := range_below (hj' k hlt) hB 5 _ rfl
      have hz := hB.size
      have HE : ∀ w, Hid (Calls Try.prog 46 #[.agg #[.int .i64 l[k].cl, .int .i64 l[k].sq, .int .i64 l[k].op, .string l[k].k, .string l[k].v, .string l[k].o], .agg #[.int .i64 l[k].cl, .int .i64 l[k].sq, .int .i64 l[k].op, .string l[k].k, .string l[k].v, .string l[k].o]] w fun x w' => x = .returned (.bool true) ∧ Below w.heap.size w w') := fun w => eqCmd_same _ _ _ _ _ _ w
      clear hc hj hc' hj'
      generalize l[k] = e at *
      go_wp2
      go_region_held3 (fun w' => w'.cell? ⟨b, off + k * 6, none⟩ = some (.int .i64 e.cl) ∧ w'.cell? ⟨b, off + k * 6 + 1, none⟩ = some (.int .i64 e.sq) ∧ w'.cell? ⟨b, off + k * 6 + 2, none⟩ = some (.int .i64 e.op) ∧ w'.cell? ⟨b, off + k * 6 + 3, none⟩ = some (.string e.k) ∧ w'.cell? ⟨b, off + k * 6 + 4, none⟩ = some (.string e.v) ∧ w'.cell? ⟨b, off + k * 6 + 5, none⟩ = some (.string e.o) ∧ w'.cell? ⟨b', off' + k * 6, none⟩ = some (.int .i64 e.cl) ∧ w'.cell? ⟨b', off' + k * 6 + 1, none⟩ = some (.int .i64 e.sq) ∧ w'.cell? ⟨b', off' + k * 6 + 2, none⟩ = some (.int .i64 e.op) ∧ w'.cell? ⟨b', off' + k * 6 + 3, none⟩ = some (.string e.k) ∧ w'.cell? ⟨b', off' + k * 6 + 4, none⟩ = some (.string e.v) ∧ w'.cell? ⟨b', off' + k * 6 + 5, none⟩ = some (.string e.o)) (simp [*, go_sem])
        (first
          | (go_at_call 46; refine Calls.mono (HE _).out ?_; rintro r w1 ⟨rfl, hb⟩; have q1 := fun (o : Nat) => hb.cell (p := ⟨b, o, none⟩) (show b < wr.heap.size by omega); have q2 := fun (o : Nat) => hb.cell (p := ⟨b', o, none⟩) (show b' < wr.heap.size by omega)))
      all_goals go_wp2
      go_roundw
      case rel => exact ⟨k + 1, by omega, by go_num, hB.trans (((Below.refl _ _).drew).trans (hb.mono hz))⟩
      case measure => simp [RowKit.intOf]; omega
    · go_wp2
      go_ret
      exact ⟨rfl, hB⟩
end Go.Proofs.Ytnoihfincifphaa
