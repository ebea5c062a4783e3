/-
  spec.l5tableOk.
-/
import Derived.Test.YtelfejhopjbhpaaTsFind
import Derived.BigQuiet
import Derived.Deep.RegionLaw
import Derived.Test.YtelfejhopjbhpaaTbCmdP
namespace Go.Proofs.Ytelfejhopjbhpaa
open Go.RowKit Go.Maps
set_option linter.unusedVariables false
set_option linter.unusedSimpArgs false

theorem below_drewT (B : Nat) (w : World) (k : Nat) : Below B w (w.drewN k) := ⟨rfl, rfl, rfl, Nat.le_refl _, fun _ _ => rfl⟩
theorem lastK_take {ps : List Pr} {m : Nat} (h : m < ps.length) : lastK (ps.take (m + 1)) = ps[m].k := by
  rw [List.take_succ_eq_append_getElem h, lastK_snoc]
theorem okP_step {ps : List Pr} {k : Nat} (hL : PsL (ps.take k)) (hlt : k < ps.length) : PsL (ps.take (k + 1)) ↔ (1 ≤ ps[k].k.size ∧ ps[k].k.size ≤ 64) ∧ ps[k].v.size ≤ 64 ∧ ∀ m (hm : k = m + 1), txB (ps[m]'(by omega)).k ps[k].k = true := by
  have hs := fitP_step (ps.take k) ps[k] hL
  rw [← List.take_succ_eq_append_getElem hlt] at hs
  constructor
  · intro h
    have h1 := hs.1 h
    have h2 := h.all ps[k] (by rw [List.take_succ_eq_append_getElem hlt]; exact List.mem_append_right _ List.mem_cons_self)
    refine ⟨⟨h2.1, h1.2.1⟩, h1.2.2, ?_⟩
    rintro m rfl
    rw [lastK_take (by omega)] at h1
    exact h1.1
  · rintro ⟨⟨h1, h2⟩, h3, h4⟩
    refine hs.2 ⟨?_, h2, h3⟩
    cases k with
    | zero =>
      show txB tx0 _ = true
      rw [tx0_before]; simp; omega
    | succ m => rw [lastK_take (by omega)]; exact h4 m rfl
theorem lastC_take {ps : List Se} {m : Nat} (h : m < ps.length) : lastC (ps.take (m + 1)) = ps[m].cl := by
  rw [List.take_succ_eq_append_getElem h, lastC_snoc]
theorem okS_step {ps : List Se} {k : Nat} (hL : SsL (ps.take k)) (hlt : k < ps.length) : SsL (ps.take (k + 1)) ↔ SeOk ps[k] ∧ ∀ m (hm : k = m + 1), (ps[m]'(by omega)).cl < ps[k].cl := by
  have hs := fitS_step (ps.take k) ps[k] hL
  rw [← List.take_succ_eq_append_getElem hlt] at hs
  constructor
  · intro h
    have h1 := hs.1 h
    have h2 := h.all ps[k] (by rw [List.take_succ_eq_append_getElem hlt]; exact List.mem_append_right _ List.mem_cons_self)
    refine ⟨h2, ?_⟩
    rintro m rfl
    rw [lastC_take (by omega)] at h1
    omega
  · rintro ⟨h1, h4⟩
    refine hs.2 ⟨⟨?_, h1.1.2⟩, h1.2⟩
    cases k with
    | zero =>
      have h5 := h1.1.1
      show (0 : Int) + 1 ≤ _
      omega
    | succ m =>
      rw [lastC_take (by omega)]
      have := h4 m rfl
      omega

theorem quiet_at {P : Program} {C : World → Prop} {o : Oper} {a : Act} {w : World} {v : Value} (h : (execOp a.eval o).run P w = .ok (.value v) w) : o.quietAt P a C w v := by
  unfold Oper.quietAt; rw [h]; exact ⟨rfl, rfl⟩
theorem quiet_ent {P : Program} {C : World → Prop} {o : Oper} {a : Act} {w : World} {v : Value} (f : FuncId) (args : Array Value) (h : (execOp a.eval o).run P w = .ok (.enter f args) w) (hc : Calls P f args w fun e w'' => e = .returned v ∧ C w'') : o.quietAt P a C w v := by
  unfold Oper.quietAt; rw [h]; exact ⟨rfl, hc⟩
section
variable {P : Program} {ops : Array Oper} {C : World → Prop} {o : Oper} {a : Act} {K : Act → Prop}
theorem quiet_val (v : Value) (hw : Region.wanted o (yielded ops a.tmps) = true) (h : ∀ w', C w' → (execOp a.eval o).run P w' = .ok (.value v) w') (hK : K (a.put o.dst v)) : if Region.wanted o (yielded ops a.tmps) then o.quiet P a C K else K (a.put o.dst undef) := by
  rw [if_pos hw]
  exact ⟨v, fun w' hw' => by unfold Oper.quietAt; rw [h w' hw']; exact ⟨rfl, rfl⟩, hK⟩
theorem quiet_call (v : Value) (f : FuncId) (args : Array Value) (hw : Region.wanted o (yielded ops a.tmps) = true) (h : ∀ w', C w' → (execOp a.eval o).run P w' = .ok (.enter f args) w') (hc : ∀ w', C w' → Calls P f args w' fun e w'' => e = .returned v ∧ C w'') (hK : K (a.put o.dst v)) : if Region.wanted o (yielded ops a.tmps) then o.quiet P a C K else K (a.put o.dst undef) := by
  rw [if_pos hw]
  exact ⟨v, fun w' hw' => by unfold Oper.quietAt; rw [h w' hw']; exact ⟨rfl, hc w' hw'⟩, hK⟩
theorem quiet_skip (hw : Region.wanted o (yielded ops a.tmps) = false) (hK : K (a.put o.dst undef)) : if Region.wanted o (yielded ops a.tmps) then o.quiet P a C K else K (a.put o.dst undef) := by
  rw [hw]
  exact hK
end

set_option maxHeartbeats 8000000 in
set_option maxRecDepth 100000 in
theorem l5tableOk_any (v u : Value) (ps : List Pr) (ss : List Se) (w : World) (hv : Ps w v ps) (hu : Ss w u ss) (ht : ∀ p ∈ ps, p.k.size ≤ 1048576 ∧ p.v.size ≤ 1048576) (hs : ∀ p ∈ ss, p.v.size ≤ 1048576) (hn : ps.length ≤ 1048576) (hm : ss.length ≤ 1048576) :
    Calls Try.prog 48 #[.agg #[v, u]] w fun e w' => Says (PsOk ps ∧ SsOk ss) e ∧ Below w.heap.size w w' := by
  obtain ⟨a, cap, rfl⟩ : ∃ a cap, v = .slice a ps.length cap := by obtain ⟨_, a, cap, e, _⟩ := hv; exact ⟨a, cap, e⟩
  obtain ⟨a2, cap2, rfl⟩ : ∃ a cap, u = .slice a ss.length cap := by obtain ⟨_, a, cap, e, _⟩ := hu; exact ⟨a, cap, e⟩
  have HV : Hid (Ps w (.slice a ps.length cap) ps) := hv
  have HU : Hid (Ss w (.slice a2 ss.length cap2) ss) := hu
  have HSS : Hid (∀ p ∈ ss, p.v.size ≤ 1048576) := hs
  clear hv hu hs
  obtain ⟨W, hW⟩ : ∃ W, W = w.alloc (.cells #[.slice a ps.length cap, .slice a2 ss.length cap2] 29) := ⟨_, rfl⟩
  have hWz : W.heap.size = w.heap.size + 1 := by rw [hW]; simp
  have BX : Hid (Blk W w.heap.size #[.slice a ps.length cap, .slice a2 ss.length cap2] 29) := by rw [hW]; exact Blk.new _ _ _
  have HW : Hid (Below w.heap.size w W) := by rw [hW]; exact (Below.refl _ _).alloc (Nat.le_refl _) _
  by_cases h256 : ps.length ≤ 256
  · go_enter Try.func48, Try.ntmps48
    go_wp2
    rw [← hW]
    clear hW
    go_loopw [3] (fun i wr => ∃ k : Nat, k ≤ ps.length ∧ i = .int .i64 k ∧ PsL (ps.take k) ∧ Below W.heap.size W wr) (fun i _ => ps.length - (RowKit.intOf i).toNat)
    case atStart => exact ⟨0, Nat.zero_le _, rfl, .nil, Below.refl _ _⟩
    case round =>
      obtain ⟨k, hk, rfl, hL, hB⟩ := hrel
      have HB : Hid (Below W.heap.size W wr) := hB
      have HL : Hid (PsL (ps.take k)) := hL
      have hsz := hB.size
      have bX : Blk wr w.heap.size #[.slice a ps.length cap, .slice a2 ss.length cap2] 29 := BX.out.below hB (by omega)
      have x0 : wr.cell? ⟨w.heap.size, 0, none⟩ = some (.slice a ps.length cap) := bX.cell 0
      have hbw : Hid (Below w.heap.size w wr) := HW.out.trans (hB.mono (by omega))
      clear hL hB bX
      by_cases hlt : k < ps.length
      · obtain ⟨b, off, rfl, hj⟩ := Ps.at_ (HV.out.below hbw.out) hlt
        obtain ⟨c0, c1⟩ := hj k hlt
        obtain ⟨z0, z1⟩ := ht _ (List.getElem_mem hlt)
        have HS : Hid (_ ↔ _) := okP_step HL.out hlt
        have HNO : Hid (¬ PsL (ps.take (k + 1)) → ¬ (PsOk ps ∧ SsOk ss)) := fun h h' => h (PsL.take ⟨h'.1.all, h'.1.rise⟩ _)
        have HPV : Hid (∀ m (hm : k = m + 1), wr.cell? ⟨b, off + m * 2, none⟩ = some (.string (ps[m]'(by omega)).k)) := fun m hm => (hj m (by omega)).1
        clear hj
        cases h1 : inB ps[k].k.size 1 64
        · have HN : Hid (¬ (PsOk ps ∧ SsOk ss)) := HNO.out fun h => by
            have h2 := (HS.out.1 h).1
            rw [(inB_iff _ _ _).2 (by omega)] at h1; cases h1
          clear HS HPV
          generalize ps[k] = p at *
          go_wp2_with (go_at_call 74; refine (l1in_any _ _ _ _).mono ?_; rintro r w' ⟨rfl, rfl⟩)
          go_ret
          exact ⟨.no HN.out, hbw.out⟩
        · have h1' := (inB_iff _ _ _).1 h1
          by_cases h3 : ps[k].v.size ≤ 64
          · by_cases j3 : k = 0
            · have j3d : decide (0 < k) = false := by simp; omega
              have HN : Hid (PsL (ps.take (k + 1))) := HS.out.2 ⟨by omega, h3, fun m hm => by omega⟩
              clear HS HPV j3
              generalize ps[k] = p at *
              go_wp2_with (go_at_call 74; refine (l1in_any _ _ _ _).mono ?_; rintro r w' ⟨rfl, rfl⟩)
              go_quiet (fail)
              go_wp2
              go_roundw
              case rel => exact ⟨k + 1, by omega, by go_num, HN.out, HB.out.trans (below_drewT _ _ _)⟩
              case measure => simp [RowKit.intOf]; omega
            · obtain ⟨m, rfl⟩ : ∃ m, k = m + 1 := ⟨k - 1, by omega⟩
              have cm := HPV.out m rfl
              clear j3
              cases h4 : txB (ps[m]'(by omega)).k ps[m + 1].k
              · have HN : Hid (¬ (PsOk ps ∧ SsOk ss)) := HNO.out fun h => by
                  have h2 := (HS.out.1 h).2.2 m rfl
                  rw [h4] at h2; cases h2
                have hq : (Op.bytesLess ps[m + 1].k.toList (ps[m]'(by omega)).k.toList || ps[m + 1].k.toList == (ps[m]'(by omega)).k.toList) = true := by rw [leq_tx, h4]; rfl
                clear HS HPV h4
                generalize ps[m + 1] = p at *
                generalize (ps[m]'(by omega)) = q at *
                go_wp2_with (go_at_call 74; refine (l1in_any _ _ _ _).mono ?_; rintro r w' ⟨rfl, rfl⟩)
                go_quiet (fail)
                go_wp2
                go_ret
                exact ⟨.no HN.out, hbw.out.trans (below_drewT _ _ _)⟩
              · have HN : Hid (PsL (ps.take (m + 1 + 1))) := HS.out.2 ⟨by omega, h3, fun m' hm => by obtain rfl : m = m' := (by omega); exact h4⟩
                have hq : (Op.bytesLess ps[m + 1].k.toList (ps[m]'(by omega)).k.toList || ps[m + 1].k.toList == (ps[m]'(by omega)).k.toList) = false := by rw [leq_tx, h4]; rfl
                clear HS HPV h4
                generalize ps[m + 1] = p at *
                generalize (ps[m]'(by omega)) = q at *
                go_wp2_with (go_at_call 74; refine (l1in_any _ _ _ _).mono ?_; rintro r w' ⟨rfl, rfl⟩)
                go_quiet (fail)
                go_wp2
                go_roundw
                case rel => exact ⟨m + 1 + 1, by omega, by go_num, HN.out, HB.out.trans (below_drewT _ _ _)⟩
                case measure => simp [RowKit.intOf]; omega
          · have HN : Hid (¬ (PsOk ps ∧ SsOk ss)) := HNO.out fun h => h3 (HS.out.1 h).2.1
            clear HS HPV
            generalize ps[k] = p at *
            go_wp2_with (go_at_call 74; refine (l1in_any _ _ _ _).mono ?_; rintro r w' ⟨rfl, rfl⟩)
            go_ret
            exact ⟨.no HN.out, hbw.out⟩
      · obtain rfl : k = ps.length := by omega
        have HPO : Hid (PsOk ps) := by
          have h := HL.out
          rw [List.take_length] at h
          exact ⟨h256, h.all, h.rise⟩
        clear HL
        obtain ⟨W2, hW2⟩ : ∃ W2, W2 = wr := ⟨_, rfl⟩
        subst hW2
        go_wp2
        go_loopw [4] (fun i wr => ∃ k : Nat, k ≤ ss.length ∧ i = .int .i64 k ∧ SsL (ss.take k) ∧ Below W.heap.size W wr) (fun i _ => ss.length - (RowKit.intOf i).toNat)
        case atStart => exact ⟨0, Nat.zero_le _, rfl, .nil, HB.out⟩
        case round =>
          clear HB hsz x0 hbw
          obtain ⟨k2, hk2, rfl, hL, hB⟩ := hrel
          have HB : Hid (Below W.heap.size W wr) := hB
          have HL : Hid (SsL (ss.take k2)) := hL
          have hsz := hB.size
          have bX : Blk wr w.heap.size #[.slice a ps.length cap, .slice a2 ss.length cap2] 29 := BX.out.below hB (by omega)
          have x1 : wr.cell? ⟨w.heap.size, 1, none⟩ = some (.slice a2 ss.length cap2) := bX.cell 1
          have hbw : Hid (Below w.heap.size w wr) := HW.out.trans (hB.mono (by omega))
          clear hL hB bX
          by_cases hlt2 : k2 < ss.length
          · obtain ⟨b2, off2, e2, hj⟩ := Ss.at_ (HU.out.below hbw.out) hlt2
            subst e2
            obtain ⟨c0, c1, c2, c3⟩ := hj k2 hlt2
            have hbl := cell_lt c0
            have z1 := HSS.out _ (List.getElem_mem hlt2)
            have HS : Hid (_ ↔ _) := okS_step HL.out hlt2
            have HNO : Hid (¬ SsL (ss.take (k2 + 1)) → ¬ (PsOk ps ∧ SsOk ss)) := fun h h' => h (SsL.take h'.2.l _)
            have HPV : Hid (∀ m (hm : k2 = m + 1), wr.cell? ⟨b2, off2 + m * 4, none⟩ = some (.int .i64 (ss[m]'(by omega)).cl)) := fun m hm => (hj m (by omega)).1
            clear hj
            by_cases h1 : SeOk ss[k2]
            · have HQ : Hid (∀ w', Calls Try.prog 75 #[.agg #[.int .i64 ss[k2].cl, .int .i64 ss[k2].sq, .int .i64 ss[k2].cd, .string ss[k2].v]] w' fun e w'' => e = .returned (.bool true) ∧ Below w'.heap.size w' w'') := fun w' => (l5sessionOk_any _ z1 w').mono fun e w'' ⟨h, hb⟩ => ⟨by rcases h.bool with ⟨_, h⟩ | ⟨h, _⟩; exact h; exact absurd h1 h, hb⟩
              by_cases j3 : k2 = 0
              · have j3d : decide (0 < k2) = false := by simp; omega
                have j3i : decide (0 < (k2 : Int)) = false := by simp; omega
                have HN : Hid (SsL (ss.take (k2 + 1))) := HS.out.2 ⟨h1, fun m hm => by omega⟩
                clear HS HPV h1 j3
                generalize ss[k2] = p at *
                go_wp2
                refine wp_region_quiet (C := fun w' => Below wr.heap.size wr w') (by kernel_rfl) (by kernel_rfl) ((Below.refl _ _).drew) ?_
                rw [List.toList_toArray]
                go_big_quiet_want; refine ⟨.pointer (some ⟨w.heap.size, 1, none⟩), ?_, ?_⟩
                · intro w' hw'; go_simp
                go_big_quiet_on
                simp only [Act.put, List.setIfInBounds_toArray, List.set_cons_zero, List.set_cons_succ]
                go_big_quiet_want; refine ⟨.slice (some ⟨b2, off2, none⟩) ss.length cap2, ?_, ?_⟩
                · intro w' hw'
                  have y1 : w'.cell? ⟨w.heap.size, 1, none⟩ = some (.slice (some ⟨b2, off2, none⟩) ss.length cap2) := (hw'.cell (p := ⟨w.heap.size, 1, none⟩) (by simp only []; omega)).trans x1
                  have d0 := (hw'.cell (p := ⟨b2, off2 + k2 * 4, none⟩) hbl).trans c0
                  have d1 := (hw'.cell (p := ⟨b2, off2 + k2 * 4 + 1, none⟩) hbl).trans c1
                  have d2 := (hw'.cell (p := ⟨b2, off2 + k2 * 4 + 2, none⟩) hbl).trans c2
                  have d3 := (hw'.cell (p := ⟨b2, off2 + k2 * 4 + 3, none⟩) hbl).trans c3
                  go_simp
                go_big_quiet_on
                simp only [Act.put, List.setIfInBounds_toArray, List.set_cons_zero, List.set_cons_succ]
                go_big_quiet_want; refine ⟨.int .i64 k2, ?_, ?_⟩
                · intro w' hw'; go_simp
                go_big_quiet_on
                simp only [Act.put, List.setIfInBounds_toArray, List.set_cons_zero, List.set_cons_succ]
                go_big_quiet_want; refine ⟨.pointer (some ⟨b2, off2 + k2 * 4, none⟩), ?_, ?_⟩
                · intro w' hw'; go_simp
                go_big_quiet_on
                simp only [Act.put, List.setIfInBounds_toArray, List.set_cons_zero, List.set_cons_succ]
                go_big_quiet_want; refine ⟨.agg #[.int .i64 p.cl, .int .i64 p.sq, .int .i64 p.cd, .string p.v], ?_, ?_⟩
                · intro w' hw'
                  have y1 : w'.cell? ⟨w.heap.size, 1, none⟩ = some (.slice (some ⟨b2, off2, none⟩) ss.length cap2) := (hw'.cell (p := ⟨w.heap.size, 1, none⟩) (by simp only []; omega)).trans x1
                  have d0 := (hw'.cell (p := ⟨b2, off2 + k2 * 4, none⟩) hbl).trans c0
                  have d1 := (hw'.cell (p := ⟨b2, off2 + k2 * 4 + 1, none⟩) hbl).trans c1
                  have d2 := (hw'.cell (p := ⟨b2, off2 + k2 * 4 + 2, none⟩) hbl).trans c2
                  have d3 := (hw'.cell (p := ⟨b2, off2 + k2 * 4 + 3, none⟩) hbl).trans c3
                  go_simp
                go_big_quiet_on
                simp only [Act.put, List.setIfInBounds_toArray, List.set_cons_zero, List.set_cons_succ]
                go_big_quiet_want; refine ⟨.bool true, fun w' hw' => quiet_ent 75 #[.agg #[.int .i64 p.cl, .int .i64 p.sq, .int .i64 p.cd, .string p.v]] ?_ ((HQ.out w').mono fun e w'' ⟨h1, h2⟩ => ⟨h1, hw'.trans (h2.mono hw'.size)⟩), ?_⟩
                · go_simp
                go_big_quiet_on
                simp only [Act.put, List.setIfInBounds_toArray, List.set_cons_zero, List.set_cons_succ]
                go_big_quiet_want; refine ⟨.bool false, ?_, ?_⟩
                · intro w' hw'; go_simp
                go_big_quiet_on
                simp only [Act.put, List.setIfInBounds_toArray, List.set_cons_zero, List.set_cons_succ]
                go_big_quiet_want; refine ⟨.bool false, ?_, ?_⟩
                · intro w' hw'; go_simp
                go_big_quiet_on
                simp only [Act.put, List.setIfInBounds_toArray, List.set_cons_zero, List.set_cons_succ]
                go_big_quiet_want; refine ⟨.int .i64 k2, ?_, ?_⟩
                · intro w' hw'; go_simp
                go_big_quiet_on
                simp only [Act.put, List.setIfInBounds_toArray, List.set_cons_zero, List.set_cons_succ]
                go_big_quiet_want; refine ⟨.bool false, ?_, ?_⟩
                · intro w' hw'; go_simp
                go_big_quiet_on
                simp only [Act.put, List.setIfInBounds_toArray, List.set_cons_zero, List.set_cons_succ]
                go_big_quiet_want; refine ⟨.bool false, ?_, ?_⟩
                · intro w' hw'; go_simp
                go_big_quiet_on
                simp only [Act.put, List.setIfInBounds_toArray, List.set_cons_zero, List.set_cons_succ]
                go_big_quiet_skip
                go_big_quiet_skip
                go_big_quiet_skip
                go_big_quiet_skip
                go_big_quiet_skip
                go_big_quiet_skip
                go_big_quiet_skip
                go_big_quiet_skip
                go_big_quiet_skip
                go_big_quiet_skip
                go_big_quiet_skip
                go_big_quiet_skip
                go_big_quiet_skip
                go_big_quiet_skip
                go_big_quiet_want; refine ⟨.bool false, ?_, ?_⟩
                · intro w' hw'; go_simp
                go_big_quiet_on
                simp only [Act.put, List.setIfInBounds_toArray, List.set_cons_zero, List.set_cons_succ]
                go_big_quiet_want; refine ⟨.bool false, ?_, ?_⟩
                · intro w' hw'; go_simp
                go_big_quiet_on
                simp only [Act.put, List.setIfInBounds_toArray, List.set_cons_zero, List.set_cons_succ]
                refine wpQuiet_nil ?_
                intro w1 hb1
                have hz1 := hb1.size
                have HB1 : Hid (Below wr.heap.size wr w1) := hb1
                clear hb1
                all_goals go_wp2
                all_goals (
                  go_roundw
                  case rel => exact ⟨k2 + 1, by omega, by go_num, HN.out, HB.out.trans (HB1.out.mono (by omega))⟩
                  case measure => simp [RowKit.intOf]; omega)
              · obtain ⟨m, rfl⟩ : ∃ m, k2 = m + 1 := ⟨k2 - 1, by omega⟩
                have cm := HPV.out m rfl
                have j3i : decide (0 < (m : Int) + 1) = true := by simp <;> omega
                have j3n : decide (0 < ((m + 1 : Nat) : Int)) = true := by simp <;> omega
                have hp1 : (0 : Int) ≤ (m : Int) + 1 := by omega
                have hp0 : (0 : Int) ≤ (m : Int) := by omega
                have hp2 : (m : Int) + 1 < ss.length := by omega
                have hp3 : (m : Int) < ss.length := by omega
                have hwm : IntKind.i64.wrap (m : Int) = (m : Int) := by first | go_num | (simp [IntKind.wrap, IntKind.bits, IntKind.signed]; omega)
                clear j3
                by_cases h4 : (ss[m]'(by omega)).cl < ss[m + 1].cl
                · have HN : Hid (SsL (ss.take (m + 1 + 1))) := HS.out.2 ⟨h1, fun m' hm => by obtain rfl : m = m' := (by omega); exact h4⟩
                  have hq : decide (ss[m + 1].cl ≤ (ss[m]'(by omega)).cl) = false := by simp; omega
                  clear HS HPV h4 h1
                  generalize ss[m + 1] = p at *
                  generalize (ss[m]'(by omega)) = q at *
                  go_wp2
                  refine wp_region_quiet (C := fun w' => Below wr.heap.size wr w') (by kernel_rfl) (by kernel_rfl) ((Below.refl _ _).drew) ?_
                  rw [List.toList_toArray]
                  go_big_quiet_want; refine ⟨.pointer (some ⟨w.heap.size, 1, none⟩), ?_, ?_⟩
                  · intro w' hw'; go_simp
                  go_big_quiet_on
                  simp only [Act.put, List.setIfInBounds_toArray, List.set_cons_zero, List.set_cons_succ]
                  go_big_quiet_want; refine ⟨.slice (some ⟨b2, off2, none⟩) ss.length cap2, ?_, ?_⟩
                  · intro w' hw'
                    have y1 : w'.cell? ⟨w.heap.size, 1, none⟩ = some (.slice (some ⟨b2, off2, none⟩) ss.length cap2) := (hw'.cell (p := ⟨w.heap.size, 1, none⟩) (by simp only []; omega)).trans x1
                    have d0 := (hw'.cell (p := ⟨b2, off2 + (m + 1) * 4, none⟩) hbl).trans c0
                    have d1 := (hw'.cell (p := ⟨b2, off2 + (m + 1) * 4 + 1, none⟩) hbl).trans c1
                    have d2 := (hw'.cell (p := ⟨b2, off2 + (m + 1) * 4 + 2, none⟩) hbl).trans c2
                    have d3 := (hw'.cell (p := ⟨b2, off2 + (m + 1) * 4 + 3, none⟩) hbl).trans c3
                    have dm := (hw'.cell (p := ⟨b2, off2 + m * 4, none⟩) hbl).trans cm
                    go_simp
                  go_big_quiet_on
                  simp only [Act.put, List.setIfInBounds_toArray, List.set_cons_zero, List.set_cons_succ]
                  go_big_quiet_want; refine ⟨.int .i64 ((m : Int) + 1), ?_, ?_⟩
                  · intro w' hw'; go_simp
                  go_big_quiet_on
                  simp only [Act.put, List.setIfInBounds_toArray, List.set_cons_zero, List.set_cons_succ]
                  go_big_quiet_want; refine ⟨.pointer (some ⟨b2, off2 + (m + 1) * 4, none⟩), ?_, ?_⟩
                  · intro w' hw'; go_simp
                  go_big_quiet_on
                  simp only [Act.put, List.setIfInBounds_toArray, List.set_cons_zero, List.set_cons_succ]
                  go_big_quiet_want; refine ⟨.agg #[.int .i64 p.cl, .int .i64 p.sq, .int .i64 p.cd, .string p.v], ?_, ?_⟩
                  · intro w' hw'
                    have y1 : w'.cell? ⟨w.heap.size, 1, none⟩ = some (.slice (some ⟨b2, off2, none⟩) ss.length cap2) := (hw'.cell (p := ⟨w.heap.size, 1, none⟩) (by simp only []; omega)).trans x1
                    have d0 := (hw'.cell (p := ⟨b2, off2 + (m + 1) * 4, none⟩) hbl).trans c0
                    have d1 := (hw'.cell (p := ⟨b2, off2 + (m + 1) * 4 + 1, none⟩) hbl).trans c1
                    have d2 := (hw'.cell (p := ⟨b2, off2 + (m + 1) * 4 + 2, none⟩) hbl).trans c2
                    have d3 := (hw'.cell (p := ⟨b2, off2 + (m + 1) * 4 + 3, none⟩) hbl).trans c3
                    have dm := (hw'.cell (p := ⟨b2, off2 + m * 4, none⟩) hbl).trans cm
                    go_simp
                  go_big_quiet_on
                  simp only [Act.put, List.setIfInBounds_toArray, List.set_cons_zero, List.set_cons_succ]
                  go_big_quiet_want; refine ⟨.bool true, fun w' hw' => quiet_ent 75 #[.agg #[.int .i64 p.cl, .int .i64 p.sq, .int .i64 p.cd, .string p.v]] ?_ ((HQ.out w').mono fun e w'' ⟨h1, h2⟩ => ⟨h1, hw'.trans (h2.mono hw'.size)⟩), ?_⟩
                  · go_simp
                  go_big_quiet_on
                  simp only [Act.put, List.setIfInBounds_toArray, List.set_cons_zero, List.set_cons_succ]
                  go_big_quiet_want; refine ⟨.bool false, ?_, ?_⟩
                  · intro w' hw'; go_simp
                  go_big_quiet_on
                  simp only [Act.put, List.setIfInBounds_toArray, List.set_cons_zero, List.set_cons_succ]
                  go_big_quiet_want; refine ⟨.bool false, ?_, ?_⟩
                  · intro w' hw'; go_simp
                  go_big_quiet_on
                  simp only [Act.put, List.setIfInBounds_toArray, List.set_cons_zero, List.set_cons_succ]
                  go_big_quiet_want; refine ⟨.int .i64 ((m : Int) + 1), ?_, ?_⟩
                  · intro w' hw'; go_simp
                  go_big_quiet_on
                  simp only [Act.put, List.setIfInBounds_toArray, List.set_cons_zero, List.set_cons_succ]
                  go_big_quiet_want; refine ⟨.bool true, ?_, ?_⟩
                  · intro w' hw'; go_simp
                  go_big_quiet_on
                  simp only [Act.put, List.setIfInBounds_toArray, List.set_cons_zero, List.set_cons_succ]
                  go_big_quiet_want; refine ⟨.bool true, ?_, ?_⟩
                  · intro w' hw'; go_simp
                  go_big_quiet_on
                  simp only [Act.put, List.setIfInBounds_toArray, List.set_cons_zero, List.set_cons_succ]
                  go_big_quiet_want; refine ⟨.pointer (some ⟨w.heap.size, 1, none⟩), ?_, ?_⟩
                  · intro w' hw'; go_simp
                  go_big_quiet_on
                  simp only [Act.put, List.setIfInBounds_toArray, List.set_cons_zero, List.set_cons_succ]
                  go_big_quiet_want; refine ⟨.slice (some ⟨b2, off2, none⟩) ss.length cap2, ?_, ?_⟩
                  · intro w' hw'
                    have y1 : w'.cell? ⟨w.heap.size, 1, none⟩ = some (.slice (some ⟨b2, off2, none⟩) ss.length cap2) := (hw'.cell (p := ⟨w.heap.size, 1, none⟩) (by simp only []; omega)).trans x1
                    have d0 := (hw'.cell (p := ⟨b2, off2 + (m + 1) * 4, none⟩) hbl).trans c0
                    have d1 := (hw'.cell (p := ⟨b2, off2 + (m + 1) * 4 + 1, none⟩) hbl).trans c1
                    have d2 := (hw'.cell (p := ⟨b2, off2 + (m + 1) * 4 + 2, none⟩) hbl).trans c2
                    have d3 := (hw'.cell (p := ⟨b2, off2 + (m + 1) * 4 + 3, none⟩) hbl).trans c3
                    have dm := (hw'.cell (p := ⟨b2, off2 + m * 4, none⟩) hbl).trans cm
                    go_simp
                  go_big_quiet_on
                  simp only [Act.put, List.setIfInBounds_toArray, List.set_cons_zero, List.set_cons_succ]
                  go_big_quiet_want; refine ⟨.int .i64 ((m : Int) + 1), ?_, ?_⟩
                  · intro w' hw'; go_simp
                  go_big_quiet_on
                  simp only [Act.put, List.setIfInBounds_toArray, List.set_cons_zero, List.set_cons_succ]
                  go_big_quiet_want; refine ⟨.pointer (some ⟨b2, off2 + (m + 1) * 4, none⟩), ?_, ?_⟩
                  · intro w' hw'; go_simp
                  go_big_quiet_on
                  simp only [Act.put, List.setIfInBounds_toArray, List.set_cons_zero, List.set_cons_succ]
                  go_big_quiet_want; refine ⟨.pointer (some ⟨b2, off2 + (m + 1) * 4, none⟩), ?_, ?_⟩
                  · intro w' hw'; go_simp
                  go_big_quiet_on
                  simp only [Act.put, List.setIfInBounds_toArray, List.set_cons_zero, List.set_cons_succ]
                  go_big_quiet_want; refine ⟨.int .i64 p.cl, ?_, ?_⟩
                  · intro w' hw'
                    have y1 : w'.cell? ⟨w.heap.size, 1, none⟩ = some (.slice (some ⟨b2, off2, none⟩) ss.length cap2) := (hw'.cell (p := ⟨w.heap.size, 1, none⟩) (by simp only []; omega)).trans x1
                    have d0 := (hw'.cell (p := ⟨b2, off2 + (m + 1) * 4, none⟩) hbl).trans c0
                    have d1 := (hw'.cell (p := ⟨b2, off2 + (m + 1) * 4 + 1, none⟩) hbl).trans c1
                    have d2 := (hw'.cell (p := ⟨b2, off2 + (m + 1) * 4 + 2, none⟩) hbl).trans c2
                    have d3 := (hw'.cell (p := ⟨b2, off2 + (m + 1) * 4 + 3, none⟩) hbl).trans c3
                    have dm := (hw'.cell (p := ⟨b2, off2 + m * 4, none⟩) hbl).trans cm
                    go_simp
                  go_big_quiet_on
                  simp only [Act.put, List.setIfInBounds_toArray, List.set_cons_zero, List.set_cons_succ]
                  go_big_quiet_want; refine ⟨.pointer (some ⟨w.heap.size, 1, none⟩), ?_, ?_⟩
                  · intro w' hw'; go_simp
                  go_big_quiet_on
                  simp only [Act.put, List.setIfInBounds_toArray, List.set_cons_zero, List.set_cons_succ]
                  go_big_quiet_want; refine ⟨.slice (some ⟨b2, off2, none⟩) ss.length cap2, ?_, ?_⟩
                  · intro w' hw'
                    have y1 : w'.cell? ⟨w.heap.size, 1, none⟩ = some (.slice (some ⟨b2, off2, none⟩) ss.length cap2) := (hw'.cell (p := ⟨w.heap.size, 1, none⟩) (by simp only []; omega)).trans x1
                    have d0 := (hw'.cell (p := ⟨b2, off2 + (m + 1) * 4, none⟩) hbl).trans c0
                    have d1 := (hw'.cell (p := ⟨b2, off2 + (m + 1) * 4 + 1, none⟩) hbl).trans c1
                    have d2 := (hw'.cell (p := ⟨b2, off2 + (m + 1) * 4 + 2, none⟩) hbl).trans c2
                    have d3 := (hw'.cell (p := ⟨b2, off2 + (m + 1) * 4 + 3, none⟩) hbl).trans c3
                    have dm := (hw'.cell (p := ⟨b2, off2 + m * 4, none⟩) hbl).trans cm
                    go_simp
                  go_big_quiet_on
                  simp only [Act.put, List.setIfInBounds_toArray, List.set_cons_zero, List.set_cons_succ]
                  go_big_quiet_want; refine ⟨.int .i64 ((m : Int) + 1), ?_, ?_⟩
                  · intro w' hw'; go_simp
                  go_big_quiet_on
                  simp only [Act.put, List.setIfInBounds_toArray, List.set_cons_zero, List.set_cons_succ]
                  go_big_quiet_want; refine ⟨.int .i64 (m : Int), ?_, ?_⟩
                  · intro w' hw'; go_simp
                  go_big_quiet_on
                  simp only [Act.put, List.setIfInBounds_toArray, List.set_cons_zero, List.set_cons_succ]
                  go_big_quiet_want; refine ⟨.pointer (some ⟨b2, off2 + m * 4, none⟩), ?_, ?_⟩
                  · intro w' hw'; go_simp
                  go_big_quiet_on
                  simp only [Act.put, List.setIfInBounds_toArray, List.set_cons_zero, List.set_cons_succ]
                  go_big_quiet_want; refine ⟨.pointer (some ⟨b2, off2 + m * 4, none⟩), ?_, ?_⟩
                  · intro w' hw'; go_simp
                  go_big_quiet_on
                  simp only [Act.put, List.setIfInBounds_toArray, List.set_cons_zero, List.set_cons_succ]
                  go_big_quiet_want; refine ⟨.int .i64 q.cl, ?_, ?_⟩
                  · intro w' hw'
                    have y1 : w'.cell? ⟨w.heap.size, 1, none⟩ = some (.slice (some ⟨b2, off2, none⟩) ss.length cap2) := (hw'.cell (p := ⟨w.heap.size, 1, none⟩) (by simp only []; omega)).trans x1
                    have d0 := (hw'.cell (p := ⟨b2, off2 + (m + 1) * 4, none⟩) hbl).trans c0
                    have d1 := (hw'.cell (p := ⟨b2, off2 + (m + 1) * 4 + 1, none⟩) hbl).trans c1
                    have d2 := (hw'.cell (p := ⟨b2, off2 + (m + 1) * 4 + 2, none⟩) hbl).trans c2
                    have d3 := (hw'.cell (p := ⟨b2, off2 + (m + 1) * 4 + 3, none⟩) hbl).trans c3
                    have dm := (hw'.cell (p := ⟨b2, off2 + m * 4, none⟩) hbl).trans cm
                    go_simp
                  go_big_quiet_on
                  simp only [Act.put, List.setIfInBounds_toArray, List.set_cons_zero, List.set_cons_succ]
                  go_big_quiet_want; refine ⟨.bool false, ?_, ?_⟩
                  · intro w' hw'; go_simp
                  go_big_quiet_on
                  simp only [Act.put, List.setIfInBounds_toArray, List.set_cons_zero, List.set_cons_succ]
                  go_big_quiet_want; refine ⟨.bool false, ?_, ?_⟩
                  · intro w' hw'; go_simp
                  go_big_quiet_on
                  simp only [Act.put, List.setIfInBounds_toArray, List.set_cons_zero, List.set_cons_succ]
                  go_big_quiet_want; refine ⟨.bool false, ?_, ?_⟩
                  · intro w' hw'; go_simp
                  go_big_quiet_on
                  simp only [Act.put, List.setIfInBounds_toArray, List.set_cons_zero, List.set_cons_succ]
                  refine wpQuiet_nil ?_
                  intro w1 hb1
                  have hz1 := hb1.size
                  have HB1 : Hid (Below wr.heap.size wr w1) := hb1
                  clear hb1
                  all_goals go_wp2
                  all_goals (
                    go_roundw
                    case rel => exact ⟨m + 1 + 1, by omega, by go_num, HN.out, HB.out.trans (HB1.out.mono (by omega))⟩
                    case measure => simp [RowKit.intOf]; omega)
                · have HN : Hid (¬ (PsOk ps ∧ SsOk ss)) := HNO.out fun h => h4 ((HS.out.1 h).2 m rfl)
                  have hq : decide (ss[m + 1].cl ≤ (ss[m]'(by omega)).cl) = true := by simp; omega
                  clear HS HPV h4 h1
                  generalize ss[m + 1] = p at *
                  generalize (ss[m]'(by omega)) = q at *
                  go_wp2
                  refine wp_region_quiet (C := fun w' => Below wr.heap.size wr w') (by kernel_rfl) (by kernel_rfl) ((Below.refl _ _).drew) ?_
                  rw [List.toList_toArray]
                  go_big_quiet_want; refine ⟨.pointer (some ⟨w.heap.size, 1, none⟩), ?_, ?_⟩
                  · intro w' hw'; go_simp
                  go_big_quiet_on
                  simp only [Act.put, List.setIfInBounds_toArray, List.set_cons_zero, List.set_cons_succ]
                  go_big_quiet_want; refine ⟨.slice (some ⟨b2, off2, none⟩) ss.length cap2, ?_, ?_⟩
                  · intro w' hw'
                    have y1 : w'.cell? ⟨w.heap.size, 1, none⟩ = some (.slice (some ⟨b2, off2, none⟩) ss.length cap2) := (hw'.cell (p := ⟨w.heap.size, 1, none⟩) (by simp only []; omega)).trans x1
                    have d0 := (hw'.cell (p := ⟨b2, off2 + (m + 1) * 4, none⟩) hbl).trans c0
                    have d1 := (hw'.cell (p := ⟨b2, off2 + (m + 1) * 4 + 1, none⟩) hbl).trans c1
                    have d2 := (hw'.cell (p := ⟨b2, off2 + (m + 1) * 4 + 2, none⟩) hbl).trans c2
                    have d3 := (hw'.cell (p := ⟨b2, off2 + (m + 1) * 4 + 3, none⟩) hbl).trans c3
                    have dm := (hw'.cell (p := ⟨b2, off2 + m * 4, none⟩) hbl).trans cm
                    go_simp
                  go_big_quiet_on
                  simp only [Act.put, List.setIfInBounds_toArray, List.set_cons_zero, List.set_cons_succ]
                  go_big_quiet_want; refine ⟨.int .i64 ((m : Int) + 1), ?_, ?_⟩
                  · intro w' hw'; go_simp
                  go_big_quiet_on
                  simp only [Act.put, List.setIfInBounds_toArray, List.set_cons_zero, List.set_cons_succ]
                  go_big_quiet_want; refine ⟨.pointer (some ⟨b2, off2 + (m + 1) * 4, none⟩), ?_, ?_⟩
                  · intro w' hw'; go_simp
                  go_big_quiet_on
                  simp only [Act.put, List.setIfInBounds_toArray, List.set_cons_zero, List.set_cons_succ]
                  go_big_quiet_want; refine ⟨.agg #[.int .i64 p.cl, .int .i64 p.sq, .int .i64 p.cd, .string p.v], ?_, ?_⟩
                  · intro w' hw'
                    have y1 : w'.cell? ⟨w.heap.size, 1, none⟩ = some (.slice (some ⟨b2, off2, none⟩) ss.length cap2) := (hw'.cell (p := ⟨w.heap.size, 1, none⟩) (by simp only []; omega)).trans x1
                    have d0 := (hw'.cell (p := ⟨b2, off2 + (m + 1) * 4, none⟩) hbl).trans c0
                    have d1 := (hw'.cell (p := ⟨b2, off2 + (m + 1) * 4 + 1, none⟩) hbl).trans c1
                    have d2 := (hw'.cell (p := ⟨b2, off2 + (m + 1) * 4 + 2, none⟩) hbl).trans c2
                    have d3 := (hw'.cell (p := ⟨b2, off2 + (m + 1) * 4 + 3, none⟩) hbl).trans c3
                    have dm := (hw'.cell (p := ⟨b2, off2 + m * 4, none⟩) hbl).trans cm
                    go_simp
                  go_big_quiet_on
                  simp only [Act.put, List.setIfInBounds_toArray, List.set_cons_zero, List.set_cons_succ]
                  go_big_quiet_want; refine ⟨.bool true, fun w' hw' => quiet_ent 75 #[.agg #[.int .i64 p.cl, .int .i64 p.sq, .int .i64 p.cd, .string p.v]] ?_ ((HQ.out w').mono fun e w'' ⟨h1, h2⟩ => ⟨h1, hw'.trans (h2.mono hw'.size)⟩), ?_⟩
                  · go_simp
                  go_big_quiet_on
                  simp only [Act.put, List.setIfInBounds_toArray, List.set_cons_zero, List.set_cons_succ]
                  go_big_quiet_want; refine ⟨.bool false, ?_, ?_⟩
                  · intro w' hw'; go_simp
                  go_big_quiet_on
                  simp only [Act.put, List.setIfInBounds_toArray, List.set_cons_zero, List.set_cons_succ]
                  go_big_quiet_want; refine ⟨.bool false, ?_, ?_⟩
                  · intro w' hw'; go_simp
                  go_big_quiet_on
                  simp only [Act.put, List.setIfInBounds_toArray, List.set_cons_zero, List.set_cons_succ]
                  go_big_quiet_want; refine ⟨.int .i64 ((m : Int) + 1), ?_, ?_⟩
                  · intro w' hw'; go_simp
                  go_big_quiet_on
                  simp only [Act.put, List.setIfInBounds_toArray, List.set_cons_zero, List.set_cons_succ]
                  go_big_quiet_want; refine ⟨.bool true, ?_, ?_⟩
                  · intro w' hw'; go_simp
                  go_big_quiet_on
                  simp only [Act.put, List.setIfInBounds_toArray, List.set_cons_zero, List.set_cons_succ]
                  go_big_quiet_want; refine ⟨.bool true, ?_, ?_⟩
                  · intro w' hw'; go_simp
                  go_big_quiet_on
                  simp only [Act.put, List.setIfInBounds_toArray, List.set_cons_zero, List.set_cons_succ]
                  go_big_quiet_want; refine ⟨.pointer (some ⟨w.heap.size, 1, none⟩), ?_, ?_⟩
                  · intro w' hw'; go_simp
                  go_big_quiet_on
                  simp only [Act.put, List.setIfInBounds_toArray, List.set_cons_zero, List.set_cons_succ]
                  go_big_quiet_want; refine ⟨.slice (some ⟨b2, off2, none⟩) ss.length cap2, ?_, ?_⟩
                  · intro w' hw'
                    have y1 : w'.cell? ⟨w.heap.size, 1, none⟩ = some (.slice (some ⟨b2, off2, none⟩) ss.length cap2) := (hw'.cell (p := ⟨w.heap.size, 1, none⟩) (by simp only []; omega)).trans x1
                    have d0 := (hw'.cell (p := ⟨b2, off2 + (m + 1) * 4, none⟩) hbl).trans c0
                    have d1 := (hw'.cell (p := ⟨b2, off2 + (m + 1) * 4 + 1, none⟩) hbl).trans c1
                    have d2 := (hw'.cell (p := ⟨b2, off2 + (m + 1) * 4 + 2, none⟩) hbl).trans c2
                    have d3 := (hw'.cell (p := ⟨b2, off2 + (m + 1) * 4 + 3, none⟩) hbl).trans c3
                    have dm := (hw'.cell (p := ⟨b2, off2 + m * 4, none⟩) hbl).trans cm
                    go_simp
                  go_big_quiet_on
                  simp only [Act.put, List.setIfInBounds_toArray, List.set_cons_zero, List.set_cons_succ]
                  go_big_quiet_want; refine ⟨.int .i64 ((m : Int) + 1), ?_, ?_⟩
                  · intro w' hw'; go_simp
                  go_big_quiet_on
                  simp only [Act.put, List.setIfInBounds_toArray, List.set_cons_zero, List.set_cons_succ]
                  go_big_quiet_want; refine ⟨.pointer (some ⟨b2, off2 + (m + 1) * 4, none⟩), ?_, ?_⟩
                  · intro w' hw'; go_simp
                  go_big_quiet_on
                  simp only [Act.put, List.setIfInBounds_toArray, List.set_cons_zero, List.set_cons_succ]
                  go_big_quiet_want; refine ⟨.pointer (some ⟨b2, off2 + (m + 1) * 4, none⟩), ?_, ?_⟩
                  · intro w' hw'; go_simp
                  go_big_quiet_on
                  simp only [Act.put, List.setIfInBounds_toArray, List.set_cons_zero, List.set_cons_succ]
                  go_big_quiet_want; refine ⟨.int .i64 p.cl, ?_, ?_⟩
                  · intro w' hw'
                    have y1 : w'.cell? ⟨w.heap.size, 1, none⟩ = some (.slice (some ⟨b2, off2, none⟩) ss.length cap2) := (hw'.cell (p := ⟨w.heap.size, 1, none⟩) (by simp only []; omega)).trans x1
                    have d0 := (hw'.cell (p := ⟨b2, off2 + (m + 1) * 4, none⟩) hbl).trans c0
                    have d1 := (hw'.cell (p := ⟨b2, off2 + (m + 1) * 4 + 1, none⟩) hbl).trans c1
                    have d2 := (hw'.cell (p := ⟨b2, off2 + (m + 1) * 4 + 2, none⟩) hbl).trans c2
                    have d3 := (hw'.cell (p := ⟨b2, off2 + (m + 1) * 4 + 3, none⟩) hbl).trans c3
                    have dm := (hw'.cell (p := ⟨b2, off2 + m * 4, none⟩) hbl).trans cm
                    go_simp
                  go_big_quiet_on
                  simp only [Act.put, List.setIfInBounds_toArray, List.set_cons_zero, List.set_cons_succ]
                  go_big_quiet_want; refine ⟨.pointer (some ⟨w.heap.size, 1, none⟩), ?_, ?_⟩
                  · intro w' hw'; go_simp
                  go_big_quiet_on
                  simp only [Act.put, List.setIfInBounds_toArray, List.set_cons_zero, List.set_cons_succ]
                  go_big_quiet_want; refine ⟨.slice (some ⟨b2, off2, none⟩) ss.length cap2, ?_, ?_⟩
                  · intro w' hw'
                    have y1 : w'.cell? ⟨w.heap.size, 1, none⟩ = some (.slice (some ⟨b2, off2, none⟩) ss.length cap2) := (hw'.cell (p := ⟨w.heap.size, 1, none⟩) (by simp only []; omega)).trans x1
                    have d0 := (hw'.cell (p := ⟨b2, off2 + (m + 1) * 4, none⟩) hbl).trans c0
                    have d1 := (hw'.cell (p := ⟨b2, off2 + (m + 1) * 4 + 1, none⟩) hbl).trans c1
                    have d2 := (hw'.cell (p := ⟨b2, off2 + (m + 1) * 4 + 2, none⟩) hbl).trans c2
                    have d3 := (hw'.cell (p := ⟨b2, off2 + (m + 1) * 4 + 3, none⟩) hbl).trans c3
                    have dm := (hw'.cell (p := ⟨b2, off2 + m * 4, none⟩) hbl).trans cm
                    go_simp
                  go_big_quiet_on
                  simp only [Act.put, List.setIfInBounds_toArray, List.set_cons_zero, List.set_cons_succ]
                  go_big_quiet_want; refine ⟨.int .i64 ((m : Int) + 1), ?_, ?_⟩
                  · intro w' hw'; go_simp
                  go_big_quiet_on
                  simp only [Act.put, List.setIfInBounds_toArray, List.set_cons_zero, List.set_cons_succ]
                  go_big_quiet_want; refine ⟨.int .i64 (m : Int), ?_, ?_⟩
                  · intro w' hw'; go_simp
                  go_big_quiet_on
                  simp only [Act.put, List.setIfInBounds_toArray, List.set_cons_zero, List.set_cons_succ]
                  go_big_quiet_want; refine ⟨.pointer (some ⟨b2, off2 + m * 4, none⟩), ?_, ?_⟩
                  · intro w' hw'; go_simp
                  go_big_quiet_on
                  simp only [Act.put, List.setIfInBounds_toArray, List.set_cons_zero, List.set_cons_succ]
                  go_big_quiet_want; refine ⟨.pointer (some ⟨b2, off2 + m * 4, none⟩), ?_, ?_⟩
                  · intro w' hw'; go_simp
                  go_big_quiet_on
                  simp only [Act.put, List.setIfInBounds_toArray, List.set_cons_zero, List.set_cons_succ]
                  go_big_quiet_want; refine ⟨.int .i64 q.cl, ?_, ?_⟩
                  · intro w' hw'
                    have y1 : w'.cell? ⟨w.heap.size, 1, none⟩ = some (.slice (some ⟨b2, off2, none⟩) ss.length cap2) := (hw'.cell (p := ⟨w.heap.size, 1, none⟩) (by simp only []; omega)).trans x1
                    have d0 := (hw'.cell (p := ⟨b2, off2 + (m + 1) * 4, none⟩) hbl).trans c0
                    have d1 := (hw'.cell (p := ⟨b2, off2 + (m + 1) * 4 + 1, none⟩) hbl).trans c1
                    have d2 := (hw'.cell (p := ⟨b2, off2 + (m + 1) * 4 + 2, none⟩) hbl).trans c2
                    have d3 := (hw'.cell (p := ⟨b2, off2 + (m + 1) * 4 + 3, none⟩) hbl).trans c3
                    have dm := (hw'.cell (p := ⟨b2, off2 + m * 4, none⟩) hbl).trans cm
                    go_simp
                  go_big_quiet_on
                  simp only [Act.put, List.setIfInBounds_toArray, List.set_cons_zero, List.set_cons_succ]
                  go_big_quiet_want; refine ⟨.bool true, ?_, ?_⟩
                  · intro w' hw'; go_simp
                  go_big_quiet_on
                  simp only [Act.put, List.setIfInBounds_toArray, List.set_cons_zero, List.set_cons_succ]
                  go_big_quiet_want; refine ⟨.bool true, ?_, ?_⟩
                  · intro w' hw'; go_simp
                  go_big_quiet_on
                  simp only [Act.put, List.setIfInBounds_toArray, List.set_cons_zero, List.set_cons_succ]
                  go_big_quiet_want; refine ⟨.bool true, ?_, ?_⟩
                  · intro w' hw'; go_simp
                  go_big_quiet_on
                  simp only [Act.put, List.setIfInBounds_toArray, List.set_cons_zero, List.set_cons_succ]
                  refine wpQuiet_nil ?_
                  intro w1 hb1
                  have hz1 := hb1.size
                  have HB1 : Hid (Below wr.heap.size wr w1) := hb1
                  clear hb1
                  all_goals go_wp2
                  all_goals go_ret
                  all_goals exact ⟨.no HN.out, hbw.out.trans (HB1.out.mono (by omega))⟩
            · have HQ : Hid (∀ w', Calls Try.prog 75 #[.agg #[.int .i64 ss[k2].cl, .int .i64 ss[k2].sq, .int .i64 ss[k2].cd, .string ss[k2].v]] w' fun e w'' => e = .returned (.bool false) ∧ Below w'.heap.size w' w'') := fun w' => (l5sessionOk_any _ z1 w').mono fun e w'' ⟨h, hb⟩ => ⟨by rcases h.bool with ⟨h, _⟩ | ⟨_, h⟩; exact absurd h h1; exact h, hb⟩
              have HN : Hid (¬ (PsOk ps ∧ SsOk ss)) := HNO.out fun h => h1 (HS.out.1 h).1
              clear HS HPV h1
              generalize ss[k2] = p at *
              go_wp2
              refine wp_region_quiet (C := fun w' => Below wr.heap.size wr w') (by kernel_rfl) (by kernel_rfl) ((Below.refl _ _).drew) ?_
              rw [List.toList_toArray]
              go_big_quiet_want; refine ⟨.pointer (some ⟨w.heap.size, 1, none⟩), ?_, ?_⟩
              · intro w' hw'; go_simp
              go_big_quiet_on
              simp only [Act.put, List.setIfInBounds_toArray, List.set_cons_zero, List.set_cons_succ]
              go_big_quiet_want; refine ⟨.slice (some ⟨b2, off2, none⟩) ss.length cap2, ?_, ?_⟩
              · intro w' hw'
                have y1 : w'.cell? ⟨w.heap.size, 1, none⟩ = some (.slice (some ⟨b2, off2, none⟩) ss.length cap2) := (hw'.cell (p := ⟨w.heap.size, 1, none⟩) (by simp only []; omega)).trans x1
                have d0 := (hw'.cell (p := ⟨b2, off2 + k2 * 4, none⟩) hbl).trans c0
                have d1 := (hw'.cell (p := ⟨b2, off2 + k2 * 4 + 1, none⟩) hbl).trans c1
                have d2 := (hw'.cell (p := ⟨b2, off2 + k2 * 4 + 2, none⟩) hbl).trans c2
                have d3 := (hw'.cell (p := ⟨b2, off2 + k2 * 4 + 3, none⟩) hbl).trans c3
                go_simp
              go_big_quiet_on
              simp only [Act.put, List.setIfInBounds_toArray, List.set_cons_zero, List.set_cons_succ]
              go_big_quiet_want; refine ⟨.int .i64 k2, ?_, ?_⟩
              · intro w' hw'; go_simp
              go_big_quiet_on
              simp only [Act.put, List.setIfInBounds_toArray, List.set_cons_zero, List.set_cons_succ]
              go_big_quiet_want; refine ⟨.pointer (some ⟨b2, off2 + k2 * 4, none⟩), ?_, ?_⟩
              · intro w' hw'; go_simp
              go_big_quiet_on
              simp only [Act.put, List.setIfInBounds_toArray, List.set_cons_zero, List.set_cons_succ]
              go_big_quiet_want; refine ⟨.agg #[.int .i64 p.cl, .int .i64 p.sq, .int .i64 p.cd, .string p.v], ?_, ?_⟩
              · intro w' hw'
                have y1 : w'.cell? ⟨w.heap.size, 1, none⟩ = some (.slice (some ⟨b2, off2, none⟩) ss.length cap2) := (hw'.cell (p := ⟨w.heap.size, 1, none⟩) (by simp only []; omega)).trans x1
                have d0 := (hw'.cell (p := ⟨b2, off2 + k2 * 4, none⟩) hbl).trans c0
                have d1 := (hw'.cell (p := ⟨b2, off2 + k2 * 4 + 1, none⟩) hbl).trans c1
                have d2 := (hw'.cell (p := ⟨b2, off2 + k2 * 4 + 2, none⟩) hbl).trans c2
                have d3 := (hw'.cell (p := ⟨b2, off2 + k2 * 4 + 3, none⟩) hbl).trans c3
                go_simp
              go_big_quiet_on
              simp only [Act.put, List.setIfInBounds_toArray, List.set_cons_zero, List.set_cons_succ]
              go_big_quiet_want; refine ⟨.bool false, fun w' hw' => quiet_ent 75 #[.agg #[.int .i64 p.cl, .int .i64 p.sq, .int .i64 p.cd, .string p.v]] ?_ ((HQ.out w').mono fun e w'' ⟨h1, h2⟩ => ⟨h1, hw'.trans (h2.mono hw'.size)⟩), ?_⟩
              · go_simp
              go_big_quiet_on
              simp only [Act.put, List.setIfInBounds_toArray, List.set_cons_zero, List.set_cons_succ]
              go_big_quiet_want; refine ⟨.bool true, ?_, ?_⟩
              · intro w' hw'; go_simp
              go_big_quiet_on
              simp only [Act.put, List.setIfInBounds_toArray, List.set_cons_zero, List.set_cons_succ]
              go_big_quiet_want; refine ⟨.bool true, ?_, ?_⟩
              · intro w' hw'; go_simp
              go_big_quiet_on
              simp only [Act.put, List.setIfInBounds_toArray, List.set_cons_zero, List.set_cons_succ]
              go_big_quiet_skip
              go_big_quiet_skip
              go_big_quiet_skip
              go_big_quiet_skip
              go_big_quiet_skip
              go_big_quiet_skip
              go_big_quiet_skip
              go_big_quiet_skip
              go_big_quiet_skip
              go_big_quiet_skip
              go_big_quiet_skip
              go_big_quiet_skip
              go_big_quiet_skip
              go_big_quiet_skip
              go_big_quiet_skip
              go_big_quiet_skip
              go_big_quiet_skip
              go_big_quiet_skip
              go_big_quiet_want; refine ⟨.bool true, ?_, ?_⟩
              · intro w' hw'; go_simp
              go_big_quiet_on
              simp only [Act.put, List.setIfInBounds_toArray, List.set_cons_zero, List.set_cons_succ]
              refine wpQuiet_nil ?_
              intro w1 hb1
              have hz1 := hb1.size
              have HB1 : Hid (Below wr.heap.size wr w1) := hb1
              clear hb1
              all_goals go_wp2
              all_goals go_ret
              all_goals exact ⟨.no HN.out, hbw.out.trans (HB1.out.mono (by omega))⟩
          · have HN : Hid (PsOk ps ∧ SsOk ss) := by
              have h := HL.out
              rw [List.take_of_length_le (by omega)] at h
              exact ⟨HPO.out, h.all, h.rise⟩
            go_wp2
            go_ret
            exact ⟨.yes HN.out, hbw.out⟩
  · have HN : Hid (¬ (PsOk ps ∧ SsOk ss)) := fun h => h256 h.1.len
    go_enter Try.func48, Try.ntmps48
    go_wp2
    go_ret
    exact ⟨.no HN.out, (Below.refl _ _).alloc (Nat.le_refl _) _⟩
end Go.Proofs.Ytelfejhopjbhpaa
