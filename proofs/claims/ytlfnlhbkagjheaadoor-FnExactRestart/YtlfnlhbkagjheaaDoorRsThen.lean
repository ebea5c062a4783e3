/-
  spec.l2then.
-/
import Derived.Test.YtlfnlhbkagjheaaDoorRcApply
namespace Go.Proofs.YtlfnlhbkagjheaaDoor
open Go.RowKit
set_option linter.unusedVariables false
set_option linter.unusedSimpArgs false

theorem ownNe {w w' wo : World} {v v' : Value} {l : List Ent} {B q : Nat} (hg : Grew w v w' v') (ho : OwnE wo B v l) (hq : wo.heap.size ≤ q) (hq2 : q < w.heap.size) : v'.ownBlock ≠ some q := by
  rcases hg.2 with e | ⟨k, e, hk⟩
  · intro h
    rw [e] at h
    have := (ho.2.lt q h).2
    omega
  · intro h
    rw [e] at h
    injection h with h
    omega
set_option maxHeartbeats 8000000 in
set_option maxRecDepth 100000 in
theorem l2then_any (s : Stt) (lg : Value) (r : Rec) (B : Nat) (w : World) (hki : r.ki = 1 ∨ r.ki = 2 ∨ r.ki = 3) (hrf : r.e.fits) (ho : OwnE w B lg s.log) (hBw : B ≤ w.heap.size) (hll : s.log.length ≤ 1000000) (hix : r.ki = 3 → 0 ≤ r.ix ∧ r.ix ≤ (s.log.length : Int)) :
    Calls Tryd.prog 25 #[.agg #[.int .i64 s.t, .int .i64 s.v, lg], .agg r.cells.toArray] w fun e w' => ∃ lg', e = .returned (.agg #[.int .i64 (thenS s r).t, .int .i64 (thenS s r).v, lg']) ∧ OwnE w' B lg' (thenS s r).log ∧ Below B w w' := by
  obtain ⟨t, v, l⟩ := s
  obtain ⟨ki, tm, vo, ix, x⟩ := r
  dsimp only at hki hrf ho hll hix ⊢
  obtain ⟨la, lc, rfl⟩ := ho.shape
  have HOW : Hid (OwnE w B (.slice la l.length lc) l) := ho
  clear ho
  have hst : (Tryd.prog.info? 25).map (·.size) = some 3 := infoStab
  rcases hki with rfl | rfl | rfl
  · show Calls Tryd.prog 25 #[.agg #[.int .i64 t, .int .i64 v, .slice la l.length lc], .agg #[.int .i64 1, .int .i64 tm, .int .i64 vo, .int .i64 ix, .int .i64 x.t, .int .i64 x.cl, .int .i64 x.sq, .int .i64 x.op, .string x.k, .string x.v, .string x.o]] w _
    go_enter Tryd.func25, Tryd.ntmps25
    go_wp2
    refine bodyPost_ret (results_blk (b := w.heap.size + 1 + 1) (C := #[.int .i64 tm, .int .i64 vo, .slice la l.length lc]) Tryd.results25 rfl (Blk.new' _ _ _ (by simp)) Tryd.underlying25 rfl infoStab rfl) rfl ⟨_, rfl, ?_, ?_⟩
    · exact HOW.out.below ((((Below.refl _ _).alloc (Nat.le_refl _) _).alloc (by simp) _).alloc (by simp; omega) _)
    · exact (((Below.refl _ _).alloc hBw _).alloc (by simp; omega) _).alloc (by simp; omega) _
  · show Calls Tryd.prog 25 #[.agg #[.int .i64 t, .int .i64 v, .slice la l.length lc], .agg #[.int .i64 2, .int .i64 tm, .int .i64 vo, .int .i64 ix, .int .i64 x.t, .int .i64 x.cl, .int .i64 x.sq, .int .i64 x.op, .string x.k, .string x.v, .string x.o]] w _
    obtain ⟨W, hW⟩ : ∃ W, W = ((w.alloc (.cells #[.int .i64 t, .int .i64 v, .slice la l.length lc] 25)).alloc (.cells #[.int .i64 2, .int .i64 tm, .int .i64 vo, .int .i64 ix, .int .i64 x.t, .int .i64 x.cl, .int .i64 x.sq, .int .i64 x.op, .string x.k, .string x.v, .string x.o] 55)).alloc (.cells #[.int .i64 0, .int .i64 0, .slice none 0 0] 25) := ⟨_, rfl⟩
    have hWs : W.heap.size = w.heap.size + 1 + 1 + 1 := by rw [hW]; simp
    have hWa : (W.alloc (.cells #[.int .i64 x.t, .int .i64 x.cl, .int .i64 x.sq, .int .i64 x.op, .string x.k, .string x.v, .string x.o] 53)).heap.size = w.heap.size + 1 + 1 + 1 + 1 := by simp [hWs]
    have HEA : Hid (EntAt (W.alloc (.cells #[.int .i64 x.t, .int .i64 x.cl, .int .i64 x.sq, .int .i64 x.op, .string x.k, .string x.v, .string x.o] 53)) (w.heap.size + 1 + 1 + 1) 0 x) := by have h := entAt_new' W x; rw [hWs] at h; exact h
    have hWB : Below w.heap.size w W := by rw [hW]; exact (((Below.refl _ _).alloc (Nat.le_refl _) _).alloc (by simp) _).alloc (by simp; omega) _
    have BT : Blk W w.heap.size #[.int .i64 t, .int .i64 v, .slice la l.length lc] 25 := by rw [hW]; exact ((Blk.new _ _ _).alloc _).alloc _
    have BR : Blk W (w.heap.size + 1 + 1) #[.int .i64 0, .int .i64 0, .slice none 0 0] 25 := by rw [hW]; exact Blk.new' _ _ _ (by simp)
    have HW : Hid (W = ((w.alloc (.cells #[.int .i64 t, .int .i64 v, .slice la l.length lc] 25)).alloc (.cells #[.int .i64 2, .int .i64 tm, .int .i64 vo, .int .i64 ix, .int .i64 x.t, .int .i64 x.cl, .int .i64 x.sq, .int .i64 x.op, .string x.k, .string x.v, .string x.o] 55)).alloc (.cells #[.int .i64 0, .int .i64 0, .slice none 0 0] 25)) := hW
    have HBT : Hid (Blk W w.heap.size #[.int .i64 t, .int .i64 v, .slice la l.length lc] 25) := BT
    have HBR : Hid (Blk W (w.heap.size + 1 + 1) #[.int .i64 0, .int .i64 0, .slice none 0 0] 25) := BR
    have HWB : Hid (Below w.heap.size w W) := hWB
    clear hW BT BR hWB
    go_enter Tryd.func25, Tryd.ntmps25
    go_wp2_with (first
      | (at_builtin; rw [← HW.out]; refine wpl_appendE rfl (.tmp 18) (.tmp 21) rfl x hrf (OwnE.below (HOW.out.below HWB.out) ((Below.refl _ _).alloc (Nat.le_refl _) _)) rfl (w.heap.size + 1 + 1 + 1) 1 HEA.out rfl (by omega) (by rw [hWa]; omega) ?_; intro v1 w1 ho1 hg1; obtain ⟨la1, lc1, ev1⟩ := ho1.shape; subst ev1; have eL : (l ++ [x]).length = l.length + 1 := (by simp); rw [eL] at ho1 hg1 ⊢; clear eL; have ho2 := ho1; clear ho1; have BT1 := (HBT.out.alloc (.cells #[.int .i64 x.t, .int .i64 x.cl, .int .i64 x.sq, .int .i64 x.op, .string x.k, .string x.v, .string x.o] 53)).keep (hg1.g.block w.heap.size (by rw [hWa]; omega) (fun e => by have := (HOW.out.2.lt w.heap.size e.symm).2; omega)); have BR1 := (HBR.out.alloc (.cells #[.int .i64 x.t, .int .i64 x.cl, .int .i64 x.sq, .int .i64 x.op, .string x.k, .string x.v, .string x.o] 53)).keep (hg1.g.block (w.heap.size + 1 + 1) (by rw [hWa]; omega) (fun e => by have := (HOW.out.2.lt (w.heap.size + 1 + 1) e.symm).2; omega)); have HB1 : Hid (Below B w w1) := (HWB.out.mono hBw).trans (((Below.refl _ _).alloc (by omega) _).trans ((Below.refl _ _).grown hg1.g (by rw [hWa]; omega) (fun k hk => (HOW.out.2.lt k hk).1))); have hn1 : (Value.slice la1 (l.length + 1) lc1).ownBlock ≠ some w.heap.size := ownNe hg1 HOW.out (by omega) (by rw [hWa]; omega); have hn2 : (Value.slice la1 (l.length + 1) lc1).ownBlock ≠ some (w.heap.size + 1 + 1) := ownNe hg1 HOW.out (by omega) (by rw [hWa]; omega); have ct := BT1.cell; have ft := BT1.free; have HBT2 : Hid (Blk (w1.setCell ⟨w.heap.size, 2, none⟩ (.slice la1 (l.length + 1) lc1)) w.heap.size #[.int .i64 t, .int .i64 v, .slice la1 (l.length + 1) lc1] 25) := BT1.set 2 _; have HBR2 : Hid (Blk (w1.setCell ⟨w.heap.size, 2, none⟩ (.slice la1 (l.length + 1) lc1)) (w.heap.size + 1 + 1) #[.int .i64 0, .int .i64 0, .slice none 0 0] 25) := BR1.set_other _ (show w.heap.size + 1 + 1 ≠ w.heap.size by omega); clear BT1 BR1 hg1)
      | (have hBA := HBT2; refine gate_ld 25 (.tmp 2) rfl ?_; clear hBA; refine wpl_load_blk rfl 25 (.tmp 2) rfl w.heap.size rfl HBT2.out Tryd.underlying25 rfl infoStab rfl ?_)
      | (have hBA := HBR2; refine gate_st 25 (.tmp 4) _ rfl ?_; clear hBA; refine wpl_store_blk rfl 25 (.tmp 4) _ rfl (w.heap.size + 1 + 1) rfl rfl HBR2.out infoStab rfl rfl (by simp [Value.oneCell']) ?_))
    refine bodyPost_ret (results_blk Tryd.results25 rfl (HBR2.out.row _) Tryd.underlying25 rfl infoStab rfl) rfl ⟨_, rfl, ?_, ?_⟩
    · refine ho2.block fun k hk => ?_
      have n1 : k ≠ w.heap.size := fun e => hn1 (e ▸ hk)
      have n2 : k ≠ w.heap.size + 1 + 1 := fun e => hn2 (e ▸ hk)
      exact (setRow_other _ _ _ _ n2).trans (Below.heap_setCell w1 ⟨w.heap.size, 2, none⟩ _ k n1)
    · exact below_row (below_one _ HB1.out (by omega)) (by omega) _
  · obtain ⟨hi0, hi1⟩ := hix rfl
    obtain ⟨k, rfl⟩ : ∃ k : Nat, ix = k := ⟨ix.toNat, by omega⟩
    have hkl : k ≤ l.length := by omega
    show Calls Tryd.prog 25 #[.agg #[.int .i64 t, .int .i64 v, .slice la l.length lc], .agg #[.int .i64 3, .int .i64 tm, .int .i64 vo, .int .i64 (k : Int), .int .i64 x.t, .int .i64 x.cl, .int .i64 x.sq, .int .i64 x.op, .string x.k, .string x.v, .string x.o]] w _
    obtain ⟨lb, ld, hlb, hlo⟩ : ∃ lb ld, (∀ wx, (Instr.slice 23 (.slice la l.length lc) none (some (.int .i64 (k : Int))) none).run Tryd.prog wx = .ok (.slice lb k ld) wx) ∧ Hid (∀ wx, OwnE wx B (.slice la l.length lc) l → OwnE wx B (.slice lb k ld) (l.take k)) := by
      have hkc : k ≤ lc := by
        rcases HOW.out.2.2 with ⟨h0, h1⟩ | ⟨g, cap, cur, hv, _, _, h1, _⟩
        · omega
        · injection hv with _ h2 h3
          omega
      rcases HOW.out.2.2 with ⟨h0, h1⟩ | ⟨g, cap, cur, hv, _⟩
      · injection h0 with h2 h3 h4
        subst h2 h4
        have hk0 : k = 0 := by omega
        subst hk0
        exact ⟨none, 0, fun wx => slice_he none l.length 0 0 (by omega) wx, fun wx ho => OwnE.nil _ _⟩
      · injection hv with h2 h3 h4
        subst h2 h4
        have es : sliced (some ⟨g, 0, none⟩) 0 k lc 7 = .slice (some ⟨g, 0, none⟩) k lc := by simp [sliced, Addr.add]
        exact ⟨some ⟨g, 0, none⟩, lc, fun wx => by rw [← es]; exact slice_he _ l.length lc k hkc wx, fun wx ho => ho.take k hkl⟩
    go_enter Tryd.func25, Tryd.ntmps25
    go_wp2
    refine bodyPost_ret (results_blk (b := w.heap.size + 1 + 1) (C := #[.int .i64 t, .int .i64 v, .slice lb k ld]) Tryd.results25 rfl (Blk.new' _ _ _ (by simp)) Tryd.underlying25 rfl infoStab rfl) rfl ⟨_, rfl, ?_, ?_⟩
    · exact hlo.out _ (HOW.out.below ((((Below.refl _ _).alloc (Nat.le_refl _) _).alloc (by simp) _).alloc (by simp; omega) _))
    · exact (((Below.refl _ _).alloc hBw _).alloc (by simp; omega) _).alloc (by simp; omega) _
end Go.Proofs.YtlfnlhbkagjheaaDoor
