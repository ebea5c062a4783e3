/-
  spec.Restart.
-/
import Derived.Test.YtlfnlhbkagjheaaDoorRtPlain
import Derived.Test.YtlfnlhbkagjheaaDoorRsRec
import Derived.Deep.RegionHeld3
namespace Go.Proofs.YtlfnlhbkagjheaaDoor
open Go.RowKit
set_option linter.unusedVariables false
set_option linter.unusedSimpArgs false

set_option maxHeartbeats 8000000 in
set_option maxRecDepth 100000 in
theorem restartS_any (c y : Int) (b off cap : Nat) (l : List Int) (w : World) (hv : Bs w (.slice (some ⟨b, off, none⟩) l.length cap) l) (hc : l.length ≤ cap) (hl : l.length ≤ 1048576) :
    Calls Tryd.prog 14 #[.agg #[.int .i64 c, .int .i64 y, .slice (some ⟨b, off, none⟩) l.length cap]] w fun e w' => RestAt w w' e (rtK c y l) (rtC c y l) (rtY c y l) (rtL c y l) (rtS c y l) := by
  have HV : Hid (Bs w (.slice (some ⟨b, off, none⟩) l.length cap) l) := hv
  have HB0 : Hid (Below w.heap.size w ((w.alloc (.cells #[.int .i64 c, .int .i64 y, .slice (some ⟨b, off, none⟩) l.length cap] 38)).alloc (.cells #[.int .i64 0, .int .i64 0, .int .i64 0, .slice none 0 0, .int .i64 0, .int .i64 0, .slice none 0 0] 40))) := ((Below.refl _ _).alloc (Nat.le_refl _) _).alloc (by simp) _
  have HD : ∀ u : World, Hid (Calls Tryd.prog 32 #[.agg #[.int .i64 c, .int .i64 y, .slice (some ⟨b, off, none⟩) l.length cap]] u fun e w' => e = .returned (.bool (diskB c y l.length)) ∧ Below u.heap.size u w') := fun u => l2diskOk_any c y _ l.length cap hl u
  have HR : ∀ u : World, Below w.heap.size w u → Hid (Calls Tryd.prog 5 #[.slice (some ⟨b, off, none⟩) l.length cap] u fun e w' => ∃ lg, e = .returned (rcvV (rcv l) lg) ∧ OwnE w' u.heap.size lg (rcv l).2.2.2.log ∧ Below u.heap.size u w') := fun u hb => recoverS_any _ cap l u (HV.out.below hb) hc hl
  have hG := rcv_good l
  have hK : rtK c y l = if diskB c y l.length = true then (if ((rcv l).2.1 : Int) < y then 2 else 0) else 1 := rfl
  clear hv

  cases hD : diskB c y l.length
  · have hK1 : rtK c y l = 1 := by rw [hK, hD]; rfl
    refine Calls.mono ?_ (fun e w' h => rt_two (w := w) (w' := w') (e := e) hK1 (by decide) h)
    clear hK hG hK1 HR
    go_enter Tryd.func14, Tryd.ntmps14
    go_wp2_with (first
      | (go_at_call 32; refine Calls.mono (HD _).out ?_; rw [hD]; rintro e w1 ⟨rfl, hb1⟩; have hz1 := hb1.size; simp at hz1; have HB1 : Hid (Below w.heap.size w w1) := HB0.out.trans (hb1.mono (by simp; omega)); have HX1 : Hid (Blk w1 w.heap.size #[.int .i64 c, .int .i64 y, .slice (some ⟨b, off, none⟩) l.length cap] 38) := ((Blk.new _ _ _).alloc _).below hb1 (by simp; omega); have HZ1 : Hid (Blk w1 (w.heap.size + 1) #[.int .i64 0, .int .i64 0, .int .i64 0, .slice none 0 0, .int .i64 0, .int .i64 0, .slice none 0 0] 40) := (Blk.new' _ _ _ (by simp)).below hb1 (by simp); have cx1 := HX1.out.cell; clear hb1)
      | (have hBA := HZ1; refine gate_st 40 (.tmp 2) _ rfl ?_; clear hBA; refine wpl_store_blk rfl 40 (.tmp 2) _ rfl (w.heap.size + 1) rfl rfl HZ1.out infoRst rfl rfl (by simp [Value.oneCell']) ?_))
    exact bodyPost_ret (results_blk Tryd.results14 rfl (HZ1.out.row _) Tryd.underlying40 rfl infoRst rfl) rfl (rt_none 1 (below_row HB1.out (by omega) _))
  have hK1 : rtK c y l = if ((rcv l).2.1 : Int) < y then 2 else 0 := by rw [hK, hD]; rfl
  clear hK
  by_cases hy : ((rcv l).2.1 : Int) < y
  · rw [if_pos hy] at hK1
    refine Calls.mono ?_ (fun e w' h => rt_two (w := w) (w' := w') (e := e) hK1 (by decide) h)
    unfold rcvV at HR
    obtain ⟨G, hGe⟩ : ∃ G, G = (rcv l).2.1 := ⟨_, rfl⟩
    obtain ⟨S, hSe⟩ : ∃ S, S = (rcv l).2.2.2 := ⟨_, rfl⟩
    rw [← hGe] at hy hG HR
    rw [← hSe] at HR
    generalize stopC (rcv l).1 = x0 at HR
    generalize ((rcv l).2.2.1 : Int) = x2 at HR
    clear hK1 hGe hSe
    go_enter Tryd.func14, Tryd.ntmps14
    go_wp2_with (first
      | (go_at_call 32; refine Calls.mono (HD _).out ?_; rw [hD]; rintro e w1 ⟨rfl, hb1⟩; have hz1 := hb1.size; simp at hz1; have HB1 : Hid (Below w.heap.size w w1) := HB0.out.trans (hb1.mono (by simp; omega)); have HX1 : Hid (Blk w1 w.heap.size #[.int .i64 c, .int .i64 y, .slice (some ⟨b, off, none⟩) l.length cap] 38) := ((Blk.new _ _ _).alloc _).below hb1 (by simp; omega); have HZ1 : Hid (Blk w1 (w.heap.size + 1) #[.int .i64 0, .int .i64 0, .int .i64 0, .slice none 0 0, .int .i64 0, .int .i64 0, .slice none 0 0] 40) := (Blk.new' _ _ _ (by simp)).below hb1 (by simp); have cx1 := HX1.out.cell; clear hb1)
      | (go_at_call 5; refine Calls.mono (HR _ HB1.out).out ?_; rintro e w2 ⟨lg, rfl, ho2, hb2⟩; obtain ⟨la, lc, elg⟩ := ho2.shape; subst elg; have hz2 := hb2.size; have HB2 : Hid (Below w.heap.size w w2) := HB1.out.trans (hb2.mono HB1.out.size); have HX2 : Hid (Blk w2 w.heap.size #[.int .i64 c, .int .i64 y, .slice (some ⟨b, off, none⟩) l.length cap] 38) := HX1.out.below hb2 HX1.out.lt; have HZ2 : Hid (Blk w2 (w.heap.size + 1) #[.int .i64 0, .int .i64 0, .int .i64 0, .slice none 0 0, .int .i64 0, .int .i64 0, .slice none 0 0] 40) := HZ1.out.below hb2 HZ1.out.lt; have HO2 : Hid (OwnE w2 w1.heap.size (.slice la S.log.length lc) S.log) := ho2; clear ho2 hb2 cx1)
      | (have hBA := HO2; refine gate_st 27 (.tmp 3) _ rfl ?_; clear hBA; refine wpl_store_last rfl 27 (.tmp 3) _ rfl (w2.heap.size) rfl rfl rfl infoRcv rfl rfl (by simp [Value.oneCell']) ?_; obtain ⟨W3, hW3⟩ : ∃ W3, W3 = w2.alloc (.cells #[.int .i64 x0, .int .i64 (G : Nat), .int .i64 x2, .int .i64 S.t, .int .i64 S.v, .slice la S.log.length lc] 27) := ⟨_, rfl⟩; rw [← hW3]; have hz3 : W3.heap.size = w2.heap.size + 1 := (by rw [hW3]; simp); have HB3 : Hid (Below w.heap.size w W3) := (by rw [hW3]; exact HB2.out.alloc (by omega) _); have HX3 : Hid (Blk W3 w.heap.size #[.int .i64 c, .int .i64 y, .slice (some ⟨b, off, none⟩) l.length cap] 38) := (by rw [hW3]; exact HX2.out.alloc _); have HZ3 : Hid (Blk W3 (w.heap.size + 1) #[.int .i64 0, .int .i64 0, .int .i64 0, .slice none 0 0, .int .i64 0, .int .i64 0, .slice none 0 0] 40) := (by rw [hW3]; exact HZ2.out.alloc _); have HR3 : Hid (Blk W3 w2.heap.size #[.int .i64 x0, .int .i64 (G : Nat), .int .i64 x2, .int .i64 S.t, .int .i64 S.v, .slice la S.log.length lc] 27) := (by rw [hW3]; exact Blk.new _ _ _); have HO3 : Hid (OwnE W3 w1.heap.size (.slice la S.log.length lc) S.log) := (by rw [hW3]; exact HO2.out.below ((Below.refl _ _).alloc (Nat.le_refl _) _)); have hlo : Hid (∀ k, (Value.slice la S.log.length lc).ownBlock = some k → k < w2.heap.size) := (fun k hk => (HO2.out.2.lt k hk).2); have cx3 := HX3.out.cell; have cr3 := HR3.out.cell; clear hW3)
      | (have hBA := HZ3; refine gate_st 40 (.tmp 2) _ rfl ?_; clear hBA; refine wpl_store_blk rfl 40 (.tmp 2) _ rfl (w.heap.size + 1) rfl rfl HZ3.out infoRst rfl rfl (by simp [Value.oneCell']) ?_))
    exact bodyPost_ret (results_blk Tryd.results14 rfl (HZ3.out.row _) Tryd.underlying40 rfl infoRst rfl) rfl (rt_none 2 (below_row HB3.out (by omega) _))
  rw [if_neg hy] at hK1
  refine Calls.mono ?_ (fun e w' h => rt_zero (w := w) (w' := w') (e := e) hK1 h)
  unfold rcvV at HR
  obtain ⟨G, hGe⟩ : ∃ G, G = (rcv l).2.1 := ⟨_, rfl⟩
  obtain ⟨S, hSe⟩ : ∃ S, S = (rcv l).2.2.2 := ⟨_, rfl⟩
  rw [← hGe] at hy hG HR ⊢
  rw [← hSe] at HR ⊢
  generalize stopC (rcv l).1 = x0 at HR
  generalize ((rcv l).2.2.1 : Int) = x2 at HR
  have hlen : (l.take G).length = G := by rw [List.length_take]; omega
  clear hK1 hGe hSe

  have HC : ∀ u : World, Below w.heap.size w u → Hid (Calls Tryd.prog 33 #[.slice (some ⟨b, off, none⟩) G cap] u fun e w' => ∃ a' cap', e = .returned (.slice a' G cap') ∧ Own w' u.heap.size (.slice a' G cap') (l.take G) ∧ Below u.heap.size u w') := fun u hb => by
    have hx := l1copy_any (some ⟨b, off, none⟩) cap (l.take G) u
    rw [hlen] at hx
    exact hx ((HV.out.below hb).take G hG) (by omega)
  have t1 : ∀ wx, (Instr.slice 22 (.slice (some ⟨b, off, none⟩) l.length cap) none (some (.int .i64 (G : Int))) none).run Tryd.prog wx = .ok (.slice (some ⟨b, off, none⟩) G cap) wx := fun wx => by
    have hx := slice_h (some ⟨b, off, none⟩) l.length cap G (by omega) wx
    simpa [sliced, Addr.add] using hx
  go_enter Tryd.func14, Tryd.ntmps14
  go_wp2_with (first
    | (go_at_call 32; refine Calls.mono (HD _).out ?_; rw [hD]; rintro e w1 ⟨rfl, hb1⟩; have hz1 := hb1.size; simp at hz1; have HB1 : Hid (Below w.heap.size w w1) := HB0.out.trans (hb1.mono (by simp; omega)); have HX1 : Hid (Blk w1 w.heap.size #[.int .i64 c, .int .i64 y, .slice (some ⟨b, off, none⟩) l.length cap] 38) := ((Blk.new _ _ _).alloc _).below hb1 (by simp; omega); have HZ1 : Hid (Blk w1 (w.heap.size + 1) #[.int .i64 0, .int .i64 0, .int .i64 0, .slice none 0 0, .int .i64 0, .int .i64 0, .slice none 0 0] 40) := (Blk.new' _ _ _ (by simp)).below hb1 (by simp); have cx1 := HX1.out.cell; clear hb1)
    | (go_at_call 5; refine Calls.mono (HR _ HB1.out).out ?_; rintro e w2 ⟨lg, rfl, ho2, hb2⟩; obtain ⟨la, lc, elg⟩ := ho2.shape; subst elg; have hz2 := hb2.size; have HB2 : Hid (Below w.heap.size w w2) := HB1.out.trans (hb2.mono HB1.out.size); have HX2 : Hid (Blk w2 w.heap.size #[.int .i64 c, .int .i64 y, .slice (some ⟨b, off, none⟩) l.length cap] 38) := HX1.out.below hb2 HX1.out.lt; have HZ2 : Hid (Blk w2 (w.heap.size + 1) #[.int .i64 0, .int .i64 0, .int .i64 0, .slice none 0 0, .int .i64 0, .int .i64 0, .slice none 0 0] 40) := HZ1.out.below hb2 HZ1.out.lt; have HO2 : Hid (OwnE w2 w1.heap.size (.slice la S.log.length lc) S.log) := ho2; clear ho2 hb2 cx1)
    | (have hBA := HO2; refine gate_st 27 (.tmp 3) _ rfl ?_; clear hBA; refine wpl_store_last rfl 27 (.tmp 3) _ rfl (w2.heap.size) rfl rfl rfl infoRcv rfl rfl (by simp [Value.oneCell']) ?_; obtain ⟨W3, hW3⟩ : ∃ W3, W3 = w2.alloc (.cells #[.int .i64 x0, .int .i64 (G : Nat), .int .i64 x2, .int .i64 S.t, .int .i64 S.v, .slice la S.log.length lc] 27) := ⟨_, rfl⟩; rw [← hW3]; have hz3 : W3.heap.size = w2.heap.size + 1 := (by rw [hW3]; simp); have HB3 : Hid (Below w.heap.size w W3) := (by rw [hW3]; exact HB2.out.alloc (by omega) _); have HX3 : Hid (Blk W3 w.heap.size #[.int .i64 c, .int .i64 y, .slice (some ⟨b, off, none⟩) l.length cap] 38) := (by rw [hW3]; exact HX2.out.alloc _); have HZ3 : Hid (Blk W3 (w.heap.size + 1) #[.int .i64 0, .int .i64 0, .int .i64 0, .slice none 0 0, .int .i64 0, .int .i64 0, .slice none 0 0] 40) := (by rw [hW3]; exact HZ2.out.alloc _); have HR3 : Hid (Blk W3 w2.heap.size #[.int .i64 x0, .int .i64 (G : Nat), .int .i64 x2, .int .i64 S.t, .int .i64 S.v, .slice la S.log.length lc] 27) := (by rw [hW3]; exact Blk.new _ _ _); have HO3 : Hid (OwnE W3 w1.heap.size (.slice la S.log.length lc) S.log) := (by rw [hW3]; exact HO2.out.below ((Below.refl _ _).alloc (Nat.le_refl _) _)); have hlo : Hid (∀ k, (Value.slice la S.log.length lc).ownBlock = some k → k < w2.heap.size) := (fun k hk => (HO2.out.2.lt k hk).2); have cx3 := HX3.out.cell; have cr3 := HR3.out.cell; clear hW3))
  have d0 : W3.cell? ⟨w.heap.size, 0, none⟩ = some (.int .i64 c) := HX3.out.cell 0
  have d2 : W3.cell? ⟨w.heap.size, 2, none⟩ = some (.slice (some ⟨b, off, none⟩) l.length cap) := HX3.out.cell 2
  have r1 : W3.cell? ⟨w2.heap.size, 1, none⟩ = some (.int .i64 (G : Nat)) := HR3.out.cell 1
  have r3 : W3.cell? ⟨w2.heap.size, 3, none⟩ = some (.int .i64 S.t) := HR3.out.cell 3
  have r4 : W3.cell? ⟨w2.heap.size, 4, none⟩ = some (.int .i64 S.v) := HR3.out.cell 4
  have r5 : W3.cell? ⟨w2.heap.size, 5, none⟩ = some (.slice la S.log.length lc) := HR3.out.cell 5
  have hzZ := HZ3.out.lt
  clear cx3 cr3
  go_region_held3 (fun w' => w'.cell? ⟨w.heap.size, 0, none⟩ = some (.int .i64 c) ∧ w'.cell? ⟨w.heap.size, 2, none⟩ = some (.slice (some ⟨b, off, none⟩) l.length cap) ∧ w'.cell? ⟨w2.heap.size, 1, none⟩ = some (.int .i64 (G : Nat)) ∧ w'.cell? ⟨w2.heap.size, 3, none⟩ = some (.int .i64 S.t) ∧ w'.cell? ⟨w2.heap.size, 4, none⟩ = some (.int .i64 S.v) ∧ w'.cell? ⟨w2.heap.size, 5, none⟩ = some (.slice la S.log.length lc)) (simp [*, go_sem])
    (first
      | (go_at_call 33; refine Calls.mono (HC _ HB3.out.drew).out ?_; rintro e w4 ⟨a4, c4, rfl, ho4, hb4⟩; have hz4 : W3.heap.size ≤ w4.heap.size := hb4.size; have qa := fun (o : Nat) => hb4.cell (p := ⟨w.heap.size, o, none⟩) (show w.heap.size < W3.heap.size by omega); have qb := fun (o : Nat) => hb4.cell (p := ⟨w2.heap.size, o, none⟩) (show w2.heap.size < W3.heap.size by omega); have HB4 : Hid (Below w.heap.size w w4) := HB3.out.drew.trans (hb4.mono (show w.heap.size ≤ W3.heap.size by omega)); have HZ4 : Hid (Blk w4 (w.heap.size + 1) #[.int .i64 0, .int .i64 0, .int .i64 0, .slice none 0 0, .int .i64 0, .int .i64 0, .slice none 0 0] 40) := HZ3.out.drew.below hb4 hzZ; have cz4 := HZ4.out.cell; have fz4 := HZ4.out.free; have HO4 : Hid (OwnE w4 w1.heap.size (.slice la S.log.length lc) S.log) := (HO3.out.below ((Below.refl _ _).drew)).below hb4; have HY4 : Hid (Own w4 W3.heap.size (.slice a4 G c4) (l.take G)) := ho4; clear ho4 hb4))
  all_goals go_wp2
  all_goals refine bodyPost_ret (results_blk (C := #[.int .i64 0, .int .i64 c, .int .i64 (G : Nat), .slice a4 G c4, .int .i64 S.t, .int .i64 S.v, .slice la S.log.length lc]) Tryd.results14 rfl (((((((HZ4.out.set 0 _).set 1 _).set 2 _).set 3 _).set 4 _).set 5 _).set 6 _) Tryd.underlying40 rfl infoRst rfl) rfl ⟨a4, c4, la, lc, W3.heap.size, by rw [hlen], by omega, ?_, ?_, ?_, (fun k hk => by have := hlo.out k hk; omega), below_setCells (show w.heap.size ≤ w.heap.size + 1 by omega) [.int .i64 0, .int .i64 c, .int .i64 (G : Nat), .slice a4 G c4, .int .i64 S.t, .int .i64 S.v, .slice la S.log.length lc] 0 w4 HB4.out⟩
  · exact Nat.le_trans hz4 (Nat.le_of_eq (size_setCells' (g := w.heap.size + 1) [.int .i64 0, .int .i64 c, .int .i64 (G : Nat), .slice a4 G c4, .int .i64 S.t, .int .i64 S.v, .slice la S.log.length lc] 0 w4).symm)
  · rw [hlen]
    refine HY4.out.block fun k hk => ?_
    have h1 := (HY4.out.2.lt k hk).1
    exact setCells_other (g := w.heap.size + 1) (by omega) [.int .i64 0, .int .i64 c, .int .i64 (G : Nat), .slice a4 G c4, .int .i64 S.t, .int .i64 S.v, .slice la S.log.length lc] 0 w4
  · refine (HO4.out.block fun k hk => ?_).le (by omega)
    have h1 := (HO4.out.2.lt k hk).1
    exact setCells_other (g := w.heap.size + 1) (by omega) [.int .i64 0, .int .i64 c, .int .i64 (G : Nat), .slice a4 G c4, .int .i64 S.t, .int .i64 S.v, .slice la S.log.length lc] 0 w4
end Go.Proofs.YtlfnlhbkagjheaaDoor
