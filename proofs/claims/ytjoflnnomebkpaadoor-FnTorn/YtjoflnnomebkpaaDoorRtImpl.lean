/-
  impl.Restart.
-/
import Derived.Test.YtjoflnnomebkpaaDoorRtPlain
import Derived.Test.YtjoflnnomebkpaaDoorDiskNil
import Derived.Test.YtjoflnnomebkpaaDoorRcImpl
namespace Go.Proofs.YtjoflnnomebkpaaDoor
open Go.RowKit
set_option linter.unusedVariables false
set_option linter.unusedSimpArgs false

set_option maxHeartbeats 8000000 in
set_option maxRecDepth 100000 in
theorem restartI_gen (c y : Int) (a : Option Addr) (cap : Nat) (l : List Int) (w : World) (A : Nat → Addr) (B : Nat) (hs : Sents w A B) (hv : Bs w (.slice a l.length cap) l) (hc : l.length ≤ cap) (hl : l.length ≤ 1048576) (hna : AOk a cap) :
    Calls Tryd.prog 20 #[.agg #[.int .i64 c, .int .i64 y, .slice a l.length cap]] w fun e w' => RestAt w w' e (rtK c y l) (rtC c y l) (rtY c y l) (rtL c y l) (rtS c y l) := by
  have HV : Hid (Bs w (.slice a l.length cap) l) := hv
  have HB0 : Hid (Below w.heap.size w ((w.alloc (.cells #[.int .i64 c, .int .i64 y, .slice a l.length cap] 24)).alloc (.cells #[.int .i64 0, .int .i64 0, .int .i64 0, .slice none 0 0, .int .i64 0, .int .i64 0, .slice none 0 0] 47))) := ((Below.refl _ _).alloc (Nat.le_refl _) _).alloc (by simp) _
  have HD : ∀ u : World, Hid (Calls Tryd.prog 49 #[.agg #[.int .i64 c, .int .i64 y, .slice a l.length cap]] u fun e w' => e = .returned (.bool (diskB c y l.length)) ∧ Below u.heap.size u w') := fun u => diskFits_any c y _ l.length cap hl u
  have HR : ∀ u : World, Below w.heap.size w u → Hid (Calls Tryd.prog 62 #[.slice a l.length cap] u fun e w' => ∃ lg, e = .returned (rcvV (rcv l) lg) ∧ OwnE w' u.heap.size lg (rcv l).2.2.2.log ∧ Below u.heap.size u w') := fun u hb => recoverI_any _ cap l u A B (hs.below hb) (HV.out.below hb) hc hl
  have hG := rcv_good l
  have hK : rtK c y l = if diskB c y l.length = true then (if ((rcv l).2.1 : Int) < y then 2 else 0) else 1 := rfl
  clear hv

  cases hD : diskB c y l.length
  · have hK1 : rtK c y l = 1 := by rw [hK, hD]; rfl
    refine Calls.mono ?_ (fun e w' h => rt_two (w := w) (w' := w') (e := e) hK1 (by decide) h)
    clear hK hG hK1 HR
    go_enter Tryd.func20, Tryd.ntmps20
    go_wp2_with (first
      | (go_at_call 49; refine Calls.mono (HD _).out ?_; rw [hD]; rintro e w1 ⟨rfl, hb1⟩; have hz1 := hb1.size; simp at hz1; have HB1 : Hid (Below w.heap.size w w1) := HB0.out.trans (hb1.mono (by simp; omega)); have HX1 : Hid (Blk w1 w.heap.size #[.int .i64 c, .int .i64 y, .slice a l.length cap] 24) := ((Blk.new _ _ _).alloc _).below hb1 (by simp; omega); have HZ1 : Hid (Blk w1 (w.heap.size + 1) #[.int .i64 0, .int .i64 0, .int .i64 0, .slice none 0 0, .int .i64 0, .int .i64 0, .slice none 0 0] 47) := (Blk.new' _ _ _ (by simp)).below hb1 (by simp); have cx1 := HX1.out.cell; clear hb1)
      | (have hBA := HZ1; refine gate_st 47 (.tmp 2) _ rfl ?_; clear hBA; refine wpl_store_blk rfl 47 (.tmp 2) _ rfl (w.heap.size + 1) rfl rfl HZ1.out infoRst rfl rfl (by simp [Value.oneCell']) ?_))
    exact bodyPost_ret (results_blk Tryd.results20 rfl (HZ1.out.row _) Tryd.underlying47 rfl infoRst rfl) rfl (rt_none 1 (below_row HB1.out (by omega) _))
  have hK1 : rtK c y l = if ((rcv l).2.1 : Int) < y then 2 else 0 := by rw [hK, hD]; rfl
  clear hK
  by_cases hy : ((rcv l).2.1 : Int) < y
  · rw [if_pos hy] at hK1
    refine Calls.mono ?_ (fun e w' h => rt_two (w := w) (w' := w') (e := e) hK1 (by decide) h)
    unfold rcvV at HR
    obtain ⟨G, hGe⟩ : ∃ G, G = (rcv l).2.1 := ⟨_, rfl⟩
    obtain ⟨S, hSe⟩ : ∃ S, S = (rcv l).2.2.2 := ⟨_, rfl⟩
    rw [← hGe] at hy hG HR
    rw [← hSe] at HR
    generalize stopC (rcv l).1 = x0 at HR
    generalize ((rcv l).2.2.1 : Int) = x2 at HR
    clear hK1 hGe hSe
    go_enter Tryd.func20, Tryd.ntmps20
    go_wp2_with (first
      | (go_at_call 49; refine Calls.mono (HD _).out ?_; rw [hD]; rintro e w1 ⟨rfl, hb1⟩; have hz1 := hb1.size; simp at hz1; have HB1 : Hid (Below w.heap.size w w1) := HB0.out.trans (hb1.mono (by simp; omega)); have HX1 : Hid (Blk w1 w.heap.size #[.int .i64 c, .int .i64 y, .slice a l.length cap] 24) := ((Blk.new _ _ _).alloc _).below hb1 (by simp; omega); have HZ1 : Hid (Blk w1 (w.heap.size + 1) #[.int .i64 0, .int .i64 0, .int .i64 0, .slice none 0 0, .int .i64 0, .int .i64 0, .slice none 0 0] 47) := (Blk.new' _ _ _ (by simp)).below hb1 (by simp); have cx1 := HX1.out.cell; clear hb1)
      | (go_at_call 62; refine Calls.mono (HR _ HB1.out).out ?_; rintro e w2 ⟨lg, rfl, ho2, hb2⟩; obtain ⟨la, lc, elg⟩ := ho2.shape; subst elg; have hz2 := hb2.size; have HB2 : Hid (Below w.heap.size w w2) := HB1.out.trans (hb2.mono HB1.out.size); have HX2 : Hid (Blk w2 w.heap.size #[.int .i64 c, .int .i64 y, .slice a l.length cap] 24) := HX1.out.below hb2 HX1.out.lt; have HZ2 : Hid (Blk w2 (w.heap.size + 1) #[.int .i64 0, .int .i64 0, .int .i64 0, .slice none 0 0, .int .i64 0, .int .i64 0, .slice none 0 0] 47) := HZ1.out.below hb2 HZ1.out.lt; have HO2 : Hid (OwnE w2 w1.heap.size (.slice la S.log.length lc) S.log) := ho2; clear ho2 hb2 cx1)
      | (have hBA := HO2; refine gate_st 100 (.tmp 3) _ rfl ?_; clear hBA; refine wpl_store_last rfl 100 (.tmp 3) _ rfl (w2.heap.size) rfl rfl rfl infoRcv rfl rfl (by simp [Value.oneCell']) ?_; obtain ⟨W3, hW3⟩ : ∃ W3, W3 = w2.alloc (.cells #[.int .i64 x0, .int .i64 (G : Nat), .int .i64 x2, .int .i64 S.t, .int .i64 S.v, .slice la S.log.length lc] 100) := ⟨_, rfl⟩; rw [← hW3]; have hz3 : W3.heap.size = w2.heap.size + 1 := (by rw [hW3]; simp); have HB3 : Hid (Below w.heap.size w W3) := (by rw [hW3]; exact HB2.out.alloc (by omega) _); have HX3 : Hid (Blk W3 w.heap.size #[.int .i64 c, .int .i64 y, .slice a l.length cap] 24) := (by rw [hW3]; exact HX2.out.alloc _); have HZ3 : Hid (Blk W3 (w.heap.size + 1) #[.int .i64 0, .int .i64 0, .int .i64 0, .slice none 0 0, .int .i64 0, .int .i64 0, .slice none 0 0] 47) := (by rw [hW3]; exact HZ2.out.alloc _); have HR3 : Hid (Blk W3 w2.heap.size #[.int .i64 x0, .int .i64 (G : Nat), .int .i64 x2, .int .i64 S.t, .int .i64 S.v, .slice la S.log.length lc] 100) := (by rw [hW3]; exact Blk.new _ _ _); have HO3 : Hid (OwnE W3 w1.heap.size (.slice la S.log.length lc) S.log) := (by rw [hW3]; exact HO2.out.below ((Below.refl _ _).alloc (Nat.le_refl _) _)); have hlo : Hid (∀ k, (Value.slice la S.log.length lc).ownBlock = some k → k < w2.heap.size) := (fun k hk => (HO2.out.2.lt k hk).2); have cx3 := HX3.out.cell; have cr3 := HR3.out.cell; clear hW3)
      | (have hBA := HZ3; refine gate_st 47 (.tmp 2) _ rfl ?_; clear hBA; refine wpl_store_blk rfl 47 (.tmp 2) _ rfl (w.heap.size + 1) rfl rfl HZ3.out infoRst rfl rfl (by simp [Value.oneCell']) ?_))
    exact bodyPost_ret (results_blk Tryd.results20 rfl (HZ3.out.row _) Tryd.underlying47 rfl infoRst rfl) rfl (rt_none 2 (below_row HB3.out (by omega) _))
  rw [if_neg hy] at hK1
  refine Calls.mono ?_ (fun e w' h => rt_zero (w := w) (w' := w') (e := e) hK1 h)
  unfold rcvV at HR
  obtain ⟨G, hGe⟩ : ∃ G, G = (rcv l).2.1 := ⟨_, rfl⟩
  obtain ⟨S, hSe⟩ : ∃ S, S = (rcv l).2.2.2 := ⟨_, rfl⟩
  rw [← hGe] at hy hG HR ⊢
  rw [← hSe] at HR ⊢
  generalize stopC (rcv l).1 = x0 at HR
  generalize ((rcv l).2.2.1 : Int) = x2 at HR
  have hlen : (l.take G).length = G := by rw [List.length_take]; omega
  clear hK1 hGe hSe

  have HC : ∀ u : World, Below w.heap.size w u → Hid (Calls Tryd.prog 50 #[.agg #[.int .i64 c, .int .i64 y, .slice a l.length cap], .int .i64 (G : Int)] u fun e w' => ∃ a' cap', e = .returned (.agg #[.int .i64 c, .int .i64 y, .slice a' G cap']) ∧ Own w' u.heap.size (.slice a' G cap') (l.take G) ∧ Below u.heap.size u w') := fun u hb => cutDisk_gen c y a cap l G u (HV.out.below hb) hc hG hl hna
  go_enter Tryd.func20, Tryd.ntmps20
  go_wp2_with (first
    | (go_at_call 49; refine Calls.mono (HD _).out ?_; rw [hD]; rintro e w1 ⟨rfl, hb1⟩; have hz1 := hb1.size; simp at hz1; have HB1 : Hid (Below w.heap.size w w1) := HB0.out.trans (hb1.mono (by simp; omega)); have HX1 : Hid (Blk w1 w.heap.size #[.int .i64 c, .int .i64 y, .slice a l.length cap] 24) := ((Blk.new _ _ _).alloc _).below hb1 (by simp; omega); have HZ1 : Hid (Blk w1 (w.heap.size + 1) #[.int .i64 0, .int .i64 0, .int .i64 0, .slice none 0 0, .int .i64 0, .int .i64 0, .slice none 0 0] 47) := (Blk.new' _ _ _ (by simp)).below hb1 (by simp); have cx1 := HX1.out.cell; clear hb1)
    | (go_at_call 62; refine Calls.mono (HR _ HB1.out).out ?_; rintro e w2 ⟨lg, rfl, ho2, hb2⟩; obtain ⟨la, lc, elg⟩ := ho2.shape; subst elg; have hz2 := hb2.size; have HB2 : Hid (Below w.heap.size w w2) := HB1.out.trans (hb2.mono HB1.out.size); have HX2 : Hid (Blk w2 w.heap.size #[.int .i64 c, .int .i64 y, .slice a l.length cap] 24) := HX1.out.below hb2 HX1.out.lt; have HZ2 : Hid (Blk w2 (w.heap.size + 1) #[.int .i64 0, .int .i64 0, .int .i64 0, .slice none 0 0, .int .i64 0, .int .i64 0, .slice none 0 0] 47) := HZ1.out.below hb2 HZ1.out.lt; have HO2 : Hid (OwnE w2 w1.heap.size (.slice la S.log.length lc) S.log) := ho2; clear ho2 hb2 cx1)
    | (have hBA := HO2; refine gate_st 100 (.tmp 3) _ rfl ?_; clear hBA; refine wpl_store_last rfl 100 (.tmp 3) _ rfl (w2.heap.size) rfl rfl rfl infoRcv rfl rfl (by simp [Value.oneCell']) ?_; obtain ⟨W3, hW3⟩ : ∃ W3, W3 = w2.alloc (.cells #[.int .i64 x0, .int .i64 (G : Nat), .int .i64 x2, .int .i64 S.t, .int .i64 S.v, .slice la S.log.length lc] 100) := ⟨_, rfl⟩; rw [← hW3]; have hz3 : W3.heap.size = w2.heap.size + 1 := (by rw [hW3]; simp); have HB3 : Hid (Below w.heap.size w W3) := (by rw [hW3]; exact HB2.out.alloc (by omega) _); have HX3 : Hid (Blk W3 w.heap.size #[.int .i64 c, .int .i64 y, .slice a l.length cap] 24) := (by rw [hW3]; exact HX2.out.alloc _); have HZ3 : Hid (Blk W3 (w.heap.size + 1) #[.int .i64 0, .int .i64 0, .int .i64 0, .slice none 0 0, .int .i64 0, .int .i64 0, .slice none 0 0] 47) := (by rw [hW3]; exact HZ2.out.alloc _); have HR3 : Hid (Blk W3 w2.heap.size #[.int .i64 x0, .int .i64 (G : Nat), .int .i64 x2, .int .i64 S.t, .int .i64 S.v, .slice la S.log.length lc] 100) := (by rw [hW3]; exact Blk.new _ _ _); have HO3 : Hid (OwnE W3 w1.heap.size (.slice la S.log.length lc) S.log) := (by rw [hW3]; exact HO2.out.below ((Below.refl _ _).alloc (Nat.le_refl _) _)); have hlo : Hid (∀ k, (Value.slice la S.log.length lc).ownBlock = some k → k < w2.heap.size) := (fun k hk => (HO2.out.2.lt k hk).2); have cx3 := HX3.out.cell; have cr3 := HR3.out.cell; clear hW3)
    | (go_at_call 50; refine Calls.mono (HC _ HB3.out).out ?_; rintro e w4 ⟨a4, c4, rfl, ho4, hb4⟩; have hz4 := hb4.size; have HB4 : Hid (Below w.heap.size w w4) := HB3.out.trans (hb4.mono HB3.out.size); have HZ4 : Hid (Blk w4 (w.heap.size + 1) #[.int .i64 0, .int .i64 0, .int .i64 0, .slice none 0 0, .int .i64 0, .int .i64 0, .slice none 0 0] 47) := HZ3.out.below hb4 HZ3.out.lt; have HR4 : Hid (Blk w4 w2.heap.size #[.int .i64 x0, .int .i64 (G : Nat), .int .i64 x2, .int .i64 S.t, .int .i64 S.v, .slice la S.log.length lc] 100) := HR3.out.below hb4 HR3.out.lt; have HO4 : Hid (OwnE w4 w1.heap.size (.slice la S.log.length lc) S.log) := HO3.out.below hb4; have HY4 : Hid (Own w4 W3.heap.size (.slice a4 G c4) (l.take G)) := ho4; clear ho4 hb4 cx3 cr3)
    | (have hBA := HY4; refine gate_st 24 (.tmp 4) _ rfl ?_; clear hBA; refine wpl_store_last rfl 24 (.tmp 4) _ rfl (w4.heap.size) rfl rfl rfl infoDskR rfl rfl (by simp [Value.oneCell']) ?_; obtain ⟨W5, hW5⟩ : ∃ W5, W5 = w4.alloc (.cells #[.int .i64 c, .int .i64 y, .slice a4 G c4] 24) := ⟨_, rfl⟩; rw [← hW5]; have hz5 : W5.heap.size = w4.heap.size + 1 := (by rw [hW5]; simp); have HB5 : Hid (Below w.heap.size w W5) := (by rw [hW5]; exact HB4.out.alloc (by omega) _); have BO5 : Blk W5 w4.heap.size #[.int .i64 c, .int .i64 y, .slice a4 G c4] 24 := (by rw [hW5]; exact Blk.new _ _ _); have HZ5 : Hid (Blk W5 (w.heap.size + 1) #[.int .i64 0, .int .i64 0, .int .i64 0, .slice none 0 0, .int .i64 0, .int .i64 0, .slice none 0 0] 47) := (by rw [hW5]; exact HZ4.out.alloc _); have BR5 : Blk W5 w2.heap.size #[.int .i64 x0, .int .i64 (G : Nat), .int .i64 x2, .int .i64 S.t, .int .i64 S.v, .slice la S.log.length lc] 100 := (by rw [hW5]; exact HR4.out.alloc _); have HO5 : Hid (OwnE W5 w1.heap.size (.slice la S.log.length lc) S.log) := (by rw [hW5]; exact HO4.out.below ((Below.refl _ _).alloc (Nat.le_refl _) _)); have HY5 : Hid (Own W5 W3.heap.size (.slice a4 G c4) (l.take G)) := (by rw [hW5]; exact HY4.out.below ((Below.refl _ _).alloc (Nat.le_refl _) _)); have co5 := BO5.cell; have fo5 := BO5.free; have cr5 := BR5.cell; have hyl : Hid (∀ k, (Value.slice a4 G c4).ownBlock = some k → k < w4.heap.size) := (fun k hk => (HY4.out.2.lt k hk).2); have BO6 : Blk (W5.setCell ⟨w4.heap.size, 1, none⟩ (.int .i64 (G : Nat))) w4.heap.size #[.int .i64 c, .int .i64 (G : Nat), .slice a4 G c4] 24 := BO5.set 1 _; have co6 := BO6.cell; have BR6 : Blk (W5.setCell ⟨w4.heap.size, 1, none⟩ (.int .i64 (G : Nat))) w2.heap.size #[.int .i64 x0, .int .i64 (G : Nat), .int .i64 x2, .int .i64 S.t, .int .i64 S.v, .slice la S.log.length lc] 100 := BR5.set_other _ (show w2.heap.size ≠ w4.heap.size by omega); have cr6 := BR6.cell; have HZ6 : Hid (Blk (W5.setCell ⟨w4.heap.size, 1, none⟩ (.int .i64 (G : Nat))) (w.heap.size + 1) #[.int .i64 0, .int .i64 0, .int .i64 0, .slice none 0 0, .int .i64 0, .int .i64 0, .slice none 0 0] 47) := HZ5.out.set_other _ (show w.heap.size + 1 ≠ w4.heap.size by omega); clear hW5 BO6 BR6 BO5 BR5)
    | (have hBA := HZ6; refine gate_st 47 (.tmp 2) _ rfl ?_; clear hBA; refine wpl_store_blk rfl 47 (.tmp 2) _ rfl (w.heap.size + 1) rfl rfl HZ6.out infoRst rfl rfl (by simp [Value.oneCell']) ?_))
  refine bodyPost_ret (results_blk Tryd.results20 rfl (HZ6.out.row _) Tryd.underlying47 rfl infoRst rfl) rfl ⟨a4, c4, la, lc, W3.heap.size, by rw [hlen], by omega, (by simp [World.setRow, World.setCell]; omega), ?_, ?_, (fun k hk => by have := hlo.out k hk; omega), below_row (below_one _ HB5.out (by omega)) (by omega) _⟩
  · rw [hlen]
    refine HY5.out.block fun k hk => ?_
    have h1 := (HY5.out.2.lt k hk).1
    have h2 := hyl.out k hk
    exact (setRow_other _ _ _ _ (by omega)).trans (Below.heap_setCell W5 ⟨w4.heap.size, 1, none⟩ _ k (show k ≠ w4.heap.size by omega))
  · refine (HO5.out.block fun k hk => ?_).le (by omega)
    have h1 := (HO5.out.2.lt k hk).1
    have h2 := hlo.out k hk
    exact (setRow_other _ _ _ _ (by omega)).trans (Below.heap_setCell W5 ⟨w4.heap.size, 1, none⟩ _ k (show k ≠ w4.heap.size by omega))
theorem restartI_any (c y : Int) (b off cap : Nat) (l : List Int) (w : World) (A : Nat → Addr) (B : Nat) (hs : Sents w A B) (hv : Bs w (.slice (some ⟨b, off, none⟩) l.length cap) l) (hc : l.length ≤ cap) (hl : l.length ≤ 1048576) :
    Calls Tryd.prog 20 #[.agg #[.int .i64 c, .int .i64 y, .slice (some ⟨b, off, none⟩) l.length cap]] w fun e w' => RestAt w w' e (rtK c y l) (rtC c y l) (rtY c y l) (rtL c y l) (rtS c y l) := restartI_gen c y (some ⟨b, off, none⟩) cap l w A B hs hv hc hl (.inr ⟨b, off, rfl⟩)
end Go.Proofs.YtjoflnnomebkpaaDoor
