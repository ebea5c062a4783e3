/-
  NewNode: impl.
-/
import Derived.Test.YtceokablbefjhaaPlace
import Derived.Test.YtceokablbefjhaaStB
import Derived.Test.YtceokablbefjhaaTimeout
import Derived.Test.YtceokablbefjhaaEntsClone
import Derived.Test.YtceokablbefjhaaBlk
namespace Go.Proofs.Ytceokablbefjhaa
open Go.RowKit
set_option linter.unusedVariables false
set_option linter.unusedSimpArgs false

/-- may such a server start? -/
def newB (id sz el bt t v : Int) (l : List Ent) : Bool := placeB id sz el bt && (stB t v l && decide (v ≤ sz))
theorem sizeNw : (Try.prog.info? 61).map (·.size) = some 18 := by kernel_rfl
/-- what NewNode answers -/
def NewAt (w w' : World) (x : Ending) (id sz el bt t v dr : Int) (l : List Ent) : Prop :=
  if newB id sz el bt t v l then ∃ b c, x = .returned (.agg #[.int .i64 id, .int .i64 sz, .int .i64 el, .int .i64 bt, .int .i64 t, .int .i64 v, .int .i64 0, .int .i64 0, .int .i64 0, .int .i64 0, .int .i64 (toutC el dr), .int .i64 0, .slice b l.length c, .slice none 0 0, .slice none 0 0, .slice none 0 0, .slice none 0 0, .slice none 0 0]) ∧ OwnE w' w.heap.size (.slice b l.length c) l ∧ Below w.heap.size w w'
  else x = .returned (.agg #[.int .i64 0, .int .i64 0, .int .i64 0, .int .i64 0, .int .i64 0, .int .i64 0, .int .i64 0, .int .i64 0, .int .i64 0, .int .i64 0, .int .i64 0, .int .i64 0, .slice none 0 0, .slice none 0 0, .slice none 0 0, .slice none 0 0, .slice none 0 0, .slice none 0 0]) ∧ Below w.heap.size w w'

set_option maxHeartbeats 4000000 in
set_option maxRecDepth 100000 in
theorem newNode_any (id sz el bt t v dr : Int) (a : Option Addr) (cap : Nat) (l : List Ent) (w : World) (hv : Es w (.slice a l.length cap) l) (hll : l.length ≤ 1048576) (hd1 : -(2 ^ 63) ≤ dr) (hd2 : dr < 2 ^ 63) :
    Calls Try.prog 34 #[.int .i64 id, .int .i64 sz, .int .i64 el, .int .i64 bt, .agg #[.int .i64 t, .int .i64 v, .slice a l.length cap], .int .i64 dr] w fun x w' => NewAt w w' x id sz el bt t v dr l := by
  have HV : Hid (Es w (.slice a l.length cap) l) := hv
  clear hv
  unfold NewAt
  cases hp : placeB id sz el bt
  · rw [show newB id sz el bt t v l = false by simp [newB, hp]]
    simp only [Bool.false_eq_true, if_false]
    go_enter Try.func34, Try.ntmps34
    go_wp2_with (first
      | (go_at_call 91; refine (placeFits_any _ _ _ _ _).mono ?_; rintro e w1 ⟨rfl, hw⟩; obtain rfl := hw.symm; clear hw; rw [hp])
      | (refine gate_st 61 (.tmp 12) _ rfl ?_; refine wpl_store_last rfl 61 (.tmp 12) _ rfl (w.heap.size + 1) rfl (by simp) rfl sizeNw rfl rfl (by simp [Value.oneCell']) ?_))
    exact bodyPost_ret (v := .agg #[.int .i64 0, .int .i64 0, .int .i64 0, .int .i64 0, .int .i64 0, .int .i64 0, .int .i64 0, .int .i64 0, .int .i64 0, .int .i64 0, .int .i64 0, .int .i64 0, .slice none 0 0, .slice none 0 0, .slice none 0 0, .slice none 0 0, .slice none 0 0, .slice none 0 0]) (results_blk Try.results34 rfl (Blk.new' _ _ _ (by simp)) Try.underlying61 rfl sizeNw rfl) rfl ⟨rfl, ((Below.refl _ _).alloc (Nat.le_refl _) _).alloc (by simp) _⟩
  cases hs : stB t v l
  · rw [show newB id sz el bt t v l = false by simp [newB, hs]]
    simp only [Bool.false_eq_true, if_false]
    go_enter Try.func34, Try.ntmps34
    go_wp2_with (first
      | (go_at_call 91; refine (placeFits_any _ _ _ _ _).mono ?_; rintro e w1 ⟨rfl, hw⟩; obtain rfl := hw.symm; clear hw; rw [hp])
      | (go_at_call 92; refine (stableFits_any t v _ l _ (HV.out.below (((Below.refl _ _).alloc (Nat.le_refl _) _).alloc (by simp) _)) hll).mono ?_; rintro e w1 ⟨rfl, hb1⟩; rw [hs]; have hz : w.heap.size + 1 < w1.heap.size := (by have := hb1.size; simp at this; omega); have BS := ((Blk.new w _ _).alloc _).below hb1 (by simp; omega); have BR := (Blk.new' (w.alloc _) _ _ (k := w.heap.size + 1) (by simp)).below hb1 (by simp); have HB : Hid (Below w.heap.size w w1) := (((Below.refl w.heap.size w).alloc (Nat.le_refl _) _).alloc (by simp) _).trans (hb1.mono (by simp; omega)); have cS := BS.cell; clear hb1)
      | (have hBR := BR; refine gate_st 61 (.tmp 12) _ rfl ?_; clear hBR; refine wpl_store_blk rfl 61 (.tmp 12) _ rfl (w.heap.size + 1) rfl rfl BR sizeNw rfl rfl (by simp [Value.oneCell']) ?_))
    exact bodyPost_ret (v := .agg #[.int .i64 0, .int .i64 0, .int .i64 0, .int .i64 0, .int .i64 0, .int .i64 0, .int .i64 0, .int .i64 0, .int .i64 0, .int .i64 0, .int .i64 0, .int .i64 0, .slice none 0 0, .slice none 0 0, .slice none 0 0, .slice none 0 0, .slice none 0 0, .slice none 0 0]) (results_blk Try.results34 rfl (BR.row _) Try.underlying61 rfl sizeNw rfl) rfl ⟨rfl, below_row HB.out (by omega) _⟩
  by_cases hvs : v ≤ sz
  case neg =>
    rw [show newB id sz el bt t v l = false by simp [newB, hvs]]
    simp only [Bool.false_eq_true, if_false]
    have hgt : sz < v := by omega
    go_enter Try.func34, Try.ntmps34
    go_wp2_with (first
      | (go_at_call 91; refine (placeFits_any _ _ _ _ _).mono ?_; rintro e w1 ⟨rfl, hw⟩; obtain rfl := hw.symm; clear hw; rw [hp])
      | (go_at_call 92; refine (stableFits_any t v _ l _ (HV.out.below (((Below.refl _ _).alloc (Nat.le_refl _) _).alloc (by simp) _)) hll).mono ?_; rintro e w1 ⟨rfl, hb1⟩; rw [hs]; have hz : w.heap.size + 1 < w1.heap.size := (by have := hb1.size; simp at this; omega); have BS := ((Blk.new w _ _).alloc _).below hb1 (by simp; omega); have BR := (Blk.new' (w.alloc _) _ _ (k := w.heap.size + 1) (by simp)).below hb1 (by simp); have HB : Hid (Below w.heap.size w w1) := (((Below.refl w.heap.size w).alloc (Nat.le_refl _) _).alloc (by simp) _).trans (hb1.mono (by simp; omega)); have cS := BS.cell; clear hb1)
      | (have hBR := BR; refine gate_st 61 (.tmp 12) _ rfl ?_; clear hBR; refine wpl_store_blk rfl 61 (.tmp 12) _ rfl (w.heap.size + 1) rfl rfl BR sizeNw rfl rfl (by simp [Value.oneCell']) ?_))
    exact bodyPost_ret (v := .agg #[.int .i64 0, .int .i64 0, .int .i64 0, .int .i64 0, .int .i64 0, .int .i64 0, .int .i64 0, .int .i64 0, .int .i64 0, .int .i64 0, .int .i64 0, .int .i64 0, .slice none 0 0, .slice none 0 0, .slice none 0 0, .slice none 0 0, .slice none 0 0, .slice none 0 0]) (results_blk Try.results34 rfl (BR.row _) Try.underlying61 rfl sizeNw rfl) rfl ⟨rfl, below_row HB.out (by omega) _⟩
  rw [show newB id sz el bt t v l = true by simp [newB, hp, hs, hvs]]
  simp only [if_true]
  go_enter Try.func34, Try.ntmps34
  go_wp2_with (first
    | (go_at_call 91; refine (placeFits_any _ _ _ _ _).mono ?_; rintro e w1 ⟨rfl, hw⟩; obtain rfl := hw.symm; clear hw; rw [hp])
    | (go_at_call 92; refine (stableFits_any t v _ l _ (HV.out.below (((Below.refl _ _).alloc (Nat.le_refl _) _).alloc (by simp) _)) hll).mono ?_; rintro e w1 ⟨rfl, hb1⟩; rw [hs]; have hz : w.heap.size + 1 < w1.heap.size := (by have := hb1.size; simp at this; omega); have BS := ((Blk.new w _ _).alloc _).below hb1 (by simp; omega); have BR := (Blk.new' (w.alloc _) _ _ (k := w.heap.size + 1) (by simp)).below hb1 (by simp); have HB : Hid (Below w.heap.size w w1) := (((Below.refl w.heap.size w).alloc (Nat.le_refl _) _).alloc (by simp) _).trans (hb1.mono (by simp; omega)); have cS := BS.cell; clear hb1)
    | (have hBR := BR; refine gate_st 61 (.tmp 13) _ rfl ?_; clear hBR; refine wpl_store_last rfl 61 (.tmp 13) _ rfl (w1.heap.size) rfl rfl rfl sizeNw rfl rfl (by simp [Value.oneCell']) ?_; have BS2 := BS.alloc (.cells #[.int .i64 id, .int .i64 sz, .int .i64 el, .int .i64 bt, .int .i64 t, .int .i64 v, .int .i64 0, .int .i64 0, .int .i64 0, .int .i64 0, .int .i64 0, .int .i64 0, .slice none 0 0, .slice none 0 0, .slice none 0 0, .slice none 0 0, .slice none 0 0, .slice none 0 0] 61); have cS2 := BS2.cell; clear cS)
    | (go_at_call 93; refine (cloneE_any _ l _ (HV.out.below (HB.out.alloc (by omega) _)) hll).mono ?_; rintro e w2 ⟨v2, rfl, ho, hb2⟩; obtain ⟨b2, c2, rfl⟩ := ho.shape; have hz2 : w1.heap.size < w2.heap.size := (by have := hb2.size; simp at this; omega); replace BR := (BR.alloc _).below hb2 (by simp; omega); have BN := (Blk.new w1 _ _).below hb2 (by simp); replace HB : Hid (Below w.heap.size w w2) := (HB.out.alloc (by omega) _).trans (hb2.mono (by simp; omega)); have HO : Hid (OwnE w2 (w1.heap.size + 1) (.slice b2 l.length c2) l) := (by have h := ho; rw [World.size_alloc] at h; exact h); have cN := BN.cell; have fN := BN.free; clear ho hb2 cS2 BS2)
    | (go_at_call 94; refine (timeoutOf_any el dr hd1 hd2 _).mono ?_; rintro e w3 ⟨rfl, hw⟩; obtain rfl := hw.symm; clear hw)
    | (have hBN := BN; refine gate_ld 61 (.tmp 13) rfl ?_; clear hBN; have BN2 : Blk ((w2.setCell ⟨w1.heap.size, 12, none⟩ (.slice b2 l.length c2)).setCell ⟨w1.heap.size, 10, none⟩ (.int .i64 (toutC el dr))) w1.heap.size #[.int .i64 id, .int .i64 sz, .int .i64 el, .int .i64 bt, .int .i64 t, .int .i64 v, .int .i64 0, .int .i64 0, .int .i64 0, .int .i64 0, .int .i64 (toutC el dr), .int .i64 0, .slice b2 l.length c2, .slice none 0 0, .slice none 0 0, .slice none 0 0, .slice none 0 0, .slice none 0 0] 61 := (by have h := ((BN.set 12 (.slice b2 l.length c2)).set 10 (.int .i64 (toutC el dr))); simp only [List.setIfInBounds_toArray, List.set_cons_succ, List.set_cons_zero] at h; exact h); have BR2 : Blk ((w2.setCell ⟨w1.heap.size, 12, none⟩ (.slice b2 l.length c2)).setCell ⟨w1.heap.size, 10, none⟩ (.int .i64 (toutC el dr))) (w.heap.size + 1) #[.int .i64 0, .int .i64 0, .int .i64 0, .int .i64 0, .int .i64 0, .int .i64 0, .int .i64 0, .int .i64 0, .int .i64 0, .int .i64 0, .int .i64 0, .int .i64 0, .slice none 0 0, .slice none 0 0, .slice none 0 0, .slice none 0 0, .slice none 0 0, .slice none 0 0] 61 := ((BR.set_other (p := ⟨w1.heap.size, 12, none⟩) (.slice b2 l.length c2) (show w.heap.size + 1 ≠ w1.heap.size by omega)).set_other (p := ⟨w1.heap.size, 10, none⟩) (.int .i64 (toutC el dr)) (show w.heap.size + 1 ≠ w1.heap.size by omega)); have HB2 : Hid (Below w.heap.size w ((w2.setCell ⟨w1.heap.size, 12, none⟩ (.slice b2 l.length c2)).setCell ⟨w1.heap.size, 10, none⟩ (.int .i64 (toutC el dr)))) := ((HB.out.setCell (p := ⟨w1.heap.size, 12, none⟩) (show w.heap.size ≤ w1.heap.size by omega) (.slice b2 l.length c2)).setCell (p := ⟨w1.heap.size, 10, none⟩) (show w.heap.size ≤ w1.heap.size by omega) (.int .i64 (toutC el dr))); have HO2 : Hid (OwnE ((w2.setCell ⟨w1.heap.size, 12, none⟩ (.slice b2 l.length c2)).setCell ⟨w1.heap.size, 10, none⟩ (.int .i64 (toutC el dr))) (w1.heap.size + 1) (.slice b2 l.length c2) l) := ((HO.out.block fun k hk => Below.heap_setCell _ _ _ _ (fun e => by have h9 := (HO.out.2.lt k hk).1; simp only at e; omega)).block fun k hk => Below.heap_setCell _ _ _ _ (fun e => by have h9 := (HO.out.2.lt k hk).1; simp only at e; omega)); generalize ((w2.setCell ⟨w1.heap.size, 12, none⟩ (.slice b2 l.length c2)).setCell ⟨w1.heap.size, 10, none⟩ (.int .i64 (toutC el dr))) = u at BN2 BR2 HB2 HO2 ⊢; clear BN BR HB HO cN fN; refine wpl_load_blk rfl 61 (.tmp 13) rfl (w1.heap.size) rfl BN2 Try.underlying61 rfl sizeNw rfl ?_)
    | (have hBR := BR2; refine gate_st 61 (.tmp 12) _ rfl ?_; clear hBR; refine wpl_store_blk rfl 61 (.tmp 12) _ rfl (w.heap.size + 1) rfl rfl BR2 sizeNw rfl rfl (by simp [Value.oneCell']) ?_))
  exact bodyPost_ret (v := .agg #[.int .i64 id, .int .i64 sz, .int .i64 el, .int .i64 bt, .int .i64 t, .int .i64 v, .int .i64 0, .int .i64 0, .int .i64 0, .int .i64 0, .int .i64 (toutC el dr), .int .i64 0, .slice b2 l.length c2, .slice none 0 0, .slice none 0 0, .slice none 0 0, .slice none 0 0, .slice none 0 0]) (results_blk Try.results34 rfl (BR2.row _) Try.underlying61 rfl sizeNw rfl) rfl ⟨b2, c2, rfl, (HO2.out.block fun k hk => setRow_other _ _ _ _ (by have h9 := (HO2.out.2.lt k hk).1; omega)).le (by omega), below_row HB2.out (by omega) _⟩

end Go.Proofs.Ytceokablbefjhaa
