/-
  The law's own functions on steps and scripts.
-/
import Derived.Test.YtabnanmfojppjaaDoorSkPure
import Derived.Test.YtabnanmfojppjaaDoorRowBase
import Derived.Test.YtabnanmfojppjaaDoorIxB
import Derived.Test.YtabnanmfojppjaaDoorBlk
import Derived.Test.YtabnanmfojppjaaDoorCmdArg
import Derived.Test.YtabnanmfojppjaaDoorEqCmd
import Derived.Deep.RegionHeld3
import Derived.Deep.QuietTactic
import Derived.BigQuiet
import Derived.Laws.MakeOwn
namespace Go.Proofs.YtabnanmfojppjaaDoor
open Go.RowKit
set_option linter.unusedVariables false
set_option linter.unusedSimpArgs false

structure Stp.fitA (x : Stp) : Prop where
  k : x.k.size ≤ maxLen
  v : x.v.size ≤ maxLen
  o : x.o.size ≤ maxLen
def Stp.small (x : Stp) : Prop := x.k.size ≤ 1048576 ∧ x.v.size ≤ 1048576 ∧ x.o.size ≤ 1048576
theorem Stp.small.fits {x : Stp} (h : x.small) : x.fits := ⟨h.1, h.2.1, h.2.2⟩
theorem szC_sk (k v o left : Int) (hk : 0 ≤ k) (hv : 0 ≤ v) (ho : 0 ≤ o) (hl : 0 ≤ left) : szC k v o left ≤ left ∧ (0 ≤ szC k v o left → k ≤ left ∧ v ≤ left ∧ o ≤ left) := by
  unfold szC
  repeat' split
  all_goals omega
set_option maxHeartbeats 2000000 in
set_option maxRecDepth 100000 in
theorem szStep_ln (x : Stp) (h : x.fitA) (left : Int) (h0 : 0 ≤ left) (h1 : left ≤ 1048576) (w : World) :
    Calls Tryd.prog 29 #[.agg #[.int .i64 x.kd, .int .i64 x.a, .int .i64 x.b, .int .i64 x.c, .int .i64 x.cl, .int .i64 x.sq, .int .i64 x.op, .string x.k, .string x.v, .string x.o], .int .i64 left] w fun r w' => (∃ s : Int, r = .returned (.int .i64 s) ∧ s ≤ left ∧ (0 ≤ s → x.small)) ∧ Below w.heap.size w w' := by
  have HC : Hid (∀ u, Calls Tryd.prog 50 #[.agg #[.int .i64 x.cl, .int .i64 x.sq, .int .i64 x.op, .string x.k, .string x.v, .string x.o], .int .i64 left] u fun r w' => (∃ s : Int, r = .returned (.int .i64 s) ∧ s ≤ left ∧ (0 ≤ s → x.small)) ∧ Below u.heap.size u w') := fun u =>
    (szCmd_any x.cl x.sq x.op x.k x.v x.o left h0 h1 h.k h.v h.o u).mono fun e w' ⟨h1', h2⟩ => by
      have := szC_sk x.k.size x.v.size x.o.size left (by omega) (by omega) (by omega) h0
      exact ⟨⟨_, h1', this.1, fun hs => by have := this.2 hs; exact ⟨by omega, by omega, by omega⟩⟩, h2⟩
  clear h
  generalize hP : x.small = P at *
  obtain ⟨kd, xa, xb, xc, cl, sq, op, k, v, o⟩ := x
  dsimp only at HC ⊢
  clear hP
  go_enter Tryd.func29, Tryd.ntmps29
  go_wp2_with (go_at_call 50; refine (HC.out _).mono ?_; rintro r w1 ⟨⟨s, rfl, hs1, hs2⟩, hb⟩; have HB1 : Hid (Below w.heap.size w w1) := ((Below.refl _ _).alloc (Nat.le_refl _) _).trans (hb.mono (by simp)); have HS2 : Hid (0 ≤ s → P) := hs2; clear hb hs2)
  all_goals go_ret
  all_goals refine ⟨⟨_, rfl, by omega, fun hq => ?_⟩, HB1.out⟩
  all_goals first | (exfalso; omega) | exact HS2.out (by omega)

theorem sizeSt : (Tryd.prog.info? 47).map (·.size) = some 10 := by kernel_rfl
theorem sizeStL : (Tryd.prog.info? 67).map (·.size) = some 10 := by kernel_rfl
set_option maxHeartbeats 4000000 in
set_option maxRecDepth 100000 in
theorem toStep_any (kd xa xb xc cl sq op : Int) (k v o : ByteArray) (w : World) :
    Calls Tryd.prog 35 #[.agg #[.int .i64 kd, .int .i64 xa, .int .i64 xb, .int .i64 xc, .int .i64 cl, .int .i64 sq, .int .i64 op, .string k, .string v, .string o]] w fun e w' => e = .returned (.agg #[.int .i64 kd, .int .i64 xa, .int .i64 xb, .int .i64 xc, .int .i64 cl, .int .i64 sq, .int .i64 op, .string k, .string v, .string o]) ∧ Below w.heap.size w w' := by
  go_enter Tryd.func35, Tryd.ntmps35
  go_wp2_with (first
    | (go_at_call 54; refine (toCmd_any _ _ _ _ _ _ _).mono ?_; rintro e w1 ⟨rfl, hb1⟩; have hz : w.heap.size + 2 < w1.heap.size := (by have := hb1.size; simp at this; omega); have BR := ((Blk.new' (w.alloc _) _ _ (k := w.heap.size + 1) (by simp)).alloc _).below hb1 (by simp <;> omega); have BO := (Blk.new' ((w.alloc _).alloc _) _ _ (k := w.heap.size + 1 + 1) (by simp)).below hb1 (by simp <;> omega); have HB := (((((Below.refl w.heap.size w).alloc (Nat.le_refl _) _).alloc (by simp) _).alloc (by simp <;> omega) _).trans (hb1.mono (by simp <;> omega))); have cO := BO.cell; have fO := BO.free; clear hb1)
    | (refine gate_ld 47 (.tmp 3) rfl ?_; have BO2 : Blk ((((((w1.setCell ⟨w.heap.size + 1 + 1, 4, none⟩ (.int .i64 cl)).setCell ⟨w.heap.size + 1 + 1, 5, none⟩ (.int .i64 sq)).setCell ⟨w.heap.size + 1 + 1, 6, none⟩ (.int .i64 op)).setCell ⟨w.heap.size + 1 + 1, 7, none⟩ (.string k)).setCell ⟨w.heap.size + 1 + 1, 8, none⟩ (.string v)).setCell ⟨w.heap.size + 1 + 1, 9, none⟩ (.string o)) (w.heap.size + 1 + 1) #[.int .i64 kd, .int .i64 xa, .int .i64 xb, .int .i64 xc, .int .i64 cl, .int .i64 sq, .int .i64 op, .string k, .string v, .string o] 47 := (by have h := ((((((BO.set 4 (.int .i64 cl)).set 5 (.int .i64 sq)).set 6 (.int .i64 op)).set 7 (.string k)).set 8 (.string v)).set 9 (.string o)); simp only [List.setIfInBounds_toArray, List.set_cons_succ, List.set_cons_zero] at h; exact h); have BR2 : Blk ((((((w1.setCell ⟨w.heap.size + 1 + 1, 4, none⟩ (.int .i64 cl)).setCell ⟨w.heap.size + 1 + 1, 5, none⟩ (.int .i64 sq)).setCell ⟨w.heap.size + 1 + 1, 6, none⟩ (.int .i64 op)).setCell ⟨w.heap.size + 1 + 1, 7, none⟩ (.string k)).setCell ⟨w.heap.size + 1 + 1, 8, none⟩ (.string v)).setCell ⟨w.heap.size + 1 + 1, 9, none⟩ (.string o)) (w.heap.size + 1) #[.int .i64 0, .int .i64 0, .int .i64 0, .int .i64 0, .int .i64 0, .int .i64 0, .int .i64 0, .string ⟨#[]⟩, .string ⟨#[]⟩, .string ⟨#[]⟩] 47 := ((((((BR.set_other _ (by simp)).set_other _ (by simp)).set_other _ (by simp)).set_other _ (by simp)).set_other _ (by simp)).set_other _ (by simp)); have HB2 : Below w.heap.size w ((((((w1.setCell ⟨w.heap.size + 1 + 1, 4, none⟩ (.int .i64 cl)).setCell ⟨w.heap.size + 1 + 1, 5, none⟩ (.int .i64 sq)).setCell ⟨w.heap.size + 1 + 1, 6, none⟩ (.int .i64 op)).setCell ⟨w.heap.size + 1 + 1, 7, none⟩ (.string k)).setCell ⟨w.heap.size + 1 + 1, 8, none⟩ (.string v)).setCell ⟨w.heap.size + 1 + 1, 9, none⟩ (.string o)) := ((((((HB.setCell (by simp only []; omega) _).setCell (by simp only []; omega) _).setCell (by simp only []; omega) _).setCell (by simp only []; omega) _).setCell (by simp only []; omega) _).setCell (by simp only []; omega) _); refine wpl_load_blk rfl 47 (.tmp 3) rfl (w.heap.size + 1 + 1) rfl BO2 Tryd.underlying47 rfl sizeSt rfl ?_)
    | (refine gate_st 47 (.tmp 2) _ rfl ?_; refine wpl_store_blk rfl 47 (.tmp 2) _ rfl (w.heap.size + 1) rfl rfl BR2 sizeSt rfl rfl (by simp [Value.oneCell']) ?_))
  exact bodyPost_ret (v := .agg #[.int .i64 kd, .int .i64 xa, .int .i64 xb, .int .i64 xc, .int .i64 cl, .int .i64 sq, .int .i64 op, .string k, .string v, .string o]) (results_blk Tryd.results35 rfl (BR2.row _) Tryd.underlying47 rfl sizeSt rfl) rfl ⟨rfl, below_row HB2 (by omega) _⟩
set_option maxHeartbeats 4000000 in
set_option maxRecDepth 100000 in
theorem eqStep_same (kd xa xb xc cl sq op : Int) (k v o : ByteArray) (w : World) :
    Calls Tryd.prog 49 #[.agg #[.int .i64 kd, .int .i64 xa, .int .i64 xb, .int .i64 xc, .int .i64 cl, .int .i64 sq, .int .i64 op, .string k, .string v, .string o], .agg #[.int .i64 kd, .int .i64 xa, .int .i64 xb, .int .i64 xc, .int .i64 cl, .int .i64 sq, .int .i64 op, .string k, .string v, .string o]] w fun e w' => e = .returned (.bool true) ∧ Below w.heap.size w w' := by
  go_enter Tryd.func49, Tryd.ntmps49
  go_wp2_with (go_at_call 63; refine (eqCmd_same _ _ _ _ _ _ _).mono ?_; rintro e w1 ⟨rfl, hb1⟩; have HB : Below w.heap.size w w1 := ((((Below.refl w.heap.size w).alloc (Nat.le_refl _) _).alloc (by simp) _).trans (hb1.mono (by simp <;> omega))); clear hb1)
  go_ret
  exact ⟨rfl, HB⟩

theorem infoFStep : (Tryd.prog.info? 47).map (fun i => (i.zero, i.size, i.bytes)) = some (some (.agg #[.int .i64 0, .int .i64 0, .int .i64 0, .int .i64 0, .int .i64 0, .int .i64 0, .int .i64 0, .string ⟨#[]⟩, .string ⟨#[]⟩, .string ⟨#[]⟩]), 10, 104) := by kernel_rfl
structure SlAStep (w : World) (v : Value) (l : List Stp) : Prop where
  sl : Sl stC 10 w v l
  fits : ∀ e ∈ l, e.fitA
theorem SlAStep.below {w w' : World} {v : Value} {l : List Stp} (h : SlAStep w v l) (hb : Below w.heap.size w w') : SlAStep w' v l := ⟨h.sl.below hb, h.fits⟩
set_option maxHeartbeats 4000000 in
set_option maxRecDepth 100000 in
theorem szStepS_ln (v : Value) (l : List Stp) (w : World) (hv : SlAStep w v l) (left : Int) (h0 : 0 ≤ left) (h1 : left ≤ 1048576) :
    Calls Tryd.prog 10 #[v, .int .i64 left] w fun r w' =>
      (∃ s : Int, r = .returned (.int .i64 s) ∧ s ≤ left ∧ (0 ≤ s → l.length ≤ 1048576 ∧ ∀ e ∈ l, e.small)) ∧ Below w.heap.size w w' := by
  have HV : Hid (SlAStep w v l) := hv
  obtain ⟨⟨hl, a, cap, rfl, hc⟩, hf⟩ := hv
  have HF : Hid (∀ e ∈ l, e.fitA) := hf
  have HC : Hid (∀ i, i < l.length → ∃ b off, a = some ⟨b, off, none⟩ ∧ ∀ j (h : j < l.length), w.rangeAt b (off + j * 10) (stC l[j])) := hc
  unfold maxLen at hl
  clear hc hf
  go_enter Tryd.func10, Tryd.ntmps10
  go_wp2
  · go_ret
    exact ⟨⟨_, rfl, by omega, fun h => absurd h (by omega)⟩, Below.refl _ _⟩
  · go_loopw [1, 5] (fun s i wr => ∃ (k : Nat) (x : Int), k ≤ l.length ∧ i = .int .i64 k ∧ s = .int .i64 x ∧ 0 ≤ x ∧ x ≤ left ∧ (∀ e ∈ l.take k, e.small) ∧ Below w.heap.size w wr) (fun _ i _ => l.length - (intOf i).toNat)
    case atStart => exact ⟨0, _, Nat.zero_le _, rfl, rfl, by omega, by omega, by simp, Below.refl _ _⟩
    case round =>
      obtain ⟨k, x, hk, rfl, rfl, hx, hx', hS, hB⟩ := hrel
      have HS : Hid (∀ e ∈ l.take k, e.small) := hS
      have HB : Hid (Below w.heap.size w wr) := hB
      clear hS hB
      by_cases hlt : k < l.length
      · obtain ⟨b, off, rfl, hj⟩ := HC.out k hlt
        have HR : Hid (wr.rangeAt b (off + k * 10) [.int .i64 l[k].kd, .int .i64 l[k].a, .int .i64 l[k].b, .int .i64 l[k].c, .int .i64 l[k].cl, .int .i64 l[k].sq, .int .i64 l[k].op, .string l[k].k, .string l[k].v, .string l[k].o]) := range_below (hj k hlt) HB.out
        have HZ : Hid (∀ u, Calls Tryd.prog 29 #[.agg #[.int .i64 l[k].kd, .int .i64 l[k].a, .int .i64 l[k].b, .int .i64 l[k].c, .int .i64 l[k].cl, .int .i64 l[k].sq, .int .i64 l[k].op, .string l[k].k, .string l[k].v, .string l[k].o], .int .i64 x] u fun r w' => (∃ s : Int, r = .returned (.int .i64 s) ∧ s ≤ x ∧ (0 ≤ s → l[k].small)) ∧ Below u.heap.size u w') := fun u => szStep_ln l[k] (HF.out _ (List.getElem_mem hlt)) x hx (by omega) u
        have HN : Hid (l[k].small → ∀ e ∈ l.take (k + 1), e.small) := fun hs e he => by
          rw [List.take_succ_eq_append_getElem hlt] at he
          rcases List.mem_append.1 he with h | h
          · exact HS.out e h
          · rw [List.mem_singleton.1 h]; exact hs
        have hkl : (k : Int) < (l.length : Int) := by omega
        generalize l[k] = e at HR HZ HN
        have hsz := HB.out.size
        clear hj
        go_wp2_with (first
          | (refine gate_ld 67 (.tmp 20) rfl ?_; refine wpList_load_mid rfl 67 (.tmp 20) rfl b (off + k * 10) rfl _ _ HR.out Tryd.underlying67 rfl sizeStL ?_)
          | (go_at_call 29; refine (HZ.out _).mono ?_; rintro r w1 ⟨⟨s, rfl, hs1, hs2⟩, hb⟩; have HS2 : Hid (0 ≤ s → e.small) := hs2; have HB1 : Hid (Below w.heap.size w w1) := HB.out.trans (hb.mono (by omega)); clear hb hs2))
        · go_ret
          exact ⟨⟨_, rfl, by omega, fun h => absurd h (by omega)⟩, HB1.out⟩
        · go_roundw
          case rel => exact ⟨k + 1, s, by omega, by go_num, rfl, by omega, by omega, HN.out (HS2.out (by omega)), HB1.out⟩
          case measure => simp [intOf]; omega
      · obtain rfl : k = l.length := by omega
        rw [List.take_length] at HS
        go_wp2
        go_ret
        exact ⟨⟨_, rfl, by omega, fun _ => ⟨by omega, HS.out⟩⟩, HB.out⟩
set_option maxHeartbeats 4000000 in
set_option maxRecDepth 100000 in
theorem toStepS_ln (v : Value) (l : List Stp) (w : World) (hv : Sl stC 10 w v l) (hl' : l.length ≤ 1048576) :
    Calls Tryd.prog 20 #[v] w fun r w' => ∃ q, w.heap.size ≤ q ∧ r = .returned (.slice (some ⟨q, 0, none⟩) l.length l.length) ∧ Sl stC 10 w' (.slice (some ⟨q, 0, none⟩) l.length l.length) l ∧ Below w.heap.size w w' := by
  have HV : Hid (Sl stC 10 w v l) := hv
  obtain ⟨hl, a, cap, rfl, hc⟩ := hv
  obtain ⟨i0, hi, hz0, hz1, hz2⟩ := info_parts infoFStep
  have hmk : ∀ u : World, (Instr.makeSlice 31 (.int .i64 (l.length : Int)) (.int .i64 (l.length : Int))).run Tryd.prog u =
      .ok (.slice (some ⟨u.heap.size, 0, none⟩) l.length l.length) (u.alloc (.cells (madeCells #[.int .i64 0, .int .i64 0, .int .i64 0, .int .i64 0, .int .i64 0, .int .i64 0, .int .i64 0, .string ⟨#[]⟩, .string ⟨#[]⟩, .string ⟨#[]⟩] (l.length * 10)) 47)) := fun u => by
    have h := run_make (P := Tryd.prog) u 31 47 i0 _ Tryd.underlying31 hi hz0 .i64 .i64 (l.length : Int) (l.length : Int) (by omega) (Int.le_refl _) (by rw [hz2]; omega) (by omega)
    simpa [hz1, Value.cells] using h
  clear hi hz0 hz1 hz2
  go_enter Tryd.func20, Tryd.ntmps20
  go_wp2
  go_loopw [4] (fun i wr => ∃ k : Nat, k ≤ l.length ∧ i = .int .i64 k ∧ CopiedG stC 10 w wr l k) (fun i _ => l.length - (intOf i).toNat)
  case atStart => exact ⟨0, Nat.zero_le _, rfl, CopiedG.start _ _ w l _ _⟩
  case round =>
    obtain ⟨k, hk, rfl, hC⟩ := hrel
    have HC : Hid (CopiedG stC 10 w wr l k) := hC
    have hsz := hC.size
    by_cases hlt : k < l.length
    · obtain ⟨b, off, rfl, hj⟩ := hc k hlt
      have HR : Hid (wr.rangeAt b (off + k * 10) [.int .i64 l[k].kd, .int .i64 l[k].a, .int .i64 l[k].b, .int .i64 l[k].c, .int .i64 l[k].cl, .int .i64 l[k].sq, .int .i64 l[k].op, .string l[k].k, .string l[k].v, .string l[k].o]) := range_below (hj k hlt) hC.below
      have HST : Hid (∀ w1, CopiedG stC 10 w w1 l k → CopiedG stC 10 w (w1.setCells w.heap.size (k * 10) [.int .i64 l[k].kd, .int .i64 l[k].a, .int .i64 l[k].b, .int .i64 l[k].c, .int .i64 l[k].cl, .int .i64 l[k].sq, .int .i64 l[k].op, .string l[k].k, .string l[k].v, .string l[k].o]) l (k + 1)) := fun w1 h => h.step hlt (fun _ => rfl)
      have hkl : (k : Int) < (l.length : Int) := by omega
      clear hj hc hC hmk
      generalize l[k] = e at HR HST
      go_wp2_with (first
        | (refine gate_ld 67 (.tmp 18) rfl ?_; refine wpList_load_mid rfl 67 (.tmp 18) rfl b (off + k * 10) rfl _ _ HR.out Tryd.underlying67 rfl sizeStL ?_)
        | (go_at_call 35; refine (toStep_any _ _ _ _ _ _ _ _ _ _ _).mono ?_; rintro r w1 ⟨rfl, hb⟩; have HC1 : Hid (CopiedG stC 10 w w1 l k) := HC.out.later hb; have HTH : Hid (w1.there w.heap.size (k * 10) 10) := there_sub HC1.out.there _ _ (row_le hlt (Nat.le_refl _)); clear hb)
        | (have hBA := HTH; refine gate_st 47 (.tmp 21) (.tmp 20) rfl ?_; clear hBA; refine wpList_store_mid rfl 47 (.tmp 21) (.tmp 20) rfl w.heap.size (k * 10) #[.int .i64 e.kd, .int .i64 e.a, .int .i64 e.b, .int .i64 e.c, .int .i64 e.cl, .int .i64 e.sq, .int .i64 e.op, .string e.k, .string e.v, .string e.o] (by simp [Act.eval, Act.put]) rfl HTH.out sizeSt (by simp [Value.oneCell']) ?_))
      go_roundw
      case rel => exact ⟨k + 1, by omega, by go_num, HST.out _ HC1.out⟩
      case measure => simp [intOf]; omega
    · obtain rfl : k = l.length := by omega
      have HSl := HC.out.sl hl
      have HBl := HC.out.below
      clear hmk
      go_wp2
      go_ret
      exact ⟨_, Nat.le_refl _, rfl, HSl, HBl⟩
set_option maxHeartbeats 8000000 in
set_option maxRecDepth 100000 in
theorem eqStepS_ln (v u : Value) (l : List Stp) (w : World) (hv : Sl stC 10 w v l) (hu : Sl stC 10 w u l) :
    Calls Tryd.prog 28 #[v, u] w fun r w' => r = .returned (.bool true) ∧ Below w.heap.size w w' := by
  obtain ⟨hl, a, cap, rfl, hc⟩ := hv
  obtain ⟨_, a', cap', rfl, hc'⟩ := hu
  unfold maxLen at hl
  go_enter Tryd.func28, Tryd.ntmps28
  go_wp2
  go_loopw [5] (fun i wr => ∃ k : Nat, k ≤ l.length ∧ i = .int .i64 k ∧ Below w.heap.size w wr) (fun i _ => l.length - (intOf i).toNat)
  case atStart => exact ⟨0, Nat.zero_le _, rfl, Below.refl _ _⟩
  case round =>
    obtain ⟨k, hk, rfl, hB⟩ := hrel
    by_cases hlt : k < l.length
    · obtain ⟨b, off, rfl, hj⟩ := hc k hlt
      obtain ⟨b', off', rfl, hj'⟩ := hc' k hlt
      have hbl := cell_lt (hj k hlt 0 _ rfl)
      have hbl' := cell_lt (hj' k hlt 0 _ rfl)
      have c0 : wr.cell? ⟨b, off + k * 10, none⟩ = some (.int .i64 l[k].kd) := range_below (hj k hlt) hB 0 _ rfl
      have d0 : wr.cell? ⟨b', off' + k * 10, none⟩ = some (.int .i64 l[k].kd) := range_below (hj' k hlt) hB 0 _ rfl
      have c1 : wr.cell? ⟨b, off + k * 10 + 1, none⟩ = some (.int .i64 l[k].a) := range_below (hj k hlt) hB 1 _ rfl
      have d1 : wr.cell? ⟨b', off' + k * 10 + 1, none⟩ = some (.int .i64 l[k].a) := range_below (hj' k hlt) hB 1 _ rfl
      have c2 : wr.cell? ⟨b, off + k * 10 + 2, none⟩ = some (.int .i64 l[k].b) := range_below (hj k hlt) hB 2 _ rfl
      have d2 : wr.cell? ⟨b', off' + k * 10 + 2, none⟩ = some (.int .i64 l[k].b) := range_below (hj' k hlt) hB 2 _ rfl
      have c3 : wr.cell? ⟨b, off + k * 10 + 3, none⟩ = some (.int .i64 l[k].c) := range_below (hj k hlt) hB 3 _ rfl
      have d3 : wr.cell? ⟨b', off' + k * 10 + 3, none⟩ = some (.int .i64 l[k].c) := range_below (hj' k hlt) hB 3 _ rfl
      have c4 : wr.cell? ⟨b, off + k * 10 + 4, none⟩ = some (.int .i64 l[k].cl) := range_below (hj k hlt) hB 4 _ rfl
      have d4 : wr.cell? ⟨b', off' + k * 10 + 4, none⟩ = some (.int .i64 l[k].cl) := range_below (hj' k hlt) hB 4 _ rfl
      have c5 : wr.cell? ⟨b, off + k * 10 + 5, none⟩ = some (.int .i64 l[k].sq) := range_below (hj k hlt) hB 5 _ rfl
      have d5 : wr.cell? ⟨b', off' + k * 10 + 5, none⟩ = some (.int .i64 l[k].sq) := range_below (hj' k hlt) hB 5 _ rfl
      have c6 : wr.cell? ⟨b, off + k * 10 + 6, none⟩ = some (.int .i64 l[k].op) := range_below (hj k hlt) hB 6 _ rfl
      have d6 : wr.cell? ⟨b', off' + k * 10 + 6, none⟩ = some (.int .i64 l[k].op) := range_below (hj' k hlt) hB 6 _ rfl
      have c7 : wr.cell? ⟨b, off + k * 10 + 7, none⟩ = some (.string l[k].k) := range_below (hj k hlt) hB 7 _ rfl
      have d7 : wr.cell? ⟨b', off' + k * 10 + 7, none⟩ = some (.string l[k].k) := range_below (hj' k hlt) hB 7 _ rfl
      have c8 : wr.cell? ⟨b, off + k * 10 + 8, none⟩ = some (.string l[k].v) := range_below (hj k hlt) hB 8 _ rfl
      have d8 : wr.cell? ⟨b', off' + k * 10 + 8, none⟩ = some (.string l[k].v) := range_below (hj' k hlt) hB 8 _ rfl
      have c9 : wr.cell? ⟨b, off + k * 10 + 9, none⟩ = some (.string l[k].o) := range_below (hj k hlt) hB 9 _ rfl
      have d9 : wr.cell? ⟨b', off' + k * 10 + 9, none⟩ = some (.string l[k].o) := range_below (hj' k hlt) hB 9 _ rfl
      have hz := hB.size
      have HE : ∀ w, Hid (Calls Tryd.prog 49 #[.agg #[.int .i64 l[k].kd, .int .i64 l[k].a, .int .i64 l[k].b, .int .i64 l[k].c, .int .i64 l[k].cl, .int .i64 l[k].sq, .int .i64 l[k].op, .string l[k].k, .string l[k].v, .string l[k].o], .agg #[.int .i64 l[k].kd, .int .i64 l[k].a, .int .i64 l[k].b, .int .i64 l[k].c, .int .i64 l[k].cl, .int .i64 l[k].sq, .int .i64 l[k].op, .string l[k].k, .string l[k].v, .string l[k].o]] w fun x w' => x = .returned (.bool true) ∧ Below w.heap.size w w') := fun w => eqStep_same _ _ _ _ _ _ _ _ _ _ w
      clear hc hj hc' hj'
      generalize l[k] = e at *
      go_wp2
      go_region_held3 (fun w' => w'.cell? ⟨b, off + k * 10, none⟩ = some (.int .i64 e.kd) ∧ w'.cell? ⟨b, off + k * 10 + 1, none⟩ = some (.int .i64 e.a) ∧ w'.cell? ⟨b, off + k * 10 + 2, none⟩ = some (.int .i64 e.b) ∧ w'.cell? ⟨b, off + k * 10 + 3, none⟩ = some (.int .i64 e.c) ∧ w'.cell? ⟨b, off + k * 10 + 4, none⟩ = some (.int .i64 e.cl) ∧ w'.cell? ⟨b, off + k * 10 + 5, none⟩ = some (.int .i64 e.sq) ∧ w'.cell? ⟨b, off + k * 10 + 6, none⟩ = some (.int .i64 e.op) ∧ w'.cell? ⟨b, off + k * 10 + 7, none⟩ = some (.string e.k) ∧ w'.cell? ⟨b, off + k * 10 + 8, none⟩ = some (.string e.v) ∧ w'.cell? ⟨b, off + k * 10 + 9, none⟩ = some (.string e.o) ∧ w'.cell? ⟨b', off' + k * 10, none⟩ = some (.int .i64 e.kd) ∧ w'.cell? ⟨b', off' + k * 10 + 1, none⟩ = some (.int .i64 e.a) ∧ w'.cell? ⟨b', off' + k * 10 + 2, none⟩ = some (.int .i64 e.b) ∧ w'.cell? ⟨b', off' + k * 10 + 3, none⟩ = some (.int .i64 e.c) ∧ w'.cell? ⟨b', off' + k * 10 + 4, none⟩ = some (.int .i64 e.cl) ∧ w'.cell? ⟨b', off' + k * 10 + 5, none⟩ = some (.int .i64 e.sq) ∧ w'.cell? ⟨b', off' + k * 10 + 6, none⟩ = some (.int .i64 e.op) ∧ w'.cell? ⟨b', off' + k * 10 + 7, none⟩ = some (.string e.k) ∧ w'.cell? ⟨b', off' + k * 10 + 8, none⟩ = some (.string e.v) ∧ w'.cell? ⟨b', off' + k * 10 + 9, none⟩ = some (.string e.o)) (simp [*, go_sem])
        (first
          | (go_at_call 49; refine Calls.mono (HE _).out ?_; rintro r w1 ⟨rfl, hb⟩; have q1 := fun (o : Nat) => hb.cell (p := ⟨b, o, none⟩) (show b < wr.heap.size by omega); have q2 := fun (o : Nat) => hb.cell (p := ⟨b', o, none⟩) (show b' < wr.heap.size by omega)))
      all_goals go_wp2
      go_roundw
      case rel => exact ⟨k + 1, by omega, by go_num, hB.trans (((Below.refl _ _).drew).trans (hb.mono hz))⟩
      case measure => simp [intOf]; omega
    · go_wp2
      go_ret
      exact ⟨rfl, hB⟩

set_option maxHeartbeats 1000000 in
theorem szIntS_sk (v : Value) (l : List Int) (w : World) (hv : Ix w v l) (left : Int) (h0 : 0 ≤ left) (h1 : left ≤ 1048576) :
    Calls Tryd.prog 9 #[v, .int .i64 left] w fun r w' => (∃ s : Int, r = .returned (.int .i64 s) ∧ s ≤ left ∧ (0 ≤ s → l.length ≤ 1048576)) ∧ w' = w := by
  obtain ⟨hl, a, cap, rfl, hc⟩ := hv
  unfold maxLen at hl
  clear hc
  by_cases h : (l.length : Int) ≤ left
  · go_enter Tryd.func9, Tryd.ntmps9
    go_wp2
    go_ret
    exact ⟨⟨_, rfl, by omega, by omega⟩, rfl⟩
  · go_enter Tryd.func9, Tryd.ntmps9
    go_wp2
    go_ret
    exact ⟨⟨_, rfl, by omega, by omega⟩, rfl⟩
/-- a copy under way -/
structure CopS (w wr : World) (l : List Int) (k : Nat) : Prop where
  below : Below w.heap.size w wr
  size : w.heap.size < wr.heap.size
  there : wr.there w.heap.size 0 l.length
  rows : ∀ j (h : j < l.length), j < k → wr.cell? ⟨w.heap.size, j, none⟩ = some (.int .i64 l[j])
theorem infoIntS : (Tryd.prog.info? 3).map (fun i => (i.zero, i.size, i.bytes)) = some (some (.int .i64 0), 1, 8) := by kernel_rfl
set_option maxHeartbeats 2000000 in
set_option maxRecDepth 100000 in
theorem toIntS_sk (v : Value) (l : List Int) (w : World) (hv : Ix w v l) (hl' : l.length ≤ 1048576) :
    Calls Tryd.prog 19 #[v] w fun x w' => ∃ q, w.heap.size ≤ q ∧ x = .returned (.slice (some ⟨q, 0, none⟩) l.length l.length) ∧ Ix w' (.slice (some ⟨q, 0, none⟩) l.length l.length) l ∧ Below w.heap.size w w' := by
  obtain ⟨hl, a, cap, rfl, hc⟩ := hv
  obtain ⟨i0, hi, hz0, hz1, hz2⟩ := info_parts infoIntS
  have hmk : ∀ u : World, (Instr.makeSlice 24 (.int .i64 (l.length : Int)) (.int .i64 (l.length : Int))).run Tryd.prog u =
      .ok (.slice (some ⟨u.heap.size, 0, none⟩) l.length l.length) (u.alloc (.cells (madeCells #[.int .i64 0] l.length) 3)) := fun u => by
    have h := run_make (P := Tryd.prog) u 24 3 i0 (.int .i64 0) Tryd.underlying24 hi hz0 .i64 .i64 (l.length : Int) (l.length : Int) (by omega) (Int.le_refl _) (by rw [hz2]; omega) (by omega)
    simpa [hz1, Value.cells] using h
  go_enter Tryd.func19, Tryd.ntmps19
  go_wp2
  go_loopw [4] (fun i wr => ∃ k : Nat, k ≤ l.length ∧ i = .int .i64 k ∧ CopS w wr l k) (fun i _ => l.length - (intOf i).toNat)
  case atStart => exact ⟨0, Nat.zero_le _, rfl, ⟨(Below.refl _ _).alloc (Nat.le_refl _) _, by simp, by have h := there_new' w (madeCells #[.int .i64 0] l.length) 3; rwa [size_madeCells] at h, fun j _ h => absurd h (by omega)⟩⟩
  case round =>
    obtain ⟨k, hk, rfl, hC⟩ := hrel
    have hz := hC.size
    by_cases hlt : k < l.length
    · obtain ⟨b, off, rfl, hcell⟩ := hc k hlt
      have hck : wr.cell? ⟨b, off + k, none⟩ = some (.int .i64 l[k]) := (hC.below.cell (p := ⟨b, off + k, none⟩) (cell_lt (hcell k hlt))).trans (hcell k hlt)
      obtain ⟨y, hy⟩ := there_get' hC.there k hlt
      have hyf := there_free' hC.there k hlt
      have HC : Hid (CopS w (wr.setCell ⟨w.heap.size, k, none⟩ (.int .i64 l[k])) l (k + 1)) := ⟨hC.below.setCell (Nat.le_refl _) _, by simpa [World.setCell] using hC.size, there_set' hC.there _ _ _, fun j hj hjk => by
        by_cases e : j = k
        · subst e
          exact World.cell?_setCell_same wr ⟨w.heap.size, j, none⟩ _ hy
        · rw [World.cell?_setCell_other wr ⟨w.heap.size, k, none⟩ ⟨w.heap.size, j, none⟩ _ (by intro h; injection h with h1 h2; omega)]
          exact hC.rows j hj (by omega)⟩
      clear hcell hC hc
      generalize l[k] = e at *
      go_wp2
      go_roundw
      case rel => exact ⟨k + 1, by omega, by go_num, HC.out⟩
      case measure => simp [intOf]; omega
    · have e : k = l.length := by omega
      subst e
      go_wp2
      go_ret
      exact ⟨w.heap.size, Nat.le_refl _, rfl, ⟨hl, _, _, rfl, fun i hi' => ⟨_, _, rfl, fun j hj => by rw [Nat.zero_add]; exact hC.rows j hj hj⟩⟩, hC.below⟩
set_option maxHeartbeats 2000000 in
set_option maxRecDepth 100000 in
theorem eqIntS_sk (v u : Value) (l : List Int) (w : World) (hv : Ix w v l) (hu : Ix w u l) :
    Calls Tryd.prog 27 #[v, u] w fun r w' => r = .returned (.bool true) ∧ Below w.heap.size w w' := by
  obtain ⟨hl, a, cap, rfl, hc⟩ := hv
  obtain ⟨_, a', cap', rfl, hc'⟩ := hu
  unfold maxLen at hl
  go_enter Tryd.func27, Tryd.ntmps27
  go_wp2
  go_loopw [5] (fun i wr => ∃ k : Nat, k ≤ l.length ∧ i = .int .i64 k ∧ ∃ n, wr = w.drewN n) (fun i _ => l.length - (intOf i).toNat)
  case atStart => exact ⟨0, Nat.zero_le _, rfl, 0, rfl⟩
  case round =>
    obtain ⟨k, hk, rfl, n, rfl⟩ := hrel
    by_cases hlt : k < l.length
    · obtain ⟨b, off, rfl, hcell⟩ := hc k hlt
      obtain ⟨b', off', rfl, hcell'⟩ := hc' k hlt
      have hck := hcell k hlt
      have hck' := hcell' k hlt
      clear hcell hcell' hc hc'
      go_wp2
      go_quiet (fail)
      go_wp2
      go_roundw
      case rel => exact ⟨k + 1, by omega, by go_num, _, rfl⟩
      case measure => simp [intOf]; omega
    · have e : k = l.length := by omega
      subst e
      go_wp2
      go_ret
      exact ⟨rfl, rfl, rfl, rfl, Nat.le_refl _, fun _ _ => rfl⟩

/-- a slice whose block stands -/
theorem ix_blk {w w' : World} {q n c : Nat} {l : List Int} (h : Ix w (.slice (some ⟨q, 0, none⟩) n c) l) (hb : w'.heap[q]? = w.heap[q]?) : Ix w' (.slice (some ⟨q, 0, none⟩) n c) l := by
  obtain ⟨hl, a, cap, e, hc⟩ := h
  refine ⟨hl, a, cap, e, fun i hi => ?_⟩
  obtain ⟨b, off, e2, hj⟩ := hc i hi
  refine ⟨b, off, e2, fun j hj' => ?_⟩
  injection e with e1 _ _
  rw [← e1] at e2
  cases e2
  rw [World.cell?_of_block (w := w) hb]
  exact hj j hj'
theorem sl_blk {α : Type} {cs : α → List Value} {m : Nat} {w w' : World} {q n c : Nat} {l : List α} (h : Sl cs m w (.slice (some ⟨q, 0, none⟩) n c) l) (hb : w'.heap[q]? = w.heap[q]?) : Sl cs m w' (.slice (some ⟨q, 0, none⟩) n c) l := by
  obtain ⟨hl, a, cap, e, hc⟩ := h
  refine ⟨hl, a, cap, e, fun i hi => ?_⟩
  obtain ⟨b, off, e2, hj⟩ := hc i hi
  refine ⟨b, off, e2, fun j hj' t y hy => ?_⟩
  injection e with e1 _ _
  rw [← e1] at e2
  cases e2
  rw [World.cell?_of_block (w := w) hb]
  exact hj j hj' t y hy

set_option maxHeartbeats 2000000 in
set_option maxRecDepth 100000 in
theorem toSetup_sk (us uc ue ub ur ud : Int) (w : World) :
    Calls Tryd.prog 18 #[.agg #[.int .i64 us, .int .i64 uc, .int .i64 ue, .int .i64 ub, .int .i64 ur, .int .i64 ud]] w fun e w' => e = .returned (.agg #[.int .i64 us, .int .i64 uc, .int .i64 ue, .int .i64 ub, .int .i64 ur, .int .i64 ud]) ∧ Below w.heap.size w w' := by
  go_enter Tryd.func18, Tryd.ntmps18
  go_wp2
  exact bodyPost_ret (v := .agg #[.int .i64 us, .int .i64 uc, .int .i64 ue, .int .i64 ub, .int .i64 ur, .int .i64 ud]) (by simp [results, Tryd.results18, go_sem]) rfl
    ⟨rfl, (((Below.refl _ _).alloc (Nat.le_refl _) _).alloc (by simp) _).alloc (by simp; omega) _⟩
set_option maxHeartbeats 2000000 in
set_option maxRecDepth 100000 in
theorem eqSetup_sk (us uc ue ub ur ud : Int) (w : World) :
    Calls Tryd.prog 26 #[.agg #[.int .i64 us, .int .i64 uc, .int .i64 ue, .int .i64 ub, .int .i64 ur, .int .i64 ud], .agg #[.int .i64 us, .int .i64 uc, .int .i64 ue, .int .i64 ub, .int .i64 ur, .int .i64 ud]] w fun e w' => e = .returned (.bool true) ∧ Below w.heap.size w w' := by
  go_enter Tryd.func26, Tryd.ntmps26
  go_wp2
  go_ret
  exact ⟨rfl, ((Below.refl _ _).alloc (Nat.le_refl _) _).alloc (by simp) _⟩
theorem sizeSc : (Tryd.prog.info? 33).map (·.size) = some 8 := by kernel_rfl
theorem sizeScL : (Tryd.prog.info? 27).map (·.size) = some 8 := by kernel_rfl
set_option maxHeartbeats 4000000 in
set_option maxRecDepth 100000 in
theorem szScript_sk (us uc ue ub ur ud : Int) (vd vs : Value) (ds : List Int) (ss : List Stp) (w : World) (hd : Ix w vd ds) (hs : SlAStep w vs ss) :
    Calls Tryd.prog 4 #[.agg #[.int .i64 us, .int .i64 uc, .int .i64 ue, .int .i64 ub, .int .i64 ur, .int .i64 ud, vd, vs], .int .i64 1048576] w fun r w' => (∃ s : Int, r = .returned (.int .i64 s) ∧ (0 ≤ s → ds.length ≤ 1048576 ∧ ss.length ≤ 1048576 ∧ ∀ x ∈ ss, x.small)) ∧ Below w.heap.size w w' := by
  have HI : Hid (∀ z, Ix z vd ds → Calls Tryd.prog 9 #[vd, .int .i64 1048576] z fun r w' => (∃ s : Int, r = .returned (.int .i64 s) ∧ s ≤ 1048576 ∧ (0 ≤ s → ds.length ≤ 1048576)) ∧ w' = z) := fun z h => szIntS_sk vd ds z h 1048576 (by omega) (by omega)
  have HZ : Hid (∀ z s, SlAStep z vs ss → 0 ≤ s → s ≤ 1048576 → Calls Tryd.prog 10 #[vs, .int .i64 s] z fun r w' => (∃ s' : Int, r = .returned (.int .i64 s') ∧ s' ≤ s ∧ (0 ≤ s' → ss.length ≤ 1048576 ∧ ∀ x ∈ ss, x.small)) ∧ Below z.heap.size z w') := fun z s h h0 h1 => szStepS_ln vs ss z h s h0 h1
  have HD : Hid (Ix w vd ds) := hd
  have HS : Hid (SlAStep w vs ss) := hs
  obtain ⟨_, da, dc, rfl, _⟩ := hd
  obtain ⟨⟨_, sa, sc, rfl, _⟩, _⟩ := hs
  go_enter Tryd.func4, Tryd.ntmps4
  go_wp2_with (first
    | (go_at_call 9; refine Calls.mono (HI.out _ (HD.out.below ((Below.refl _ _).alloc (Nat.le_refl _) _))) ?_; rintro r w1 ⟨⟨s, rfl, hs1, hs2⟩, rfl⟩; have HS2 : Hid (0 ≤ s → ds.length ≤ 1048576) := hs2; clear hs2)
    | (go_at_call 10; refine Calls.mono (HZ.out _ s (HS.out.below ((Below.refl _ _).alloc (Nat.le_refl _) _)) (by omega) (by omega)) ?_; rintro r w2 ⟨⟨s', rfl, hs3, hs4⟩, hb2⟩; have HS4 : Hid (0 ≤ s' → ss.length ≤ 1048576 ∧ ∀ x ∈ ss, x.small) := hs4; clear hs4))
  all_goals go_ret
  all_goals first | exact ⟨⟨_, rfl, fun h => absurd h (by omega)⟩, (Below.refl _ _).alloc (Nat.le_refl _) _⟩ | exact ⟨⟨_, rfl, fun h => absurd h (by omega)⟩, ((Below.refl _ _).alloc (Nat.le_refl _) _).trans (hb2.mono (by simp))⟩ | exact ⟨⟨_, rfl, fun h => ⟨HS2.out (by omega), HS4.out (by omega)⟩⟩, ((Below.refl _ _).alloc (Nat.le_refl _) _).trans (hb2.mono (by simp))⟩
set_option maxHeartbeats 8000000 in
set_option maxRecDepth 100000 in
theorem toScript_sk (us uc ue ub ur ud : Int) (vd vs : Value) (ds : List Int) (ss : List Stp) (w : World) (hd : Ix w vd ds) (hs : Sl stC 10 w vs ss) (hdl : ds.length ≤ 1048576) (hsl : ss.length ≤ 1048576) :
    Calls Tryd.prog 6 #[.agg #[.int .i64 us, .int .i64 uc, .int .i64 ue, .int .i64 ub, .int .i64 ur, .int .i64 ud, vd, vs]] w fun r w' => ∃ qd qs, r = .returned (.agg #[.int .i64 us, .int .i64 uc, .int .i64 ue, .int .i64 ub, .int .i64 ur, .int .i64 ud, .slice (some ⟨qd, 0, none⟩) ds.length ds.length, .slice (some ⟨qs, 0, none⟩) ss.length ss.length]) ∧ Ix w' (.slice (some ⟨qd, 0, none⟩) ds.length ds.length) ds ∧ Sl stC 10 w' (.slice (some ⟨qs, 0, none⟩) ss.length ss.length) ss ∧ Below w.heap.size w w' := by
  have HI : Hid (∀ z, Ix z vd ds → Calls Tryd.prog 19 #[vd] z fun x w' => ∃ q, z.heap.size ≤ q ∧ x = .returned (.slice (some ⟨q, 0, none⟩) ds.length ds.length) ∧ Ix w' (.slice (some ⟨q, 0, none⟩) ds.length ds.length) ds ∧ Below z.heap.size z w') := fun z h => toIntS_sk vd ds z h hdl
  have HZ : Hid (∀ z, Sl stC 10 z vs ss → Calls Tryd.prog 20 #[vs] z fun r w' => ∃ q, z.heap.size ≤ q ∧ r = .returned (.slice (some ⟨q, 0, none⟩) ss.length ss.length) ∧ Sl stC 10 w' (.slice (some ⟨q, 0, none⟩) ss.length ss.length) ss ∧ Below z.heap.size z w') := fun z h => toStepS_ln vs ss z h hsl
  have HD : Hid (Ix w vd ds) := hd
  have HS : Hid (Sl stC 10 w vs ss) := hs
  obtain ⟨_, da, dc, rfl, _⟩ := hd
  obtain ⟨_, sa, sc, rfl, _⟩ := hs
  have G4 : Hid True := trivial
  go_enter Tryd.func6, Tryd.ntmps6
  go_wp2_with (first
    | (go_at_call 18; refine (toSetup_sk _ _ _ _ _ _ _).mono ?_; rintro e w1 ⟨rfl, hb1⟩; have hz : w.heap.size + 2 < w1.heap.size := (by have := hb1.size; simp at this; omega); have BA := (((Blk.new w _ _).alloc _).alloc _).below hb1 (by simp <;> omega); have BR := ((Blk.new' (w.alloc _) _ _ (k := w.heap.size + 1) (by simp)).alloc _).below hb1 (by simp <;> omega); have BO := (Blk.new' ((w.alloc _).alloc _) _ _ (k := w.heap.size + 1 + 1) (by simp)).below hb1 (by simp <;> omega); have HB := (((((Below.refl w.heap.size w).alloc (Nat.le_refl _) _).alloc (by simp) _).alloc (by simp <;> omega) _).trans (hb1.mono (by simp <;> omega))); have cA := BA.cell; have cO := BO.cell; have fO := BO.free; clear hb1)
    | (go_at_call 19; have HB1 : Below w.heap.size w ((((((w1.setCell ⟨w.heap.size + 1 + 1, 0, none⟩ (.int .i64 us)).setCell ⟨w.heap.size + 1 + 1, 1, none⟩ (.int .i64 uc)).setCell ⟨w.heap.size + 1 + 1, 2, none⟩ (.int .i64 ue)).setCell ⟨w.heap.size + 1 + 1, 3, none⟩ (.int .i64 ub)).setCell ⟨w.heap.size + 1 + 1, 4, none⟩ (.int .i64 ur)).setCell ⟨w.heap.size + 1 + 1, 5, none⟩ (.int .i64 ud)) := ((((((HB.setCell (by simp only []; omega) _).setCell (by simp only []; omega) _).setCell (by simp only []; omega) _).setCell (by simp only []; omega) _).setCell (by simp only []; omega) _).setCell (by simp only []; omega) _); have BO1 : Blk ((((((w1.setCell ⟨w.heap.size + 1 + 1, 0, none⟩ (.int .i64 us)).setCell ⟨w.heap.size + 1 + 1, 1, none⟩ (.int .i64 uc)).setCell ⟨w.heap.size + 1 + 1, 2, none⟩ (.int .i64 ue)).setCell ⟨w.heap.size + 1 + 1, 3, none⟩ (.int .i64 ub)).setCell ⟨w.heap.size + 1 + 1, 4, none⟩ (.int .i64 ur)).setCell ⟨w.heap.size + 1 + 1, 5, none⟩ (.int .i64 ud)) (w.heap.size + 1 + 1) #[.int .i64 us, .int .i64 uc, .int .i64 ue, .int .i64 ub, .int .i64 ur, .int .i64 ud, .slice none 0 0, .slice none 0 0] 33 := (by have h := ((((((BO.set 0 (.int .i64 us)).set 1 (.int .i64 uc)).set 2 (.int .i64 ue)).set 3 (.int .i64 ub)).set 4 (.int .i64 ur)).set 5 (.int .i64 ud)); simp only [List.setIfInBounds_toArray, List.set_cons_succ, List.set_cons_zero] at h; exact h); have BA1 : Blk ((((((w1.setCell ⟨w.heap.size + 1 + 1, 0, none⟩ (.int .i64 us)).setCell ⟨w.heap.size + 1 + 1, 1, none⟩ (.int .i64 uc)).setCell ⟨w.heap.size + 1 + 1, 2, none⟩ (.int .i64 ue)).setCell ⟨w.heap.size + 1 + 1, 3, none⟩ (.int .i64 ub)).setCell ⟨w.heap.size + 1 + 1, 4, none⟩ (.int .i64 ur)).setCell ⟨w.heap.size + 1 + 1, 5, none⟩ (.int .i64 ud)) w.heap.size #[.int .i64 us, .int .i64 uc, .int .i64 ue, .int .i64 ub, .int .i64 ur, .int .i64 ud, .slice da ds.length dc, .slice sa ss.length sc] 27 := ((((((BA.set_other _ (show w.heap.size ≠ w.heap.size + 1 + 1 by omega)).set_other _ (show w.heap.size ≠ w.heap.size + 1 + 1 by omega)).set_other _ (show w.heap.size ≠ w.heap.size + 1 + 1 by omega)).set_other _ (show w.heap.size ≠ w.heap.size + 1 + 1 by omega)).set_other _ (show w.heap.size ≠ w.heap.size + 1 + 1 by omega)).set_other _ (show w.heap.size ≠ w.heap.size + 1 + 1 by omega)); have BR1 : Blk ((((((w1.setCell ⟨w.heap.size + 1 + 1, 0, none⟩ (.int .i64 us)).setCell ⟨w.heap.size + 1 + 1, 1, none⟩ (.int .i64 uc)).setCell ⟨w.heap.size + 1 + 1, 2, none⟩ (.int .i64 ue)).setCell ⟨w.heap.size + 1 + 1, 3, none⟩ (.int .i64 ub)).setCell ⟨w.heap.size + 1 + 1, 4, none⟩ (.int .i64 ur)).setCell ⟨w.heap.size + 1 + 1, 5, none⟩ (.int .i64 ud)) (w.heap.size + 1) #[.int .i64 0, .int .i64 0, .int .i64 0, .int .i64 0, .int .i64 0, .int .i64 0, .slice none 0 0, .slice none 0 0] 33 := ((((((BR.set_other _ (show w.heap.size + 1 ≠ w.heap.size + 1 + 1 by omega)).set_other _ (show w.heap.size + 1 ≠ w.heap.size + 1 + 1 by omega)).set_other _ (show w.heap.size + 1 ≠ w.heap.size + 1 + 1 by omega)).set_other _ (show w.heap.size + 1 ≠ w.heap.size + 1 + 1 by omega)).set_other _ (show w.heap.size + 1 ≠ w.heap.size + 1 + 1 by omega)).set_other _ (show w.heap.size + 1 ≠ w.heap.size + 1 + 1 by omega)); refine Calls.mono (HI.out _ (HD.out.below HB1)) ?_; rintro e w2 ⟨qd, hq, rfl, hI2, hb2⟩; have hq' : w1.heap.size ≤ qd := (by simpa [World.setCell] using hq); have hz2 : w1.heap.size ≤ w2.heap.size := (by have := hb2.size; simpa [World.setCell] using this); have HB2 : Hid (Below w.heap.size w w2) := HB1.trans (hb2.mono (by simp [World.setCell]; omega)); have BA2 := BA1.below hb2 BA1.lt; have BR2 := BR1.below hb2 BR1.lt; have BO2 := BO1.below hb2 BO1.lt; have cA2 := BA2.cell; have cO2 := BO2.cell; have fO2 := BO2.free; have HI2 : Hid (Ix w2 (.slice (some ⟨qd, 0, none⟩) ds.length ds.length) ds) := hI2; clear hb2 hI2 BA BR BO cA cO fO HB BA1 BR1 BO1 HB1)
    | (go_at_call 20; have HB3 : Below w.heap.size w (w2.setCell ⟨w.heap.size + 1 + 1, 6, none⟩ (.slice (some ⟨qd, 0, none⟩) ds.length ds.length)) := HB2.out.setCell (by simp only []; omega) _; have BO3 : Blk (w2.setCell ⟨w.heap.size + 1 + 1, 6, none⟩ (.slice (some ⟨qd, 0, none⟩) ds.length ds.length)) (w.heap.size + 1 + 1) #[.int .i64 us, .int .i64 uc, .int .i64 ue, .int .i64 ub, .int .i64 ur, .int .i64 ud, .slice (some ⟨qd, 0, none⟩) ds.length ds.length, .slice none 0 0] 33 := (by have h := BO2.set 6 (.slice (some ⟨qd, 0, none⟩) ds.length ds.length); simp only [List.setIfInBounds_toArray, List.set_cons_succ, List.set_cons_zero] at h; exact h); have BR3 := BR2.set_other (p := ⟨w.heap.size + 1 + 1, 6, none⟩) (.slice (some ⟨qd, 0, none⟩) ds.length ds.length) (by simp); have HI3 : Hid (Ix (w2.setCell ⟨w.heap.size + 1 + 1, 6, none⟩ (.slice (some ⟨qd, 0, none⟩) ds.length ds.length)) (.slice (some ⟨qd, 0, none⟩) ds.length ds.length) ds) := ix_blk HI2.out (Below.heap_setCell _ _ _ _ (show qd ≠ w.heap.size + 1 + 1 by omega)); refine Calls.mono (HZ.out _ (HS.out.below HB3)) ?_; rintro e w3 ⟨qs, hq3, rfl, hS3, hb3⟩; have hq3' : w2.heap.size ≤ qs := (by simpa [World.setCell] using hq3); have hz3 : w2.heap.size ≤ w3.heap.size := (by have := hb3.size; simpa [World.setCell] using this); have HB4 : Hid (Below w.heap.size w w3) := HB3.trans (hb3.mono (by simp [World.setCell]; omega)); have BR4 := BR3.below hb3 BR3.lt; have BO4 := BO3.below hb3 BO3.lt; have HI4 : Hid (Ix w3 (.slice (some ⟨qd, 0, none⟩) ds.length ds.length) ds) := HI3.out.below hb3; have HS4 : Hid (Sl stC 10 w3 (.slice (some ⟨qs, 0, none⟩) ss.length ss.length) ss) := hS3; have cO4 := BO4.cell; have fO4 := BO4.free; clear hb3 hS3 BA2 BR2 BO2 cA2 cO2 fO2 HB2 BR3 BO3 HB3 HI3 HI2)
    | (have hBA := HS4; refine gate_ld 33 (.tmp 3) rfl ?_; clear hBA; have BO5 : Blk (w3.setCell ⟨w.heap.size + 1 + 1, 7, none⟩ (.slice (some ⟨qs, 0, none⟩) ss.length ss.length)) (w.heap.size + 1 + 1) #[.int .i64 us, .int .i64 uc, .int .i64 ue, .int .i64 ub, .int .i64 ur, .int .i64 ud, .slice (some ⟨qd, 0, none⟩) ds.length ds.length, .slice (some ⟨qs, 0, none⟩) ss.length ss.length] 33 := (by have h := BO4.set 7 (.slice (some ⟨qs, 0, none⟩) ss.length ss.length); simp only [List.setIfInBounds_toArray, List.set_cons_succ, List.set_cons_zero] at h; exact h); have BR5 : Blk (w3.setCell ⟨w.heap.size + 1 + 1, 7, none⟩ (.slice (some ⟨qs, 0, none⟩) ss.length ss.length)) (w.heap.size + 1) #[.int .i64 0, .int .i64 0, .int .i64 0, .int .i64 0, .int .i64 0, .int .i64 0, .slice none 0 0, .slice none 0 0] 33 := BR4.set_other (p := ⟨w.heap.size + 1 + 1, 7, none⟩) (.slice (some ⟨qs, 0, none⟩) ss.length ss.length) (by simp); have HB5 : Below w.heap.size w (w3.setCell ⟨w.heap.size + 1 + 1, 7, none⟩ (.slice (some ⟨qs, 0, none⟩) ss.length ss.length)) := HB4.out.setCell (by simp only []; omega) _; have HI5 : Hid (Ix (w3.setCell ⟨w.heap.size + 1 + 1, 7, none⟩ (.slice (some ⟨qs, 0, none⟩) ss.length ss.length)) (.slice (some ⟨qd, 0, none⟩) ds.length ds.length) ds) := ix_blk HI4.out (Below.heap_setCell _ _ _ _ (show qd ≠ w.heap.size + 1 + 1 by omega)); have HS5 : Hid (Sl stC 10 (w3.setCell ⟨w.heap.size + 1 + 1, 7, none⟩ (.slice (some ⟨qs, 0, none⟩) ss.length ss.length)) (.slice (some ⟨qs, 0, none⟩) ss.length ss.length) ss) := sl_blk HS4.out (Below.heap_setCell _ _ _ _ (show qs ≠ w.heap.size + 1 + 1 by omega)); refine wpl_load_blk rfl 33 (.tmp 3) rfl (w.heap.size + 1 + 1) rfl BO5 Tryd.underlying33 rfl sizeSc rfl ?_; clear HS4)
    | (have hBA := HS5; refine gate_st 33 (.tmp 2) _ rfl ?_; clear hBA; refine wpl_store_blk rfl 33 (.tmp 2) _ rfl (w.heap.size + 1) rfl rfl BR5 sizeSc rfl rfl (by simp [Value.oneCell']) ?_))
  exact bodyPost_ret (v := .agg #[.int .i64 us, .int .i64 uc, .int .i64 ue, .int .i64 ub, .int .i64 ur, .int .i64 ud, .slice (some ⟨qd, 0, none⟩) ds.length ds.length, .slice (some ⟨qs, 0, none⟩) ss.length ss.length]) (results_blk Tryd.results6 rfl (BR5.row _) Tryd.underlying33 rfl sizeSc rfl) rfl ⟨qd, qs, rfl, ix_blk HI5.out (setRow_other _ _ _ _ (by omega)), sl_blk HS5.out (setRow_other _ _ _ _ (by omega)), below_row HB5 (by omega) _⟩
set_option maxHeartbeats 4000000 in
set_option maxRecDepth 100000 in
theorem eqScript_sk (us uc ue ub ur ud : Int) (vd vs vd' vs' : Value) (ds : List Int) (ss : List Stp) (w : World) (hd : Ix w vd ds) (hs : Sl stC 10 w vs ss) (hd' : Ix w vd' ds) (hs' : Sl stC 10 w vs' ss) :
    Calls Tryd.prog 8 #[.agg #[.int .i64 us, .int .i64 uc, .int .i64 ue, .int .i64 ub, .int .i64 ur, .int .i64 ud, vd, vs], .agg #[.int .i64 us, .int .i64 uc, .int .i64 ue, .int .i64 ub, .int .i64 ur, .int .i64 ud, vd', vs']] w fun e w' => e = .returned (.bool true) ∧ Below w.heap.size w w' := by
  have HD : Hid (Ix w vd ds) := hd
  have HS : Hid (Sl stC 10 w vs ss) := hs
  have HD' : Hid (Ix w vd' ds) := hd'
  have HS' : Hid (Sl stC 10 w vs' ss) := hs'
  have HI : Hid (∀ z, Ix z vd ds → Ix z vd' ds → Calls Tryd.prog 27 #[vd, vd'] z fun r w' => r = .returned (.bool true) ∧ Below z.heap.size z w') := fun z h1 h2 => eqIntS_sk vd vd' ds z h1 h2
  have HZ : Hid (∀ z, Sl stC 10 z vs ss → Sl stC 10 z vs' ss → Calls Tryd.prog 28 #[vs, vs'] z fun r w' => r = .returned (.bool true) ∧ Below z.heap.size z w') := fun z h1 h2 => eqStepS_ln vs vs' ss z h1 h2
  obtain ⟨_, da, dc, rfl, _⟩ := hd
  obtain ⟨_, sa, sc, rfl, _⟩ := hs
  obtain ⟨_, da', dc', rfl, _⟩ := hd'
  obtain ⟨_, sa', sc', rfl, _⟩ := hs'
  go_enter Tryd.func8, Tryd.ntmps8
  go_wp2_with (first
    | (go_at_call 26; refine (eqSetup_sk _ _ _ _ _ _ _).mono ?_; rintro e w1 ⟨rfl, hb1⟩; have B1 := ((Blk.new w _ _).alloc _).below hb1 (by simp <;> omega); have B2 := (Blk.new' (w.alloc _) _ _ (k := w.heap.size + 1) (by simp)).below hb1 (by simp <;> omega); have c1 := B1.cell; have c2 := B2.cell; have HB : Hid (Below w.heap.size w w1) := ((((Below.refl w.heap.size w).alloc (Nat.le_refl _) _).alloc (by simp) _).trans (hb1.mono (by simp <;> omega))); clear hb1)
    | (go_at_call 27; refine Calls.mono (HI.out _ (HD.out.below HB.out) (HD'.out.below HB.out)) ?_; rintro e w2 ⟨rfl, hb2⟩; have B3 := B1.below hb2 B1.lt; have B4 := B2.below hb2 B2.lt; have c3 := B3.cell; have c4 := B4.cell; have HB2 : Hid (Below w.heap.size w w2) := HB.out.trans (hb2.mono HB.out.size); clear hb2)
    | (go_at_call 28; refine Calls.mono (HZ.out _ (HS.out.below HB2.out) (HS'.out.below HB2.out)) ?_; rintro e w3 ⟨rfl, hb3⟩))
  go_ret
  exact ⟨rfl, HB2.out.trans (hb3.mono HB2.out.size)⟩
end Go.Proofs.YtabnanmfojppjaaDoor
