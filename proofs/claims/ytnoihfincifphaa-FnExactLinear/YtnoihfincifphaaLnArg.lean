/-
  The law's own functions on events and commands.
-/
import Derived.Test.YtnoihfincifphaaLnBase
import Derived.Test.YtnoihfincifphaaCmdArg
import Derived.Test.YtnoihfincifphaaEqCmd
import Derived.Deep.RegionHeld3
import Derived.Laws.MakeOwn
namespace Go.Proofs.Ytnoihfincifphaa
open Go.RowKit Go.Maps
set_option linter.unusedVariables false
set_option linter.unusedSimpArgs false

/-- arguments: their numbers are Go's, their texts not too long tq be -/
structure Cm.fitA (c : Cm) : Prop where
  cl : (Lit.int .i64 c.cl).wf = true
  sq : (Lit.int .i64 c.sq).wf = true
  op : (Lit.int .i64 c.op).wf = true
  k : c.k.size ≤ maxLen
  v : c.v.size ≤ maxLen
  o : c.o.size ≤ maxLen
structure Evn.fitA (e : Evn) : Prop where
  c : e.c.fitA
  v : e.v.size ≤ maxLen
def Cm.small (c : Cm) : Prop := c.k.size ≤ 1048576 ∧ c.v.size ≤ 1048576 ∧ c.o.size ≤ 1048576
def Evn.small (e : Evn) : Prop := e.c.small ∧ e.v.size ≤ 1048576
theorem Cm.fitA.fits {c : Cm} (h : c.fitA) (hs : c.small) : c.fits := ⟨h.cl, h.sq, h.op, hs.1, hs.2.1, hs.2.2⟩
theorem Evn.fitA.fits {e : Evn} (h : e.fitA) (hs : e.small) : e.fits := ⟨h.c.fits hs.1, hs.2⟩
theorem szC_ln (k v o left : Int) (hk : 0 ≤ k) (hv : 0 ≤ v) (ho : 0 ≤ o) (hl : 0 ≤ left) : szC k v o left ≤ left ∧ (0 ≤ szC k v o left → k ≤ left ∧ v ≤ left ∧ o ≤ left) := by
  unfold szC
  repeat' split
  all_goals omega

set_option maxHeartbeats 2000000 in
set_option maxRecDepth 100000 in
theorem szCmd_ln (c : Cm) (h : c.fitA) (left : Int) (h0 : 0 ≤ left) (h1 : left ≤ 1048576) (w : World) :
    Calls Try.prog 25 #[.agg #[.int .i64 c.cl, .int .i64 c.sq, .int .i64 c.op, .string c.k, .string c.v, .string c.o], .int .i64 left] w fun e w' => (∃ s : Int, e = .returned (.int .i64 s) ∧ s ≤ left ∧ (0 ≤ s → c.small)) ∧ Below w.heap.size w w' :=
  (szCmd_any c.cl c.sq c.op c.k c.v c.o left h0 h1 h.k h.v h.o w).mono fun e w' ⟨h1', h2⟩ => by
    have := szC_ln c.k.size c.v.size c.o.size left (by omega) (by omega) (by omega) h0
    exact ⟨⟨_, h1', this.1, fun hs => by have := this.2 hs; exact ⟨by omega, by omega, by omega⟩⟩, h2⟩

set_option maxHeartbeats 2000000 in
set_option maxRecDepth 100000 in
theorem szEvent_ln (e : Evn) (h : e.fitA) (left : Int) (h0 : 0 ≤ left) (h1 : left ≤ 1048576) (w : World) :
    Calls Try.prog 33 #[.agg #[.int .i64 e.kd, .int .i64 e.c.cl, .int .i64 e.c.sq, .int .i64 e.c.op, .string e.c.k, .string e.c.v, .string e.c.o, .int .i64 e.cd, .string e.v], .int .i64 left] w fun r w' => (∃ s : Int, r = .returned (.int .i64 s) ∧ s ≤ left ∧ (0 ≤ s → e.small)) ∧ Below w.heap.size w w' := by
  have HC : Hid (∀ u, Calls Try.prog 25 #[.agg #[.int .i64 e.c.cl, .int .i64 e.c.sq, .int .i64 e.c.op, .string e.c.k, .string e.c.v, .string e.c.o], .int .i64 left] u fun r w' => (∃ s : Int, r = .returned (.int .i64 s) ∧ s ≤ left ∧ (0 ≤ s → e.c.small)) ∧ Below u.heap.size u w') := fun u => szCmd_ln e.c h.c left h0 h1 u
  have hv := h.v
  unfold maxLen at hv
  obtain ⟨kd, c, cd, v⟩ := e
  dsimp only at hv HC ⊢
  clear h
  go_enter Try.func33, Try.ntmps33
  go_wp2_with (go_at_call 25; refine (HC.out _).mono ?_; rintro r w1 ⟨⟨s, rfl, hs1, hs2⟩, hb⟩; have BE : Hid (Blk w1 w.heap.size #[.int .i64 kd, .int .i64 c.cl, .int .i64 c.sq, .int .i64 c.op, .string c.k, .string c.v, .string c.o, .int .i64 cd, .string v] 70) := (Blk.new w _ _).below hb (by simp); have HB1 : Hid (Below w.heap.size w w1) := ((Below.refl _ _).alloc (Nat.le_refl _) _).trans (hb.mono (by simp)); have b8 : w1.cell? ⟨w.heap.size, 8, none⟩ = some (.string v) := BE.out.cell 8; have HS2 : Hid (0 ≤ s → c.small) := hs2; clear hb hs2)
  all_goals go_ret
  all_goals refine ⟨⟨_, rfl, by omega, fun hq => ?_⟩, HB1.out⟩
  all_goals first | (exfalso; omega) | exact ⟨HS2.out (by omega), by show v.size ≤ 1048576; omega⟩

theorem sizeEv : (Try.prog.info? 76).map (·.size) = some 9 := by kernel_rfl
theorem sizeEvL : (Try.prog.info? 70).map (·.size) = some 9 := by kernel_rfl
theorem sizeCmI : (Try.prog.info? 63).map (·.size) = some 6 := by kernel_rfl
theorem sizeCmL : (Try.prog.info? 56).map (·.size) = some 6 := by kernel_rfl
set_option maxHeartbeats 4000000 in
set_option maxRecDepth 100000 in
theorem toEvent_any (kd cl sq op : Int) (ck cv co : ByteArray) (cd : Int) (v : ByteArray) (w : World) :
    Calls Try.prog 39 #[.agg #[.int .i64 kd, .int .i64 cl, .int .i64 sq, .int .i64 op, .string ck, .string cv, .string co, .int .i64 cd, .string v]] w fun e w' => e = .returned (.agg #[.int .i64 kd, .int .i64 cl, .int .i64 sq, .int .i64 op, .string ck, .string cv, .string co, .int .i64 cd, .string v]) ∧ Below w.heap.size w w' := by
  go_enter Try.func39, Try.ntmps39
  go_wp2_with (first
    | (go_at_call 28; refine (toCmd_any _ _ _ _ _ _ _).mono ?_; rintro e w1 ⟨rfl, hb1⟩; have hz : w.heap.size + 2 < w1.heap.size := (by have := hb1.size; simp at this; omega); have BA := (((Blk.new w _ _).alloc _).alloc _).below hb1 (by simp <;> omega); have BR := ((Blk.new' (w.alloc _) _ _ (k := w.heap.size + 1) (by simp)).alloc _).below hb1 (by simp <;> omega); have BO := (Blk.new' ((w.alloc _).alloc _) _ _ (k := w.heap.size + 1 + 1) (by simp)).below hb1 (by simp <;> omega); have HB := (((((Below.refl w.heap.size w).alloc (Nat.le_refl _) _).alloc (by simp) _).alloc (by simp <;> omega) _).trans (hb1.mono (by simp <;> omega))); have cA := BA.cell; have cO := BO.cell; have fO := BO.free; clear hb1)
    | (refine gate_ld 76 (.tmp 3) rfl ?_; have BO2 : Blk ((((((((w1.setCell ⟨w.heap.size + 1 + 1, 1, none⟩ (.int .i64 cl)).setCell ⟨w.heap.size + 1 + 1, 2, none⟩ (.int .i64 sq)).setCell ⟨w.heap.size + 1 + 1, 3, none⟩ (.int .i64 op)).setCell ⟨w.heap.size + 1 + 1, 4, none⟩ (.string ck)).setCell ⟨w.heap.size + 1 + 1, 5, none⟩ (.string cv)).setCell ⟨w.heap.size + 1 + 1, 6, none⟩ (.string co)).setCell ⟨w.heap.size + 1 + 1, 7, none⟩ (.int .i64 cd)).setCell ⟨w.heap.size + 1 + 1, 8, none⟩ (.string v)) (w.heap.size + 1 + 1) #[.int .i64 kd, .int .i64 cl, .int .i64 sq, .int .i64 op, .string ck, .string cv, .string co, .int .i64 cd, .string v] 76 := (by have h := (((((((BO.set 1 (.int .i64 cl)).set 2 (.int .i64 sq)).set 3 (.int .i64 op)).set 4 (.string ck)).set 5 (.string cv)).set 6 (.string co)).set 7 (.int .i64 cd)).set 8 (.string v); simp only [List.setIfInBounds_toArray, List.set_cons_succ, List.set_cons_zero] at h; exact h); have BR2 : Blk ((((((((w1.setCell ⟨w.heap.size + 1 + 1, 1, none⟩ (.int .i64 cl)).setCell ⟨w.heap.size + 1 + 1, 2, none⟩ (.int .i64 sq)).setCell ⟨w.heap.size + 1 + 1, 3, none⟩ (.int .i64 op)).setCell ⟨w.heap.size + 1 + 1, 4, none⟩ (.string ck)).setCell ⟨w.heap.size + 1 + 1, 5, none⟩ (.string cv)).setCell ⟨w.heap.size + 1 + 1, 6, none⟩ (.string co)).setCell ⟨w.heap.size + 1 + 1, 7, none⟩ (.int .i64 cd)).setCell ⟨w.heap.size + 1 + 1, 8, none⟩ (.string v)) (w.heap.size + 1) #[.int .i64 0, .int .i64 0, .int .i64 0, .int .i64 0, .string ⟨#[]⟩, .string ⟨#[]⟩, .string ⟨#[]⟩, .int .i64 0, .string ⟨#[]⟩] 76 := ((((((((BR.set_other _ (by simp)).set_other _ (by simp)).set_other _ (by simp)).set_other _ (by simp)).set_other _ (by simp)).set_other _ (by simp)).set_other _ (by simp)).set_other _ (by simp)); have HB2 : Below w.heap.size w ((((((((w1.setCell ⟨w.heap.size + 1 + 1, 1, none⟩ (.int .i64 cl)).setCell ⟨w.heap.size + 1 + 1, 2, none⟩ (.int .i64 sq)).setCell ⟨w.heap.size + 1 + 1, 3, none⟩ (.int .i64 op)).setCell ⟨w.heap.size + 1 + 1, 4, none⟩ (.string ck)).setCell ⟨w.heap.size + 1 + 1, 5, none⟩ (.string cv)).setCell ⟨w.heap.size + 1 + 1, 6, none⟩ (.string co)).setCell ⟨w.heap.size + 1 + 1, 7, none⟩ (.int .i64 cd)).setCell ⟨w.heap.size + 1 + 1, 8, none⟩ (.string v)) := ((((((((HB.setCell (by simp only []; omega) _).setCell (by simp only []; omega) _).setCell (by simp only []; omega) _).setCell (by simp only []; omega) _).setCell (by simp only []; omega) _).setCell (by simp only []; omega) _).setCell (by simp only []; omega) _).setCell (by simp only []; omega) _); refine wpl_load_blk rfl 76 (.tmp 3) rfl (w.heap.size + 1 + 1) rfl BO2 Try.underlying76 rfl sizeEv rfl ?_)
    | (refine gate_st 76 (.tmp 2) _ rfl ?_; refine wpl_store_blk rfl 76 (.tmp 2) _ rfl (w.heap.size + 1) rfl rfl BR2 sizeEv rfl rfl (by simp [Value.oneCell']) ?_))
  exact bodyPost_ret (v := .agg #[.int .i64 kd, .int .i64 cl, .int .i64 sq, .int .i64 op, .string ck, .string cv, .string co, .int .i64 cd, .string v]) (results_blk Try.results39 rfl (BR2.row _) Try.underlying76 rfl sizeEv rfl) rfl ⟨rfl, below_row HB2 (by omega) _⟩
set_option maxHeartbeats 4000000 in
set_option maxRecDepth 100000 in
theorem eqEvent_same (kd cl sq op : Int) (ck cv co : ByteArray) (cd : Int) (v : ByteArray) (w : World) :
    Calls Try.prog 45 #[.agg #[.int .i64 kd, .int .i64 cl, .int .i64 sq, .int .i64 op, .string ck, .string cv, .string co, .int .i64 cd, .string v], .agg #[.int .i64 kd, .int .i64 cl, .int .i64 sq, .int .i64 op, .string ck, .string cv, .string co, .int .i64 cd, .string v]] w fun e w' => e = .returned (.bool true) ∧ Below w.heap.size w w' := by
  go_enter Try.func45, Try.ntmps45
  go_wp2_with (go_at_call 46; refine (eqCmd_same _ _ _ _ _ _ _).mono ?_; rintro e w1 ⟨rfl, hb1⟩; have hz : w.heap.size + 1 < w1.heap.size := (by have := hb1.size; simp at this; omega); have B1 := ((Blk.new w _ _).alloc _).below hb1 (by simp <;> omega); have B2 := (Blk.new' (w.alloc _) _ _ (k := w.heap.size + 1) (by simp)).below hb1 (by simp <;> omega); have c1 := B1.cell; have c2 := B2.cell; have HB : Below w.heap.size w w1 := ((((Below.refl w.heap.size w).alloc (Nat.le_refl _) _).alloc (by simp) _).trans (hb1.mono (by simp <;> omega))); clear hb1)
  go_ret
  exact ⟨rfl, HB⟩
theorem eqLinearAnswer_same (x y : Int) (w : World) : Calls Try.prog 12 #[.agg #[.int .i64 x, .int .i64 y], .agg #[.int .i64 x, .int .i64 y]] w fun e w' => e = .returned (.bool true) ∧ Below w.heap.size w w' := by
  go_enter Try.func12, Try.ntmps12
  go_wp2
  go_ret
  exact ⟨rfl, ((Below.refl _ _).alloc (Nat.le_refl _) _).alloc (by simp) _⟩
end Go.Proofs.Ytnoihfincifphaa
