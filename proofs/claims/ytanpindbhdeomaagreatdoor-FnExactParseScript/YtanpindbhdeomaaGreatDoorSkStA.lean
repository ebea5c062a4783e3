/-
  spec.l7stepOk.
-/
import Derived.Test.YtanpindbhdeomaaGreatDoorSkSW
import Derived.Deep.QuietTactic
import Derived.BigQuiet
import Derived.Test.YtanpindbhdeomaaGreatDoorBlk
namespace Go.Proofs.YtanpindbhdeomaaGreatDoor
open Go.RowKit
set_option linter.unusedVariables false
set_option linter.unusedSimpArgs false

theorem siz_nil (k : ByteArray) : k.size = 0 ↔ k.toList = [] := by
  rw [ByteArray.toList_eq, size_list]
  exact List.length_eq_zero_iff
theorem sizeCmS : (Tryz.prog.info? 46).map (·.size) = some 6 := by kernel_rfl
theorem below_drS {B : Nat} {a w : World} (h : Below B a w) (n : Nat) : Below B a (w.drewN n) := ⟨h.os, h.tape, h.output, h.size, h.block⟩
theorem callF_zero (op k v o : Int) : callF 1 1 op k v o = 0 ↔ cmdF 1 1 op k v o = 0 ∧ ¬ op = 0 := by
  unfold callF
  by_cases h : op = 0
  · simp only [h, and_true, not_true_eq_false, and_false, iff_false]
    split
    · simp
    · assumption
  · simp [h]
theorem callF_b (op k v o : Int) : decide (callF 1 1 op k v o = 0) = ((cmdF 1 1 op k v o == 0) && !(op == 0)) := by
  have h := callF_zero op k v o
  by_cases h1 : callF 1 1 op k v o = 0
  · have h2 := h.1 h1
    simp [h1, h2.1, h2.2]
  · by_cases h3 : cmdF 1 1 op k v o = 0
    · have h4 : op = 0 := Classical.byContradiction fun e => h1 (h.2 ⟨h3, e⟩)
      rw [decide_eq_false h1, h4]; simp
    · simp [h1, h3]
theorem stOk_of (sv cc : Int) (x : Stp) (r0 r1 r2 : Bool) (h0 : inB x.a (rLo0 x.kd) (rHi0 sv cc x.kd) = r0) (h1 : inB x.b (nLo (nk1 x.kd)) (nHi sv cc (nk1 x.kd)) = r1)
    (h2 : inB x.c (nLo (nk2 x.kd)) (nHi sv cc (nk2 x.kd)) = r2) : stOk sv cc x = (r0 && r1 && r2 && cmOk x) := by
  unfold stOk nIn
  rw [h1, h2]
  cases hk : inB x.kd 1 14
  · have e : r0 = false := by
      rw [← h0]
      unfold rLo0 rHi0
      rw [hk]
      unfold inB
      simp
      omega
    simp [e]
  · unfold rLo0 rHi0 at h0
    rw [hk] at h0
    simp at h0
    rw [h0]
    simp

set_option maxHeartbeats 8000000 in
set_option maxRecDepth 100000 in
theorem l7stepOk_any (sv cc el b r d : Int) (x : Stp) (hx : x.fits) (w : World) :
    Calls Tryz.prog 36 #[.agg #[.int .i64 sv, .int .i64 cc, .int .i64 el, .int .i64 b, .int .i64 r, .int .i64 d], .agg #[.int .i64 x.kd, .int .i64 x.a, .int .i64 x.b, .int .i64 x.c, .int .i64 x.cl, .int .i64 x.sq, .int .i64 x.op, .string x.k, .string x.v, .string x.o]] w fun e w' =>
      e = .returned (.bool (stOk sv cc x)) ∧ Below w.heap.size w w' := by
  obtain ⟨r0, hr0⟩ : ∃ r, inB x.a (rLo0 x.kd) (rHi0 sv cc x.kd) = r := ⟨_, rfl⟩
  obtain ⟨r1, hr1⟩ : ∃ r, inB x.b (nLo (nk1 x.kd)) (nHi sv cc (nk1 x.kd)) = r := ⟨_, rfl⟩
  obtain ⟨r2, hr2⟩ : ∃ r, inB x.c (nLo (nk2 x.kd)) (nHi sv cc (nk2 x.kd)) = r := ⟨_, rfl⟩
  rw [stOk_of sv cc x r0 r1 r2 hr0 hr1 hr2]
  have HRg : Hid (∀ u, Calls Tryz.prog 55 #[.agg #[.int .i64 sv, .int .i64 cc, .int .i64 el, .int .i64 b, .int .i64 r, .int .i64 d], .int .i64 x.kd] u (RangesOk sv cc x.kd u)) := fun u => l7ranges_any sv cc el b r d x.kd u
  obtain ⟨hk, hv, ho⟩ := hx
  have HC : Hid (cmOk x = if x.kd = 11 then decide (x.cl = 0) && decide (x.sq = 0) && decide (callF 1 1 x.op x.k.size x.v.size x.o.size = 0)
    else decide (x.cl = 0) && decide (x.sq = 0) && decide (x.op = 0) && decide (x.k.size = 0) && decide (x.v.size = 0) && decide (x.o.size = 0)) := rfl
  generalize cmOk x = cm at HC
  obtain ⟨kd, xa, xb, xc, cl, sq, op, k, v, o⟩ := x
  dsimp only at hr0 hr1 hr2 HRg hk hv ho HC ⊢
  unfold RangesOk at HRg
  generalize rLo0 kd = l0 at HRg hr0
  generalize nLo (nk1 kd) = l1 at HRg hr1
  generalize nLo (nk2 kd) = l2 at HRg hr2
  generalize rHi0 sv cc kd = g0 at HRg hr0
  generalize nHi sv cc (nk1 kd) = g1 at HRg hr1
  generalize nHi sv cc (nk2 kd) = g2 at HRg hr2
  go_enter Tryz.func36, Tryz.ntmps36
  go_wp2_with (go_at_call 55; refine (HRg.out _).mono ?_; rintro e w1 ⟨q0, q1, rfl, hT0, hT1, hb⟩)
  have c : ∀ i (x : Value), (#[.int .i64 kd, .int .i64 xa, .int .i64 xb, .int .i64 xc, .int .i64 cl, .int .i64 sq, .int .i64 op, .string k, .string v, .string o] : Array Value)[i]? = some x → w1.cell? ⟨w.heap.size + 1, i, none⟩ = some x := fun i x h =>
    (hb.cell (p := ⟨w.heap.size + 1, i, none⟩) (by simp)).trans (by simpa [go_sem] using h)
  have c0 : w1.cell? ⟨w.heap.size + 1, 0, none⟩ = some (.int .i64 kd) := c 0 _ rfl
  have c1 : w1.cell? ⟨w.heap.size + 1, 1, none⟩ = some (.int .i64 xa) := c 1 _ rfl
  have c2 : w1.cell? ⟨w.heap.size + 1, 2, none⟩ = some (.int .i64 xb) := c 2 _ rfl
  have c3 : w1.cell? ⟨w.heap.size + 1, 3, none⟩ = some (.int .i64 xc) := c 3 _ rfl
  have c4 : w1.cell? ⟨w.heap.size + 1, 4, none⟩ = some (.int .i64 cl) := c 4 _ rfl
  have c5 : w1.cell? ⟨w.heap.size + 1, 5, none⟩ = some (.int .i64 sq) := c 5 _ rfl
  have c6 : w1.cell? ⟨w.heap.size + 1, 6, none⟩ = some (.int .i64 op) := c 6 _ rfl
  have c7 : w1.cell? ⟨w.heap.size + 1, 7, none⟩ = some (.string k) := c 7 _ rfl
  have c8 : w1.cell? ⟨w.heap.size + 1, 8, none⟩ = some (.string v) := c 8 _ rfl
  have c9 : w1.cell? ⟨w.heap.size + 1, 9, none⟩ = some (.string o) := c 9 _ rfl
  clear c HRg
  obtain ⟨t0, t1, t2⟩ := hT0
  obtain ⟨u0, u1, u2⟩ := hT1
  have HB : Hid (Below w.heap.size w w1) := (((Below.refl _ _).alloc (Nat.le_refl _) _).alloc (by simp) _).trans (hb.mono (by simp <;> omega))
  have hz : w.heap.size + 2 ≤ w1.heap.size := by simpa using hb.size
  clear hb
  cases r0
  · go_quiet (first | (go_at_call 39; exact Calls.quiet_of_same (l1in_any _ _ _ _)))
    all_goals go_wp2
    all_goals go_ret
    all_goals exact ⟨rfl, below_drS HB.out _⟩
  cases r1
  · go_quiet (first | (go_at_call 39; exact Calls.quiet_of_same (l1in_any _ _ _ _)))
    all_goals go_wp2
    all_goals go_ret
    all_goals exact ⟨rfl, below_drS HB.out _⟩
  cases r2
  · go_quiet (first | (go_at_call 39; exact Calls.quiet_of_same (l1in_any _ _ _ _)))
    all_goals go_wp2
    all_goals go_ret
    all_goals exact ⟨rfl, below_drS HB.out _⟩
  have G : Hid True := trivial
  go_quiet (first | (go_at_call 39; exact Calls.quiet_of_same (l1in_any _ _ _ _)))
  replace c0 : (w1.drewN nq).cell? ⟨w.heap.size + 1, 0, none⟩ = some (.int .i64 kd) := c0
  replace c4 : (w1.drewN nq).cell? ⟨w.heap.size + 1, 4, none⟩ = some (.int .i64 cl) := c4
  replace c5 : (w1.drewN nq).cell? ⟨w.heap.size + 1, 5, none⟩ = some (.int .i64 sq) := c5
  replace c6 : (w1.drewN nq).cell? ⟨w.heap.size + 1, 6, none⟩ = some (.int .i64 op) := c6
  replace c7 : (w1.drewN nq).cell? ⟨w.heap.size + 1, 7, none⟩ = some (.string k) := c7
  replace c8 : (w1.drewN nq).cell? ⟨w.heap.size + 1, 8, none⟩ = some (.string v) := c8
  replace c9 : (w1.drewN nq).cell? ⟨w.heap.size + 1, 9, none⟩ = some (.string o) := c9
  replace HB : Hid (Below w.heap.size w (w1.drewN nq)) := below_drS HB.out nq
  replace hz : w.heap.size + 2 ≤ (w1.drewN nq).heap.size := hz
  clear c1 c2 c3 t0 t1 t2 u0 u1 u2 hr0 hr1 hr2
  generalize w1.drewN nq = w2 at *
  have hne : w.heap.size + 1 < w2.heap.size := by omega
  by_cases h11 : kd = 11
  · subst h11
    have hk' : k.size ≤ maxLen := by unfold maxLen; omega
    have hv' : v.size ≤ maxLen := by unfold maxLen; omega
    have ho' : o.size ≤ maxLen := by unfold maxLen; omega
    have HC' : Hid (cm = (decide (cl = 0) && decide (sq = 0) && ((cmdF 1 1 op k.size v.size o.size == 0) && !(op == 0)))) := by
      unfold Hid
      rw [HC.out, if_pos rfl]
      rw [callF_b]
    clear HC
    go_wp2_with (first
      | (have hBA := G; refine gate_st 46 (.tmp 7) _ rfl ?_; clear hBA; refine wpl_store_last rfl 46 (.tmp 7) _ rfl (w2.heap.size) rfl rfl rfl sizeCmS rfl rfl (by simp [Value.oneCell']) ?_; clear G)
      | (go_at_call 56; refine (specCmdFault_any _ _ _ _ _ _ hk' hv' ho' _).mono ?_; rintro e w3 ⟨rfl, hb3⟩))
    all_goals go_ret
    all_goals refine ⟨?_, ?_⟩
    all_goals first
      | exact HB.out.alloc (by omega) _
      | exact (HB.out.alloc (by omega) _).trans (hb3.mono (by simp; omega))
      | skip
    all_goals rw [HC'.out]
    all_goals clear HC'
    all_goals go_light
    all_goals simp [*]
  · go_wp2_with (first | (have hBA := G; refine gate_st 46 (.tmp 7) _ rfl ?_; clear hBA; refine wpl_store_last rfl 46 (.tmp 7) _ rfl (w2.heap.size) rfl rfl rfl sizeCmS rfl rfl (by simp [Value.oneCell']) ?_; clear G))
    all_goals go_ret
    all_goals refine ⟨?_, HB.out.alloc (by omega) _⟩
    all_goals rw [HC.out, if_neg h11]
    all_goals simp only [siz_nil]
    all_goals (go_light; simp [*])
end Go.Proofs.YtanpindbhdeomaaGreatDoor
