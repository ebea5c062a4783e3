/-
  spec.l2fits.
-/
import Derived.Test.YtlfnlhbkagjheaaDoorRcFol
import Derived.Test.YtlfnlhbkagjheaaDoorL1in
namespace Go.Proofs.YtlfnlhbkagjheaaDoor
open Go.RowKit
set_option linter.unusedVariables false
set_option linter.unusedSimpArgs false


set_option maxHeartbeats 8000000 in
set_option maxRecDepth 100000 in
theorem l2fits_any (s : Stt) (lg : Value) (r : Rec) (w : World) (hki : r.ki = 1 ∨ r.ki = 2 ∨ r.ki = 3) (hv : Es w lg s.log) (hll : s.log.length ≤ 1048576) :
    Calls Tryd.prog 24 #[.agg #[.int .i64 s.t, .int .i64 s.v, lg], .agg r.cells.toArray] w fun e w' => e = .returned (.bool (fitsB s r)) ∧ Below w.heap.size w w' := by
  obtain ⟨t, v, l⟩ := s
  obtain ⟨ki, tm, vo, ix, ⟨t0, cl, sq, op, k, vv, oo⟩⟩ := r
  dsimp only at hki hv hll
  show Calls Tryd.prog 24 #[.agg #[.int .i64 t, .int .i64 v, lg], .agg #[.int .i64 ki, .int .i64 tm, .int .i64 vo, .int .i64 ix, .int .i64 t0, .int .i64 cl, .int .i64 sq, .int .i64 op, .string k, .string vv, .string oo]] w _
  have HES : Hid (Es w lg l) := hv
  obtain ⟨hm, _, a, cap, rfl, hcell⟩ := hv
  have hb0 : Hid (Below w.heap.size w ((w.alloc (.cells #[.int .i64 t, .int .i64 v, .slice a l.length cap] 25)).alloc (.cells #[.int .i64 ki, .int .i64 tm, .int .i64 vo, .int .i64 ix, .int .i64 t0, .int .i64 cl, .int .i64 sq, .int .i64 op, .string k, .string vv, .string oo] 55))) := ((Below.refl _ _).alloc (Nat.le_refl _) _).alloc (by simp) _
  rcases hki with rfl | rfl | rfl
  · have hR : fitsB ⟨t, v, l⟩ ⟨1, tm, vo, ix, ⟨t0, cl, sq, op, k, vv, oo⟩⟩ = folB t v tm vo := rfl
    rw [hR]
    clear hR hcell hm
    by_cases h1 : t < tm
    · go_enter Tryd.func24, Tryd.ntmps24
      go_wp2
      go_ret
      exact ⟨by simp [folB, h1], hb0.out⟩
    · by_cases h2 : tm = t
      · subst h2
        by_cases h3 : v = 0
        · subst h3
          go_enter Tryd.func24, Tryd.ntmps24
          go_wp2
          go_ret
          exact ⟨by simp [folB], hb0.out⟩
        · go_enter Tryd.func24, Tryd.ntmps24
          go_wp2
          go_ret
          exact ⟨by simp [folB, h3], hb0.out⟩
      · go_enter Tryd.func24, Tryd.ntmps24
        go_wp2
        go_ret
        exact ⟨by simp [folB, h1, h2], hb0.out⟩
  · have hR : fitsB ⟨t, v, l⟩ ⟨2, tm, vo, ix, ⟨t0, cl, sq, op, k, vv, oo⟩⟩ = (ix == (l.length : Int) + 1 && inB t0 (lastT 1 l) t) := rfl
    rw [hR]
    clear hR
    by_cases h0 : l.length = 0
    · have hT : lastT 1 l = 1 := by unfold lastT; rw [if_pos h0]
      rw [hT]
      have h0' : ¬ (0 : Int) < (l.length : Int) := by omega
      clear hcell hT h0
      by_cases hA : ix = (l.length : Int) + 1
      case neg =>
        have hA' : (ix == (l.length : Int) + 1) = false := by rw [beq_eq_false_iff_ne]; exact hA
        rw [hA']
        clear hA
        go_enter Tryd.func24, Tryd.ntmps24
        go_wp2
        go_ret
        exact ⟨rfl, hb0.out⟩
      case pos =>
        subst hA
        rw [show ((l.length : Int) + 1 == (l.length : Int) + 1) = true by simp]
        go_enter Tryd.func24, Tryd.ntmps24
        go_wp2_with (go_at_call 41; refine (l1in_any _ _ _ _).mono ?_; rintro e w1 ⟨rfl, rfl⟩)
        go_ret
        exact ⟨rfl, hb0.out⟩
    · obtain ⟨b, off, rfl, hj⟩ := hcell 0 (by omega)
      have c0 := (hj (l.length - 1) (by omega)).1
      have hT : lastT 1 l = (l[l.length - 1]'(by omega)).t := lastT_pos (by omega)
      rw [hT]
      generalize (l[l.length - 1]'(by omega)).t = X at c0
      have h0' : (0 : Int) < (l.length : Int) := by omega
      have hn : ((l.length : Int) - 1).toNat = l.length - 1 := by omega
      have h1 : 0 ≤ (l.length : Int) - 1 := by omega
      have h2 : (l.length : Int) - 1 < (l.length : Int) := by omega
      have c1 := (hb0.out.cell (p := ⟨b, off + (l.length - 1) * 7, none⟩) (cell_lt c0)).trans c0
      clear hj hcell hT HES c0 h0
      by_cases hA : ix = (l.length : Int) + 1
      case neg =>
        have hA' : (ix == (l.length : Int) + 1) = false := by rw [beq_eq_false_iff_ne]; exact hA
        rw [hA']
        clear hA
        go_enter Tryd.func24, Tryd.ntmps24
        go_wp2
        go_ret
        exact ⟨rfl, hb0.out⟩
      case pos =>
        subst hA
        rw [show ((l.length : Int) + 1 == (l.length : Int) + 1) = true by simp]
        go_enter Tryd.func24, Tryd.ntmps24
        go_wp2_with (go_at_call 41; refine (l1in_any _ _ _ _).mono ?_; rintro e w1 ⟨rfl, rfl⟩)
        go_ret
        exact ⟨rfl, hb0.out⟩
  · have hR : fitsB ⟨t, v, l⟩ ⟨3, tm, vo, ix, ⟨t0, cl, sq, op, k, vv, oo⟩⟩ = decide (ix ≤ (l.length : Int)) := rfl
    rw [hR]
    clear hR hcell hm
    go_enter Tryd.func24, Tryd.ntmps24
    go_wp2
    go_ret
    exact ⟨rfl, hb0.out⟩
end Go.Proofs.YtlfnlhbkagjheaaDoor
