/-
  spec.l3bagOk.
-/
import Derived.Test.YtfcmffdljfljkaaGround
import Derived.BigQuiet
import Derived.Deep.QuietTactic
namespace Go.Proofs.Ytfcmffdljfljkaa
open Go.RowKit
set_option linter.unusedVariables false
set_option linter.unusedSimpArgs false

theorem below_drewN (B : Nat) (w : World) (k : Nat) : Below B w (w.drewN k) := ⟨rfl, rfl, rfl, Nat.le_refl _, fun _ _ => rfl⟩
theorem ok_id {x id n : Int} (hx : 0 ≤ x) (h1 : 1 ≤ id) (h2 : id < n) (h3 : x < id) : inB id (x + 1) (n - 1) = true := (inB_iff _ _ _).2 (by omega)
theorem no_id {x id n : Int} (hx : 0 ≤ x) (h : id < 1 ∨ n ≤ id ∨ id ≤ x) : inB id (x + 1) (n - 1) = false := (inB_not _ _ _).2 (by omega)
theorem ok_w {x y : Int} (hx : 0 ≤ x) (h1 : inB y 1 7 = true) (h3 : x < y) : inB y (x + 1) 7 = true := by
  have := (inB_iff _ _ _).1 h1
  exact (inB_iff _ _ _).2 (by omega)
theorem no_w {x y : Int} (hx : 0 ≤ x) (h : inB y 1 7 = false ∨ y ≤ x) : inB y (x + 1) 7 = false := by
  rcases h with h | h
  · have := (inB_not _ _ _).1 h
    exact (inB_not _ _ _).2 (by omega)
  · exact (inB_not _ _ _).2 (by omega)

set_option maxHeartbeats 16000000 in
set_option maxRecDepth 100000 in
theorem l3bagOk_any (n : Int) (v u : Value) (l : List Pk) (ws : List Int) (w : World) (hv : Pks w v l) (hu : Ix w u ws) :
    Calls Try.prog 40 #[.agg #[.int .i64 n, v, u]] w fun e w' => e = .returned (.bool (bagB n (cont l) ws)) ∧ Below w.heap.size w w' := by
  have HV : Hid (Pks w v l) := hv
  have HU : Hid (Ix w u ws) := hu
  obtain ⟨hl, _, a, cap, rfl, hc⟩ := hv
  obtain ⟨hl2, a2, cap2, rfl, hc2⟩ := hu
  have HC : Hid (∀ i, i < l.length → ∃ b off, a = some ⟨b, off, none⟩ ∧ ∀ j (h : j < l.length), PkAt w b (off + j * 4) l[j]) := hc
  have HC2 : Hid (∀ i, i < ws.length → ∃ b off, a2 = some ⟨b, off, none⟩ ∧ ∀ j (h : j < ws.length), w.cell? ⟨b, off + j, none⟩ = some (.int .i64 ws[j])) := hc2
  clear hc hc2
  unfold maxLen at hl hl2
  unfold bagB
  rw [cont_len]
  cases h1 : inB n 1 1099511627776
  · go_enter Try.func40, Try.ntmps40
    go_wp2_with (go_at_call 42; refine (l1in_any _ _ _ _).mono ?_; rintro e w1 ⟨rfl, hw⟩; subst hw; rw [h1])
    go_ret
    exact ⟨rfl, (Below.refl _ _).alloc (Nat.le_refl _) _⟩
  have hni := (inB_iff _ _ _).1 h1
  by_cases h4 : l.length ≤ 4096
  case neg =>
    rw [show decide (l.length ≤ 4096) = false by simp [h4]]
    go_enter Try.func40, Try.ntmps40
    go_wp2_with (go_at_call 42; refine (l1in_any _ _ _ _).mono ?_; rintro e w1 ⟨rfl, hw⟩; subst hw; rw [h1])
    go_ret
    exact ⟨rfl, (Below.refl _ _).alloc (Nat.le_refl _) _⟩
  rw [show decide (l.length ≤ 4096) = true by simp [h4], Bool.true_and, Bool.true_and]
  go_enter Try.func40, Try.ntmps40
  go_wp2_with (go_at_call 42; refine (l1in_any _ _ _ _).mono ?_; rintro e w1 ⟨rfl, hw⟩; subst hw; rw [h1])
  go_loopw [3] (fun i wr => ∃ (k : Nat) (x : Int), k ≤ l.length ∧ i = .int .i64 k ∧ 0 ≤ x ∧ (k = 0 → x = 0) ∧ (∀ m (hm : m < l.length), k = m + 1 → x = l[m].1.id) ∧ pksB n 0 (cont l) = pksB n x ((cont l).drop k) ∧ Below (w.heap.size + 1) (w.alloc (.cells #[.int .i64 n, .slice a l.length cap, .slice a2 ws.length cap2] 29)) wr) (fun i _ => l.length - (intOf i).toNat)
  case atStart => exact ⟨0, 0, Nat.zero_le _, rfl, by omega, fun _ => rfl, fun m hm e => by omega, by simp, Below.refl _ _⟩
  case round =>
    obtain ⟨k, x, hk, rfl, hx, hx0, hxm, hr, hB⟩ := hrel
    have HR : Hid (pksB n 0 (cont l) = pksB n x ((cont l).drop k)) := hr
    have hsz := hB.size
    simp only [World.size_alloc] at hsz
    have HB : Hid (Below (w.heap.size + 1) (w.alloc (.cells #[.int .i64 n, .slice a l.length cap, .slice a2 ws.length cap2] 29)) wr) := hB
    have HB0 : Hid (Below w.heap.size w wr) := ((Below.refl _ _).alloc (Nat.le_refl _) _).trans (hB.mono (Nat.le_succ _))
    have bc : ∀ j, wr.cell? ⟨w.heap.size, j, none⟩ = #[.int .i64 n, .slice a l.length cap, .slice a2 ws.length cap2][j]? := fun j => (hB.cell (p := ⟨w.heap.size, j, none⟩) (Nat.lt_succ_self _)).trans (World.cell?_alloc_new _ _ _ _)
    have bc0 := bc 0
    have bc1 := bc 1
    have bc2 := bc 2
    simp at bc0 bc1 bc2
    clear hr hB bc
    by_cases hlt : k < l.length
    · obtain ⟨b, off, rfl, hj⟩ := HC.out k hlt
      obtain ⟨c0, c1, c2, c3⟩ := (hj k hlt).below HB0.out
      obtain ⟨a', cap', e3⟩ := (HV.out.bs k hlt).sh
      have hnn : l[k].1.bs.length ≤ maxLen := (HV.out.bs k hlt).1
      unfold maxLen at hnn
      rw [e3] at c3
      have HD : Hid (pksB n x ((cont l).drop k) = ((inB l[k].1.id (x + 1) (n - 1) && pkF l[k].1.fr l[k].1.tq l[k].1.bs.length) && pksB n l[k].1.id ((cont l).drop (k + 1)))) := by
        have h := pksB_drop n x (cont l) k (by rw [cont_len]; exact hlt)
        show _ = _
        simpa [cont] using h
      have HX : Hid (∀ m (hm : m < l.length), k + 1 = m + 1 → l[k].1.id = l[m].1.id) := fun m hm e => by
        have : k = m := by omega
        subst this; rfl
      have hprev : ∀ m, k = m + 1 → wr.cell? ⟨b, off + m * 4, none⟩ = some (.int .i64 x) := fun m e => by
        have hm : m < l.length := by omega
        rw [hxm m hm e]
        exact ((hj m hm).below HB0.out).1
      have hbl := cell_lt c0
      clear hj e3 hxm
      generalize l[k].1 = p at *
      generalize p.id = pid at *
      generalize p.fr = pf at *
      generalize p.tq = pt at *
      generalize p.bs.length = pn at *
      have hbA : Hid (Below (w.heap.size + 1) (w.alloc (.cells #[.int .i64 n, .slice (some ⟨b, off, none⟩) l.length cap, .slice a2 ws.length cap2] 29)) (wr.alloc (.cells #[.int .i64 pid, .int .i64 pf, .int .i64 pt, .slice a' pn cap'] 60))) := HB.out.alloc hsz _
      have d0 : (wr.alloc (.cells #[.int .i64 pid, .int .i64 pf, .int .i64 pt, .slice a' pn cap'] 60)).cell? ⟨w.heap.size, 0, none⟩ = some (.int .i64 n) := by rw [World.cell?_alloc_lt _ _ _ (by show w.heap.size < wr.heap.size; omega)]; exact bc0
      have d1 : (wr.alloc (.cells #[.int .i64 pid, .int .i64 pf, .int .i64 pt, .slice a' pn cap'] 60)).cell? ⟨w.heap.size, 1, none⟩ = some (.slice (some ⟨b, off, none⟩) l.length cap) := by rw [World.cell?_alloc_lt _ _ _ (by show w.heap.size < wr.heap.size; omega)]; exact bc1
      have HEX : Hid (∀ w', Below w.heap.size (wr.alloc (.cells #[.int .i64 pid, .int .i64 pf, .int .i64 pt, .slice a' pn cap'] 60)) w' → Below w.heap.size w w') := fun w' h => (((Below.refl _ _).alloc (Nat.le_refl _) _).trans (hbA.out.mono (Nat.le_succ _))).trans h
      by_cases i1 : pid < 1
      · have HI : Hid (inB pid (x + 1) (n - 1) = false) := no_id hx (.inl i1)
        go_wp2
        go_quiet (fail)
        go_wp2
        all_goals go_ret
        all_goals exact ⟨by rw [HR.out, HD.out, HI.out]; simp, HEX.out _ (below_drewN _ _ _)⟩
      have i1d : decide (pid < 1) = false := by simp; omega
      have i1e : 1 ≤ pid := by omega
      clear i1
      by_cases i2 : n ≤ pid
      · have HI : Hid (inB pid (x + 1) (n - 1) = false) := no_id hx (.inr (.inl i2))
        go_wp2
        go_quiet (fail)
        go_wp2
        all_goals go_ret
        all_goals exact ⟨by rw [HR.out, HD.out, HI.out]; simp, HEX.out _ (below_drewN _ _ _)⟩
      have i2d : decide (n ≤ pid) = false := by simp; omega
      have i2e : pid < n := by omega
      clear i2
      by_cases i3 : k = 0
      · have i3d : decide (0 < k) = false := by simp; omega
        have HI : Hid (inB pid (x + 1) (n - 1) = true) := ok_id hx (by omega) (by omega) (by have := hx0 i3; omega)
        clear i3 hx0 hprev
        cases q1 : addrB pf
        · go_wp2
          go_quiet (fail)
          have g1 : True := trivial
          go_wp2_with (first
            | (go_at_call 56; clear g1; refine (l3address_any _ _).mono ?_; rintro e w1 ⟨rfl, hw⟩; subst hw; rw [q1])
            | (go_at_call 56; refine (l3address_any _ _).mono ?_; rintro e w1 ⟨rfl, hw⟩; subst hw; fail)
            | (go_at_call 42; refine (l1in_any _ _ _ _).mono ?_; rintro e w1 ⟨rfl, hw⟩; subst hw; fail))
          all_goals go_ret
          all_goals exact ⟨by rw [HR.out, HD.out, show pkF pf pt pn = false by simp [pkF, q1]]; simp, HEX.out _ (below_drewN _ _ _)⟩
        cases q2 : addrB pt
        · go_wp2
          go_quiet (fail)
          have g1 : True := trivial
          go_wp2_with (first
            | (go_at_call 56; clear g1; refine (l3address_any _ _).mono ?_; rintro e w1 ⟨rfl, hw⟩; subst hw; rw [q1])
            | (go_at_call 56; refine (l3address_any _ _).mono ?_; rintro e w1 ⟨rfl, hw⟩; subst hw; rw [q2])
            | (go_at_call 42; refine (l1in_any _ _ _ _).mono ?_; rintro e w1 ⟨rfl, hw⟩; subst hw; fail))
          all_goals go_ret
          all_goals exact ⟨by rw [HR.out, HD.out, show pkF pf pt pn = false by simp [pkF, q2]]; simp, HEX.out _ (below_drewN _ _ _)⟩
        by_cases q3 : pf = pt
        · subst q3
          have HF : Hid (pkF pf pf pn = false) := by
            show _ = _
            simp [pkF]
          go_wp2
          go_quiet (fail)
          have g1 : True := trivial
          go_wp2_with (first
            | (go_at_call 56; clear g1; refine (l3address_any _ _).mono ?_; rintro e w1 ⟨rfl, hw⟩; subst hw; rw [q1])
            | (go_at_call 56; refine (l3address_any _ _).mono ?_; rintro e w1 ⟨rfl, hw⟩; subst hw; rw [q2])
            | (go_at_call 42; refine (l1in_any _ _ _ _).mono ?_; rintro e w1 ⟨rfl, hw⟩; subst hw; fail))
          all_goals go_ret
          all_goals exact ⟨by rw [HR.out, HD.out, HF.out]; simp, HEX.out _ (below_drewN _ _ _)⟩
        cases q4 : inB pn 1 16384
        · go_wp2
          go_quiet (fail)
          have g1 : True := trivial
          go_wp2_with (first
            | (go_at_call 56; clear g1; refine (l3address_any _ _).mono ?_; rintro e w1 ⟨rfl, hw⟩; subst hw; rw [q1])
            | (go_at_call 56; refine (l3address_any _ _).mono ?_; rintro e w1 ⟨rfl, hw⟩; subst hw; rw [q2])
            | (go_at_call 42; refine (l1in_any _ _ _ _).mono ?_; rintro e w1 ⟨rfl, hw⟩; subst hw; rw [q4]))
          all_goals go_ret
          all_goals exact ⟨by rw [HR.out, HD.out, show pkF pf pt pn = false by simp [pkF, q4]]; simp, HEX.out _ (below_drewN _ _ _)⟩
        have HF : Hid (pkF pf pt pn = true) := by
          show _ = _
          simp [pkF, q1, q2, q3, q4]
        go_wp2
        go_quiet (fail)
        have g1 : True := trivial
        go_wp2_with (first
          | (go_at_call 56; clear g1; refine (l3address_any _ _).mono ?_; rintro e w1 ⟨rfl, hw⟩; subst hw; rw [q1])
          | (go_at_call 56; refine (l3address_any _ _).mono ?_; rintro e w1 ⟨rfl, hw⟩; subst hw; rw [q2])
          | (go_at_call 42; refine (l1in_any _ _ _ _).mono ?_; rintro e w1 ⟨rfl, hw⟩; subst hw; rw [q4]))
        go_roundw
        case rel => exact ⟨k + 1, pid, by omega, by go_num, by omega, fun h => by omega, HX.out, by rw [HR.out, HD.out, HI.out, HF.out]; simp, hbA.out.trans (below_drewN _ _ _)⟩
        case measure => simp [intOf]; omega
      obtain ⟨m, rfl⟩ : ∃ m, k = m + 1 := ⟨k - 1, by omega⟩
      have cm' : (wr.alloc (.cells #[.int .i64 pid, .int .i64 pf, .int .i64 pt, .slice a' pn cap'] 60)).cell? ⟨b, off + m * 4, none⟩ = some (.int .i64 x) := by rw [World.cell?_alloc_lt _ _ _ (by show b < wr.heap.size; omega)]; exact hprev m rfl
      clear hprev hx0 i3
      by_cases i4 : pid ≤ x
      · have HI : Hid (inB pid (x + 1) (n - 1) = false) := no_id hx (.inr (.inr i4))
        go_wp2
        go_quiet (fail)
        go_wp2
        all_goals go_ret
        all_goals exact ⟨by rw [HR.out, HD.out, HI.out]; simp, HEX.out _ (below_drewN _ _ _)⟩
      have i4d : decide (pid ≤ x) = false := by simp; omega
      have HI : Hid (inB pid (x + 1) (n - 1) = true) := ok_id hx (by omega) (by omega) (by omega)
      clear i4
      cases q1 : addrB pf
      · go_wp2
        go_quiet (fail)
        have g1 : True := trivial
        go_wp2_with (first
          | (go_at_call 56; clear g1; refine (l3address_any _ _).mono ?_; rintro e w1 ⟨rfl, hw⟩; subst hw; rw [q1])
          | (go_at_call 56; refine (l3address_any _ _).mono ?_; rintro e w1 ⟨rfl, hw⟩; subst hw; fail)
          | (go_at_call 42; refine (l1in_any _ _ _ _).mono ?_; rintro e w1 ⟨rfl, hw⟩; subst hw; fail))
        all_goals go_ret
        all_goals exact ⟨by rw [HR.out, HD.out, show pkF pf pt pn = false by simp [pkF, q1]]; simp, HEX.out _ (below_drewN _ _ _)⟩
      cases q2 : addrB pt
      · go_wp2
        go_quiet (fail)
        have g1 : True := trivial
        go_wp2_with (first
          | (go_at_call 56; clear g1; refine (l3address_any _ _).mono ?_; rintro e w1 ⟨rfl, hw⟩; subst hw; rw [q1])
          | (go_at_call 56; refine (l3address_any _ _).mono ?_; rintro e w1 ⟨rfl, hw⟩; subst hw; rw [q2])
          | (go_at_call 42; refine (l1in_any _ _ _ _).mono ?_; rintro e w1 ⟨rfl, hw⟩; subst hw; fail))
        all_goals go_ret
        all_goals exact ⟨by rw [HR.out, HD.out, show pkF pf pt pn = false by simp [pkF, q2]]; simp, HEX.out _ (below_drewN _ _ _)⟩
      by_cases q3 : pf = pt
      · subst q3
        have HF : Hid (pkF pf pf pn = false) := by
          show _ = _
          simp [pkF]
        go_wp2
        go_quiet (fail)
        have g1 : True := trivial
        go_wp2_with (first
          | (go_at_call 56; clear g1; refine (l3address_any _ _).mono ?_; rintro e w1 ⟨rfl, hw⟩; subst hw; rw [q1])
          | (go_at_call 56; refine (l3address_any _ _).mono ?_; rintro e w1 ⟨rfl, hw⟩; subst hw; rw [q2])
          | (go_at_call 42; refine (l1in_any _ _ _ _).mono ?_; rintro e w1 ⟨rfl, hw⟩; subst hw; fail))
        all_goals go_ret
        all_goals exact ⟨by rw [HR.out, HD.out, HF.out]; simp, HEX.out _ (below_drewN _ _ _)⟩
      cases q4 : inB pn 1 16384
      · go_wp2
        go_quiet (fail)
        have g1 : True := trivial
        go_wp2_with (first
          | (go_at_call 56; clear g1; refine (l3address_any _ _).mono ?_; rintro e w1 ⟨rfl, hw⟩; subst hw; rw [q1])
          | (go_at_call 56; refine (l3address_any _ _).mono ?_; rintro e w1 ⟨rfl, hw⟩; subst hw; rw [q2])
          | (go_at_call 42; refine (l1in_any _ _ _ _).mono ?_; rintro e w1 ⟨rfl, hw⟩; subst hw; rw [q4]))
        all_goals go_ret
        all_goals exact ⟨by rw [HR.out, HD.out, show pkF pf pt pn = false by simp [pkF, q4]]; simp, HEX.out _ (below_drewN _ _ _)⟩
      have HF : Hid (pkF pf pt pn = true) := by
        show _ = _
        simp [pkF, q1, q2, q3, q4]
      go_wp2
      go_quiet (fail)
      have g1 : True := trivial
      go_wp2_with (first
        | (go_at_call 56; clear g1; refine (l3address_any _ _).mono ?_; rintro e w1 ⟨rfl, hw⟩; subst hw; rw [q1])
        | (go_at_call 56; refine (l3address_any _ _).mono ?_; rintro e w1 ⟨rfl, hw⟩; subst hw; rw [q2])
        | (go_at_call 42; refine (l1in_any _ _ _ _).mono ?_; rintro e w1 ⟨rfl, hw⟩; subst hw; rw [q4]))
      go_roundw
      case rel => exact ⟨m + 1 + 1, pid, by omega, by go_num, by omega, fun h => by omega, HX.out, by rw [HR.out, HD.out, HI.out, HF.out]; simp, hbA.out.trans (below_drewN _ _ _)⟩
      case measure => simp [intOf]; omega
    · have hd : (cont l).drop k = [] := List.drop_of_length_le (by rw [cont_len]; omega)
      have HT : Hid (pksB n 0 (cont l) = true) := by
        show _ = _
        rw [HR.out, hd]; rfl
      rw [HT.out]
      clear hxm hx0
      go_wp2
      go_loopw [5] (fun i wr2 => ∃ (k : Nat) (x : Int), k ≤ ws.length ∧ i = .int .i64 k ∧ 0 ≤ x ∧ (k = 0 → x = 0) ∧ (∀ m (hm : m < ws.length), k = m + 1 → x = ws[m]) ∧ riseB 7 0 ws = riseB 7 x (ws.drop k) ∧ Below (w.heap.size + 1) (w.alloc (.cells #[.int .i64 n, .slice a l.length cap, .slice a2 ws.length cap2] 29)) wr2) (fun i _ => ws.length - (intOf i).toNat)
      case atStart => exact ⟨0, 0, Nat.zero_le _, rfl, by omega, fun _ => rfl, fun m hm e => by omega, by simp, HB.out⟩
      case round =>
      obtain ⟨k2, x2, hk2, rfl, hx2, hx20, hxm2, hr2, hB2⟩ := hrel
      clear bc0 bc1 bc2 HB0
      have HB0 : Hid (Below w.heap.size w wr) := ((Below.refl _ _).alloc (Nat.le_refl _) _).trans (hB2.mono (Nat.le_succ _))
      have HB2 : Hid (Below (w.heap.size + 1) (w.alloc (.cells #[.int .i64 n, .slice a l.length cap, .slice a2 ws.length cap2] 29)) wr) := hB2
      have bc2 : wr.cell? ⟨w.heap.size, 2, none⟩ = some (.slice a2 ws.length cap2) := (hB2.cell (p := ⟨w.heap.size, 2, none⟩) (Nat.lt_succ_self _)).trans (by simp [go_sem])
      clear hB2
      have HR2 : Hid (riseB 7 0 ws = riseB 7 x2 (ws.drop k2)) := hr2
      clear hr2
      by_cases hlt2 : k2 < ws.length
      · obtain ⟨b2, off2, rfl, hj2⟩ := HC2.out k2 hlt2
        have e0 : wr.cell? ⟨b2, off2 + k2, none⟩ = some (.int .i64 ws[k2]) := (HB0.out.cell (p := ⟨b2, off2 + k2, none⟩) (cell_lt (hj2 k2 hlt2))).trans (hj2 k2 hlt2)
        have HD2 : Hid (riseB 7 x2 (ws.drop k2) = (inB ws[k2] (x2 + 1) 7 && riseB 7 ws[k2] (ws.drop (k2 + 1)))) := riseB_drop 7 x2 ws k2 hlt2
        have HX2 : Hid (∀ m (hm : m < ws.length), k2 + 1 = m + 1 → ws[k2] = ws[m]) := fun m hm e => by
          have : k2 = m := by omega
          subst this; rfl
        have hprev2 : ∀ m, k2 = m + 1 → wr.cell? ⟨b2, off2 + m, none⟩ = some (.int .i64 x2) := fun m e => by
          have hm : m < ws.length := by omega
          rw [hxm2 m hm e]
          exact (HB0.out.cell (p := ⟨b2, off2 + m, none⟩) (cell_lt (hj2 m hm))).trans (hj2 m hm)
        have hbl2 := cell_lt e0
        clear hj2 hxm2
        generalize ws[k2] = y at *
        cases j1 : inB y 1 7
        · have HQ : Hid (∀ w', Calls Try.prog 42 #[.int .i64 y, .int .i64 1, .int .i64 7] w' fun e w'' => e = .returned (.bool false) ∧ w'' = w') := fun w' => by rw [← j1]; exact l1in_any _ _ _ _
          have HI : Hid (inB y (x2 + 1) 7 = false) := no_w hx2 (.inl j1)
          go_wp2
          go_quiet ((go_at_call 42; exact Calls.quiet_of_same (HQ.out _)))
          go_wp2
          all_goals go_ret
          all_goals exact ⟨by rw [HR2.out, HD2.out, HI.out]; simp, HB0.out.trans (below_drewN _ _ _)⟩
        have hy := (inB_iff _ _ _).1 j1
        have HQ : Hid (∀ w', Calls Try.prog 42 #[.int .i64 y, .int .i64 1, .int .i64 7] w' fun e w'' => e = .returned (.bool true) ∧ w'' = w') := fun w' => by rw [← j1]; exact l1in_any _ _ _ _
        by_cases j3 : k2 = 0
        · have j3d : decide (0 < k2) = false := by simp; omega
          have HI : Hid (inB y (x2 + 1) 7 = true) := ok_w hx2 j1 (by have := hx20 j3; omega)
          clear j3 hx20 hprev2
          go_wp2
          go_quiet ((go_at_call 42; exact Calls.quiet_of_same (HQ.out _)))
          go_wp2
          go_roundw
          case rel => exact ⟨k2 + 1, y, by omega, by go_num, by omega, fun h => by omega, HX2.out, by rw [HR2.out, HD2.out, HI.out]; simp, HB2.out.trans (below_drewN _ _ _)⟩
          case measure => simp [intOf]; omega
        obtain ⟨m, rfl⟩ : ∃ m, k2 = m + 1 := ⟨k2 - 1, by omega⟩
        have cm : wr.cell? ⟨b2, off2 + m, none⟩ = some (.int .i64 x2) := hprev2 m rfl
        clear hprev2 hx20 j3
        by_cases j4 : y ≤ x2
        · have HI : Hid (inB y (x2 + 1) 7 = false) := no_w hx2 (.inr j4)
          go_wp2
          go_quiet ((go_at_call 42; exact Calls.quiet_of_same (HQ.out _)))
          go_wp2
          all_goals go_ret
          all_goals exact ⟨by rw [HR2.out, HD2.out, HI.out]; simp, HB0.out.trans (below_drewN _ _ _)⟩
        have j4d : decide (y ≤ x2) = false := by simp; omega
        have HI : Hid (inB y (x2 + 1) 7 = true) := ok_w hx2 j1 (by omega)
        clear j4
        go_wp2
        go_quiet ((go_at_call 42; exact Calls.quiet_of_same (HQ.out _)))
        go_wp2
        go_roundw
        case rel => exact ⟨m + 1 + 1, y, by omega, by go_num, by omega, fun h => by omega, HX2.out, by rw [HR2.out, HD2.out, HI.out]; simp, HB2.out.trans (below_drewN _ _ _)⟩
        case measure => simp [intOf]; omega
      · have hd2 : ws.drop k2 = [] := List.drop_of_length_le (by omega)
        go_wp2
        go_ret
        exact ⟨by rw [HR2.out, hd2]; simp [riseB, HT.out], HB0.out⟩
end Go.Proofs.Ytfcmffdljfljkaa
