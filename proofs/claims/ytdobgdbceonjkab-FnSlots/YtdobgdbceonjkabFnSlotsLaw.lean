/-
  The walk of the law FnSlots.
-/
import Derived.Test.YtdobgdbceonjkabSlotsLaw
namespace Go.Proofs.Ytdobgdbceonjkab
open Go.RowKit
set_option linter.unusedVariables false

def noSizeB (n : Int) : Bool := !(sizeB n)
def outB (n : Int) : Bool := decide (n < 0) || decide (1099511627776 < n)
theorem slotC_rng (el sz id rd : Int) : 0 ≤ slotC el sz id rd ∧ slotC el sz id rd ≤ 1000 := by
  unfold slotC
  split
  · next h =>
    simp only [slotB, Bool.and_eq_true, inB_iff] at h
    have := modI_ge ((id - 1) * el.tdiv sz - rd) el (by omega)
    have := modI_lt ((id - 1) * el.tdiv sz - rd) el (by omega)
    omega
  · omega
theorem sizeB_3 : sizeB 3 = true := rfl
theorem sizeB_5 : sizeB 5 = true := rfl
theorem sizeB_7 : sizeB 7 = true := rfl

set_option maxHeartbeats 4000000 in
set_option maxRecDepth 100000 in
theorem lawSlots_walk (v1 : Value) (l1 : List Int) (v2 : Value) (l2 : List Int) (w : World) (h1 : Bs w v1 l1) (h2 : Bs w v2 l2) :
    Calls Try.prog 5 #[v1, v2] w fun e w' => e = .returned (.bool true) ∧ Below w.heap.size w w' := by
  have H1 : Hid (Bs w v1 l1) := h1
  have H2 : Hid (Bs w v2 l2) := h2
  obtain ⟨m1, _, a1, cap1, rfl, _⟩ := h1
  obtain ⟨m2, _, a2, cap2, rfl, _⟩ := h2
  by_cases hl1 : (1048576 : Int) < l1.length
  · go_enter Try.func5, Try.ntmps5
    go_wp2
    go_ret
    exact ⟨rfl, Below.refl _ _⟩
  by_cases hl2 : (1048576 : Int) < l2.length
  · go_enter Try.func5, Try.ntmps5
    go_wp2
    go_ret
    exact ⟨rfl, Below.refl _ _⟩
  have HB : Hid (Below w.heap.size w w) := Below.refl _ _
  go_enter Try.func5, Try.ntmps5
  go_upto_region 4 with (go_at_call 17; refine (drawTimeoutOf_any _ l1 _ (by omega) H1.out).mono ?_; rintro e w1 ⟨e0, d0, rfl, ⟨e1, e2, d1, d2⟩, hb1⟩; replace H1 : Hid (Bs w1 _ l1) := H1.out.below hb1; replace H2 : Hid (Bs w1 _ l2) := H2.out.below hb1; replace HB : Hid (Below w.heap.size w w1) := hb1; clear hb1)
  go_cut [38] (fun s38 wx => s38 = .bool (inB e0 1 1000) ∧ wx = w1)
  case first =>
    go_wp2_with fail
    all_goals go_meet
    · rename_i hh; have : decide (1 ≤ e0) = true := (by simpa using hh); exact ⟨by simp [inB, this], rfl⟩
    · rename_i hh; have : decide (1 ≤ e0) = false := (by simpa using hh); exact ⟨by simp [inB, this], rfl⟩
  case rest =>
    obtain ⟨rfl, rfl⟩ := hcut
    go_upto_if 38 with fail
    go_cut [7] (fun s7 wx => wx = wc)
    case first =>
      cases c1 : inB e0 1 1000
      · go_wp2
        go_meet
        exact rfl
      · have c2 := (inB_iff _ _ _).mp c1
        have t0 := modI_ge d0 e0 (by omega)
        have t1 := modI_lt d0 e0 (by omega)
        go_wp2_with (go_at_call 18; refine (timeoutOf_any e0 d0 (by omega) (by omega) _).mono ?_; rintro e w1 ⟨rfl, rfl⟩; rw [toutC_in d0 c1])
        go_meet
        exact rfl
    case rest =>
      subst hcut
      have g1 : True := trivial
      go_upto_region 10 with (first
        | (go_at_call 19; clear g1; refine (drawSlotDraw_any _ l1 _ (by omega) H1.out).mono ?_; rintro e w2 ⟨el, sz, i0, r, rfl, ⟨zz1, zz2, zz3, zz4, zz5, zz6⟩, hb1⟩; replace H2 : Hid (Bs w2 _ l2) := H2.out.below hb1; replace HB : Hid (Below w.heap.size w w2) := HB.out.trans (hb1.mono HB.out.size); clear hb1)
        | (go_at_call 19; refine (drawSlotDraw_any _ l2 _ (by omega) H2.out).mono ?_; rintro e w3 ⟨el2, sz2, i2, q, rfl, ⟨zz7, zz8, zz9, zz10, zz11, zz12⟩, hb1⟩; replace HB : Hid (Below w.heap.size w w3) := HB.out.trans (hb1.mono HB.out.size); clear hb1))
      go_cut [75] (fun s75 wx => s75 = .bool (noSizeB sz) ∧ wx = w3)
      case first =>
        by_cases c3 : sz = 3
        · subst c3; go_wp2_with fail; go_meet; exact ⟨rfl, rfl⟩
        · by_cases c5 : sz = 5
          · subst c5; go_wp2_with fail; go_meet; exact ⟨rfl, rfl⟩
          · by_cases c7 : sz = 7
            · subst c7; go_wp2_with fail; go_meet; exact ⟨rfl, rfl⟩
            · go_wp2_with fail; go_meet; exact ⟨by simp [noSizeB, sizeB, bne], rfl⟩
      case rest =>
        obtain ⟨rfl, rfl⟩ := hcut
        go_upto_if 75 with fail
        go_cut [9] (fun s9 wx => (∃ z : Int, s9 = .int .i64 z ∧ (z = 3 ∨ z = 5 ∨ z = 7)) ∧ wx = wc)
        case first =>
          cases c1 : noSizeB sz
          · have c2 : sz = 3 ∨ sz = 5 ∨ sz = 7 := by rw [← sizeB_iff]; simpa [noSizeB] using c1
            go_wp2_with fail
            go_meet
            exact ⟨⟨_, rfl, c2⟩, rfl⟩
          · go_wp2_with fail
            go_meet
            exact ⟨⟨_, rfl, by omega⟩, rfl⟩
        case rest =>
          obtain ⟨⟨z, rfl, hz⟩, rfl⟩ := hcut
          go_upto_if 79 with fail
          go_cut [8] (fun s8 wx => (∃ y : Int, s8 = .int .i64 y ∧ 8 * z ≤ y ∧ y ≤ 3000) ∧ wx = wc)
          case first =>
            go_wp2_with fail
            all_goals go_meet
            all_goals exact ⟨⟨_, rfl, by omega, by omega⟩, rfl⟩
          case rest =>
            obtain ⟨⟨y, rfl, hy1, hy2⟩, rfl⟩ := hcut
            go_upto_if 85 with fail
            go_cut [8] (fun s8 wx => (∃ y : Int, s8 = .int .i64 y ∧ 8 * z ≤ y ∧ y ≤ 1000) ∧ wx = wc)
            case first =>
              go_wp2_with fail
              all_goals go_meet
              all_goals exact ⟨⟨_, rfl, by omega, by omega⟩, rfl⟩
            case rest =>
              obtain ⟨⟨x, rfl, hx1, hx2⟩, rfl⟩ := hcut
              go_upto_region 16 with fail
              go_cut [91] (fun s91 wx => s91 = .bool (outB r) ∧ wx = wc)
              case first =>
                by_cases c1 : r < 0
                · go_wp2_with fail
                  go_meet
                  exact ⟨by simp [outB, c1], rfl⟩
                · go_wp2_with fail
                  go_meet
                  exact ⟨by simp [outB]; omega, rfl⟩
              case rest =>
                obtain ⟨rfl, rfl⟩ := hcut
                go_upto_if 91 with fail
                go_cut [11] (fun s11 wx => (∃ r : Int, s11 = .int .i64 r ∧ 0 ≤ r ∧ r ≤ 1099511627776) ∧ wx = wc)
                case first =>
                  cases c1 : outB r
                  · have c2 : 0 ≤ r ∧ r ≤ 1099511627776 := by simpa [outB] using c1
                    go_wp2_with fail
                    go_meet
                    exact ⟨⟨_, rfl, c2.1, c2.2⟩, rfl⟩
                  · go_wp2_with fail
                    go_meet
                    exact ⟨⟨_, rfl, by omega, by omega⟩, rfl⟩
                case rest =>
                  obtain ⟨⟨r', rfl, hr1, hr2⟩, rfl⟩ := hcut
                  go_upto_region 18 with fail
                  go_cut [97] (fun s97 wx => s97 = .bool (outB q) ∧ wx = wc)
                  case first =>
                    by_cases c1 : q < 0
                    · go_wp2_with fail
                      go_meet
                      exact ⟨by simp [outB, c1], rfl⟩
                    · go_wp2_with fail
                      go_meet
                      exact ⟨by simp [outB]; omega, rfl⟩
                  case rest =>
                    obtain ⟨rfl, rfl⟩ := hcut
                    go_upto_if 97 with fail
                    go_cut [15] (fun s15 wx => (∃ r : Int, s15 = .int .i64 r ∧ 0 ≤ r ∧ r ≤ 1099511627776) ∧ wx = wc)
                    case first =>
                      cases c1 : outB q
                      · have c2 : 0 ≤ q ∧ q ≤ 1099511627776 := by simpa [outB] using c1
                        go_wp2_with fail
                        go_meet
                        exact ⟨⟨_, rfl, c2.1, c2.2⟩, rfl⟩
                      · go_wp2_with fail
                        go_meet
                        exact ⟨⟨_, rfl, by omega, by omega⟩, rfl⟩
                    case rest =>
                      obtain ⟨⟨q', rfl, hq1, hq2⟩, rfl⟩ := hcut
                      clear hl1 hl2
                      obtain ⟨n, rfl⟩ := Int.eq_ofNat_of_zero_le (a := z) (by omega)
                      have HM : Hid (wc = wc) := rfl
                      go_wp2
                      go_loop [16] (fun i => ∃ k : Nat, 1 ≤ k ∧ k ≤ n + 1 ∧ i = .int .i64 k) (fun i => n + 1 - (intOf i).toNat)
                      case atStart => exact ⟨1, by omega, by omega, rfl⟩
                      case round =>
                        obtain ⟨k, hk1, hk2, rfl⟩ := hrel
                        by_cases hkn : (k : Int) ≤ n
                        · go_wp2
                          go_loop [17] (fun i => ∃ k : Nat, 1 ≤ k ∧ k ≤ n + 1 ∧ i = .int .i64 k) (fun i => n + 1 - (intOf i).toNat)
                          case atStart => exact ⟨1, by omega, by omega, rfl⟩
                          case round =>
                            obtain ⟨j, hj1, hj2, rfl⟩ := hrel
                            by_cases hjn : (j : Int) ≤ n
                            · obtain ⟨fa1, fa2, _⟩ := slotEnd_is (el := x) (sz := n) (i := k) (r := r') hx1 hx2 hz (by omega) hkn hr1 hr2
                              obtain ⟨fb1, fb2, _⟩ := slotEnd_is (el := x) (sz := n) (i := j) (r := q') hx1 hx2 hz (by omega) hjn hq1 hq2
                              have sa := slotC_rng x n k r'
                              have sb := slotC_rng x n j q'
                              unfold slotEnd at fa1 fa2 fb1 fb2
                              by_cases hkj0 : k = j
                              · subst hkj0
                                go_wp2_with (first
                                  | (go_at_call 20; refine (slotDraw_any _ _ _ _ _).mono ?_; rintro e w1 ⟨rfl, rfl⟩)
                                  | (go_at_call 18; refine (timeoutOf_any _ _ (by omega) (by omega) _).mono ?_; rintro e w1 ⟨rfl, rfl⟩))
                                go_round
                                case rel => exact ⟨k + 1, by omega, by omega, by go_num⟩
                                case measure => simp [intOf]; omega
                              · have hkj : ¬ (k : Int) = j := by omega
                                have hfar : farB (r' + toutC x (slotC x n k r')) (q' + toutC x (slotC x n j q')) = true := slots_far hx1 hx2 hz (by omega) hkn (by omega) hjn hr1 hr2 hq1 hq2 hkj
                                go_wp2_with (first
                                  | (go_at_call 20; refine (slotDraw_any _ _ _ _ _).mono ?_; rintro e w1 ⟨rfl, rfl⟩)
                                  | (go_at_call 18; refine (timeoutOf_any _ _ (by omega) (by omega) _).mono ?_; rintro e w1 ⟨rfl, rfl⟩)
                                  | (go_at_call 21; refine (far_any _ _ (by omega) (by omega) (by omega) (by omega) _).mono ?_; rintro e w1 ⟨rfl, rfl⟩; rw [hfar]))
                                go_round
                                case rel => exact ⟨j + 1, by omega, by omega, by go_num⟩
                                case measure => simp [intOf]; omega
                            · go_wp2
                              exact ⟨⟨k + 1, by omega, by omega, by go_num⟩, by simp [intOf]; omega⟩
                        · go_wp2
                          go_ret
                          exact ⟨rfl, HB.out⟩
end Go.Proofs.Ytdobgdbceonjkab
