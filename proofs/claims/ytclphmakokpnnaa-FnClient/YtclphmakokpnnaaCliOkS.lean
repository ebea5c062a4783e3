/-
  A client's form: spec.
-/
import Derived.Test.YtclphmakokpnnaaCliOk
namespace Go.Proofs.Ytclphmakokpnnaa
open Go.RowKit
set_option linter.unusedVariables false
set_option linter.unusedSimpArgs false

theorem openB_spec (id sq bs wt ccl csq cop : Int) (ck cv co : ByteArray) (hid : inB id 1 8 = true) :
    openB id sq bs wt ccl csq cop ck cv co = if bs = 0 then wt == 0 && zcB ccl csq cop ck cv co else bs == 1 && (decide (1 ≤ sq) && (cmdF ccl csq cop ck.size cv.size co.size == 0 && (ccl == id && csq == sq))) := by
  have h := (inB_iff _ _ _).1 hid
  unfold openB
  by_cases h0 : bs = 0
  · simp only [h0, if_true]; rw [Bool.and_comm]
  simp only [h0, if_false]
  by_cases h1 : bs = 1
  · simp only [h1, if_true, beq_self_eq_true, Bool.true_and]
    rw [Bool.eq_iff_iff]
    simp only [Bool.and_eq_true, beq_iff_eq, decide_eq_true_eq]
    constructor
    · rintro ⟨a, b, c⟩
      subst b c
      by_cases hc : cmdF ccl csq cop ck.size cv.size co.size = 0
      · by_cases hop : cop = 0
        · simp [callF, hc, hop] at a
          subst hop; simp [hc] at a
        · refine ⟨?_, hc, rfl, rfl⟩
          unfold cmdF at hc
          split at hc
          · omega
          · split at hc
            · omega
            · split at hc <;> omega
      · simp [callF, hc] at a
    · rintro ⟨a, b, c, d⟩
      subst c d
      refine ⟨?_, rfl, rfl⟩
      by_cases hop : cop = 0
      · subst hop
        exfalso
        unfold cmdF at b
        rw [if_neg (by omega), if_pos rfl, if_pos (by omega)] at b
        omega
      · simp [callF, b, hop]
  · simp [h1]

set_option maxHeartbeats 8000000 in
set_option maxRecDepth 100000 in
theorem l6clientOk_any (id sv rt sq bs tg wt ccl csq cop : Int) (ck cv co : ByteArray) (hk : ck.size ≤ maxLen) (hv : cv.size ≤ maxLen) (ho : co.size ≤ maxLen) (w : World) :
    Calls Try.prog 37 #[.agg #[.int .i64 id, .int .i64 sv, .int .i64 rt, .int .i64 sq, .int .i64 bs, .int .i64 tg, .int .i64 wt, .int .i64 ccl, .int .i64 csq, .int .i64 cop, .string ck, .string cv, .string co]] w fun e w' => e = .returned (.bool (cliB id sv rt sq bs tg wt ccl csq cop ck cv co)) ∧ Below w.heap.size w w' := by
  have A0 : Hid (Below w.heap.size w (w.alloc (.cells #[.int .i64 id, .int .i64 sv, .int .i64 rt, .int .i64 sq, .int .i64 bs, .int .i64 tg, .int .i64 wt, .int .i64 ccl, .int .i64 csq, .int .i64 cop, .string ck, .string cv, .string co] 35))) := (Below.refl _ _).alloc (Nat.le_refl _) _
  have g1 : True := trivial
  have g2 : True := trivial
  have g3 : True := trivial
  have g4 : True := trivial
  have g5 : True := trivial
  cases hid : inB id 1 8
  · rw [show cliB id sv rt sq bs tg wt ccl csq cop ck cv co = false by simp [cliB, hid]]
    go_enter Try.func37, Try.ntmps37
    go_wp2_with (first
      | (go_at_call 50; refine (l1in_any id 1 8 _).mono ?_; rintro e w1 ⟨rfl, hw⟩; obtain rfl := hw.symm; rw [hid]))
    go_ret
    exact ⟨rfl, A0.out⟩
  cases hsv : sizB sv
  · rw [show cliB id sv rt sq bs tg wt ccl csq cop ck cv co = false by simp [cliB, hsv]]
    go_enter Try.func37, Try.ntmps37
    go_wp2_with (first
      | (go_at_call 50; clear g1; refine (l1in_any id 1 8 _).mono ?_; rintro e w1 ⟨rfl, hw⟩; obtain rfl := hw.symm; rw [hid])
      | (go_at_call 55; refine (l3size_any _ _).mono ?_; rintro e w1 ⟨rfl, hw⟩; obtain rfl := hw.symm; rw [hsv]))
    go_ret
    exact ⟨rfl, A0.out⟩
  cases hrt : inB rt 1 1000
  · rw [show cliB id sv rt sq bs tg wt ccl csq cop ck cv co = false by simp [cliB, hrt]]
    go_enter Try.func37, Try.ntmps37
    go_wp2_with (first
      | (go_at_call 50; clear g1; refine (l1in_any id 1 8 _).mono ?_; rintro e w1 ⟨rfl, hw⟩; obtain rfl := hw.symm; rw [hid])
      | (go_at_call 55; refine (l3size_any _ _).mono ?_; rintro e w1 ⟨rfl, hw⟩; obtain rfl := hw.symm; rw [hsv])
      | (go_at_call 50; refine (l1in_any rt 1 1000 _).mono ?_; rintro e w1 ⟨rfl, hw⟩; obtain rfl := hw.symm; rw [hrt]))
    go_ret
    exact ⟨rfl, A0.out⟩
  have hr := (inB_iff _ _ _).1 hrt
  cases hsq : inB sq 0 1073741824
  · rw [show cliB id sv rt sq bs tg wt ccl csq cop ck cv co = false by simp [cliB, hsq]]
    go_enter Try.func37, Try.ntmps37
    go_wp2_with (first
      | (go_at_call 50; clear g1; refine (l1in_any id 1 8 _).mono ?_; rintro e w1 ⟨rfl, hw⟩; obtain rfl := hw.symm; rw [hid])
      | (go_at_call 55; refine (l3size_any _ _).mono ?_; rintro e w1 ⟨rfl, hw⟩; obtain rfl := hw.symm; rw [hsv])
      | (go_at_call 50; clear g2; refine (l1in_any rt 1 1000 _).mono ?_; rintro e w1 ⟨rfl, hw⟩; obtain rfl := hw.symm; rw [hrt])
      | (go_at_call 50; refine (l1in_any sq 0 1073741824 _).mono ?_; rintro e w1 ⟨rfl, hw⟩; obtain rfl := hw.symm; rw [hsq]))
    go_ret
    exact ⟨rfl, A0.out⟩
  cases htg : inB tg 1 sv
  · rw [show cliB id sv rt sq bs tg wt ccl csq cop ck cv co = false by simp [cliB, htg]]
    go_enter Try.func37, Try.ntmps37
    go_wp2_with (first
      | (go_at_call 50; clear g1; refine (l1in_any id 1 8 _).mono ?_; rintro e w1 ⟨rfl, hw⟩; obtain rfl := hw.symm; rw [hid])
      | (go_at_call 55; refine (l3size_any _ _).mono ?_; rintro e w1 ⟨rfl, hw⟩; obtain rfl := hw.symm; rw [hsv])
      | (go_at_call 50; clear g2; refine (l1in_any rt 1 1000 _).mono ?_; rintro e w1 ⟨rfl, hw⟩; obtain rfl := hw.symm; rw [hrt])
      | (go_at_call 50; clear g3; refine (l1in_any sq 0 1073741824 _).mono ?_; rintro e w1 ⟨rfl, hw⟩; obtain rfl := hw.symm; rw [hsq])
      | (go_at_call 50; refine (l1in_any tg 1 sv _).mono ?_; rintro e w1 ⟨rfl, hw⟩; obtain rfl := hw.symm; rw [htg]))
    go_ret
    exact ⟨rfl, A0.out⟩
  cases hwt : inB wt 0 (rt - 1)
  · rw [show cliB id sv rt sq bs tg wt ccl csq cop ck cv co = false by simp [cliB, hwt]]
    go_enter Try.func37, Try.ntmps37
    go_wp2_with (first
      | (go_at_call 50; clear g1; refine (l1in_any id 1 8 _).mono ?_; rintro e w1 ⟨rfl, hw⟩; obtain rfl := hw.symm; rw [hid])
      | (go_at_call 55; refine (l3size_any _ _).mono ?_; rintro e w1 ⟨rfl, hw⟩; obtain rfl := hw.symm; rw [hsv])
      | (go_at_call 50; clear g2; refine (l1in_any rt 1 1000 _).mono ?_; rintro e w1 ⟨rfl, hw⟩; obtain rfl := hw.symm; rw [hrt])
      | (go_at_call 50; clear g3; refine (l1in_any sq 0 1073741824 _).mono ?_; rintro e w1 ⟨rfl, hw⟩; obtain rfl := hw.symm; rw [hsq])
      | (go_at_call 50; clear g4; refine (l1in_any tg 1 sv _).mono ?_; rintro e w1 ⟨rfl, hw⟩; obtain rfl := hw.symm; rw [htg])
      | (go_at_call 50; refine (l1in_any wt 0 (rt - 1) _).mono ?_; rintro e w1 ⟨rfl, hw⟩; obtain rfl := hw.symm; rw [hwt]))
    go_ret
    exact ⟨rfl, A0.out⟩
  rw [show cliB id sv rt sq bs tg wt ccl csq cop ck cv co = openB id sq bs wt ccl csq cop ck cv co by simp [cliB, hid, hsv, hrt, hsq, htg, hwt], openB_spec _ _ _ _ _ _ _ _ _ _ hid]
  by_cases h0 : bs = 0
  · subst h0
    rw [if_pos rfl]
    have hE := fun u => eqZero_run 9998 ccl csq cop ck cv co u
    by_cases h1 : wt = 0
    · subst h1
      cases hz : zcB ccl csq cop ck cv co
      · rw [hz] at hE
        go_enter Try.func37, Try.ntmps37
        go_wp2_with (first
      | (go_at_call 50; clear g1; refine (l1in_any id 1 8 _).mono ?_; rintro e w1 ⟨rfl, hw⟩; obtain rfl := hw.symm; rw [hid])
      | (go_at_call 55; refine (l3size_any _ _).mono ?_; rintro e w1 ⟨rfl, hw⟩; obtain rfl := hw.symm; rw [hsv])
      | (go_at_call 50; clear g2; refine (l1in_any rt 1 1000 _).mono ?_; rintro e w1 ⟨rfl, hw⟩; obtain rfl := hw.symm; rw [hrt])
      | (go_at_call 50; clear g3; refine (l1in_any sq 0 1073741824 _).mono ?_; rintro e w1 ⟨rfl, hw⟩; obtain rfl := hw.symm; rw [hsq])
      | (go_at_call 50; clear g4; refine (l1in_any tg 1 sv _).mono ?_; rintro e w1 ⟨rfl, hw⟩; obtain rfl := hw.symm; rw [htg])
      | (go_at_call 50; refine (l1in_any 0 0 (rt - 1) _).mono ?_; rintro e w1 ⟨rfl, hw⟩; obtain rfl := hw.symm; rw [hwt]))
        go_ret
        exact ⟨rfl, A0.out⟩
      · rw [hz] at hE
        go_enter Try.func37, Try.ntmps37
        go_wp2_with (first
      | (go_at_call 50; clear g1; refine (l1in_any id 1 8 _).mono ?_; rintro e w1 ⟨rfl, hw⟩; obtain rfl := hw.symm; rw [hid])
      | (go_at_call 55; refine (l3size_any _ _).mono ?_; rintro e w1 ⟨rfl, hw⟩; obtain rfl := hw.symm; rw [hsv])
      | (go_at_call 50; clear g2; refine (l1in_any rt 1 1000 _).mono ?_; rintro e w1 ⟨rfl, hw⟩; obtain rfl := hw.symm; rw [hrt])
      | (go_at_call 50; clear g3; refine (l1in_any sq 0 1073741824 _).mono ?_; rintro e w1 ⟨rfl, hw⟩; obtain rfl := hw.symm; rw [hsq])
      | (go_at_call 50; clear g4; refine (l1in_any tg 1 sv _).mono ?_; rintro e w1 ⟨rfl, hw⟩; obtain rfl := hw.symm; rw [htg])
      | (go_at_call 50; refine (l1in_any 0 0 (rt - 1) _).mono ?_; rintro e w1 ⟨rfl, hw⟩; obtain rfl := hw.symm; rw [hwt]))
        go_ret
        exact ⟨rfl, A0.out⟩
    · have n1 : (wt == 0) = false := by simpa using h1
      go_enter Try.func37, Try.ntmps37
      go_wp2_with (first
      | (go_at_call 50; clear g1; refine (l1in_any id 1 8 _).mono ?_; rintro e w1 ⟨rfl, hw⟩; obtain rfl := hw.symm; rw [hid])
      | (go_at_call 55; refine (l3size_any _ _).mono ?_; rintro e w1 ⟨rfl, hw⟩; obtain rfl := hw.symm; rw [hsv])
      | (go_at_call 50; clear g2; refine (l1in_any rt 1 1000 _).mono ?_; rintro e w1 ⟨rfl, hw⟩; obtain rfl := hw.symm; rw [hrt])
      | (go_at_call 50; clear g3; refine (l1in_any sq 0 1073741824 _).mono ?_; rintro e w1 ⟨rfl, hw⟩; obtain rfl := hw.symm; rw [hsq])
      | (go_at_call 50; clear g4; refine (l1in_any tg 1 sv _).mono ?_; rintro e w1 ⟨rfl, hw⟩; obtain rfl := hw.symm; rw [htg])
      | (go_at_call 50; refine (l1in_any wt 0 (rt - 1) _).mono ?_; rintro e w1 ⟨rfl, hw⟩; obtain rfl := hw.symm; rw [hwt]))
      go_ret
      exact ⟨by simp [n1], A0.out⟩
  have n0 : (bs == 0) = false := by simpa using h0
  rw [if_neg h0]
  clear h0
  by_cases h1 : bs = 1
  case neg =>
    have n1 : (bs == 1) = false := by simpa using h1
    clear h1
    rw [show (bs == 1 && (decide (1 ≤ sq) && (cmdF ccl csq cop ck.size cv.size co.size == 0 && (ccl == id && csq == sq)))) = false by simp [n1]]
    go_enter Try.func37, Try.ntmps37
    go_wp2_with (first
      | (go_at_call 50; clear g1; refine (l1in_any id 1 8 _).mono ?_; rintro e w1 ⟨rfl, hw⟩; obtain rfl := hw.symm; rw [hid])
      | (go_at_call 55; refine (l3size_any _ _).mono ?_; rintro e w1 ⟨rfl, hw⟩; obtain rfl := hw.symm; rw [hsv])
      | (go_at_call 50; clear g2; refine (l1in_any rt 1 1000 _).mono ?_; rintro e w1 ⟨rfl, hw⟩; obtain rfl := hw.symm; rw [hrt])
      | (go_at_call 50; clear g3; refine (l1in_any sq 0 1073741824 _).mono ?_; rintro e w1 ⟨rfl, hw⟩; obtain rfl := hw.symm; rw [hsq])
      | (go_at_call 50; clear g4; refine (l1in_any tg 1 sv _).mono ?_; rintro e w1 ⟨rfl, hw⟩; obtain rfl := hw.symm; rw [htg])
      | (go_at_call 50; refine (l1in_any wt 0 (rt - 1) _).mono ?_; rintro e w1 ⟨rfl, hw⟩; obtain rfl := hw.symm; rw [hwt]))
    go_ret
    exact ⟨rfl, A0.out⟩
  subst h1
  clear n0
  by_cases h2 : 1 ≤ sq
  case neg =>
    rw [show ((1 : Int) == 1 && (decide (1 ≤ sq) && (cmdF ccl csq cop ck.size cv.size co.size == 0 && (ccl == id && csq == sq)))) = false by simp [h2]]
    go_enter Try.func37, Try.ntmps37
    go_wp2_with (first
      | (go_at_call 50; clear g1; refine (l1in_any id 1 8 _).mono ?_; rintro e w1 ⟨rfl, hw⟩; obtain rfl := hw.symm; rw [hid])
      | (go_at_call 55; refine (l3size_any _ _).mono ?_; rintro e w1 ⟨rfl, hw⟩; obtain rfl := hw.symm; rw [hsv])
      | (go_at_call 50; clear g2; refine (l1in_any rt 1 1000 _).mono ?_; rintro e w1 ⟨rfl, hw⟩; obtain rfl := hw.symm; rw [hrt])
      | (go_at_call 50; clear g3; refine (l1in_any sq 0 1073741824 _).mono ?_; rintro e w1 ⟨rfl, hw⟩; obtain rfl := hw.symm; rw [hsq])
      | (go_at_call 50; clear g4; refine (l1in_any tg 1 sv _).mono ?_; rintro e w1 ⟨rfl, hw⟩; obtain rfl := hw.symm; rw [htg])
      | (go_at_call 50; refine (l1in_any wt 0 (rt - 1) _).mono ?_; rintro e w1 ⟨rfl, hw⟩; obtain rfl := hw.symm; rw [hwt]))
    go_ret
    exact ⟨by simp [h2], A0.out⟩
  generalize hX : cmdF ccl csq cop ck.size cv.size co.size = X
  have HX : Hid (cmdF ccl csq cop ck.size cv.size co.size = X) := hX
  clear hX
  rw [show ((1 : Int) == 1 && (decide (1 ≤ sq) && (X == 0 && (ccl == id && csq == sq)))) = (X == 0 && (ccl == id && csq == sq)) by simp [h2]]
  go_enter Try.func37, Try.ntmps37
  go_wp2_with (first
      | (go_at_call 50; clear g1; refine (l1in_any id 1 8 _).mono ?_; rintro e w1 ⟨rfl, hw⟩; obtain rfl := hw.symm; rw [hid])
      | (go_at_call 55; refine (l3size_any _ _).mono ?_; rintro e w1 ⟨rfl, hw⟩; obtain rfl := hw.symm; rw [hsv])
      | (go_at_call 50; clear g2; refine (l1in_any rt 1 1000 _).mono ?_; rintro e w1 ⟨rfl, hw⟩; obtain rfl := hw.symm; rw [hrt])
      | (go_at_call 50; clear g3; refine (l1in_any sq 0 1073741824 _).mono ?_; rintro e w1 ⟨rfl, hw⟩; obtain rfl := hw.symm; rw [hsq])
      | (go_at_call 50; clear g4; refine (l1in_any tg 1 sv _).mono ?_; rintro e w1 ⟨rfl, hw⟩; obtain rfl := hw.symm; rw [htg])
      | (go_at_call 50; refine (l1in_any wt 0 (rt - 1) _).mono ?_; rintro e w1 ⟨rfl, hw⟩; obtain rfl := hw.symm; rw [hwt])
      | (go_at_call 56; refine (specCmdFault_any _ _ _ _ _ _ hk hv ho _).mono ?_; rintro e w1 ⟨rfl, hb1⟩; rw [HX.out]; have BA := (Blk.new w _ _).below hb1 (by simp); have cA := BA.cell; have fA := BA.free))
  all_goals go_ret
  all_goals refine ⟨?_, A0.out.trans (hb1.mono (by simp))⟩
  all_goals (clear BA cA fA hb1 HX A0; go_light; simp_all)
end Go.Proofs.Ytclphmakokpnnaa
