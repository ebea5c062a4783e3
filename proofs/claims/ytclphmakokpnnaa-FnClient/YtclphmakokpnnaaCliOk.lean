/-
  A client's form, both.
-/
import Derived.Test.YtclphmakokpnnaaCliAsk
import Derived.Laws.StructEq
namespace Go.Proofs.Ytclphmakokpnnaa
open Go.RowKit
set_option linter.unusedVariables false
set_option linter.unusedSimpArgs false

/-- the zero command -/
def zcB (ccl csq cop : Int) (ck cv co : ByteArray) : Bool := ccl == 0 && (csq == 0 && (cop == 0 && (ck.toList == [] && (cv.toList == [] && co.toList == []))))
theorem emptyL : (⟨#[]⟩ : ByteArray).toList = [] := by rw [ByteArray.toList_eq]

set_option maxRecDepth 100000 in
set_option maxHeartbeats 2000000 in
theorem eqZero_run (d : Nat) (ccl csq cop : Int) (ck cv co : ByteArray) (w : World) : (Op.equalIn (d + 2) 33 (.agg #[.int .i64 ccl, .int .i64 csq, .int .i64 cop, .string ck, .string cv, .string co]) (.agg #[.int .i64 0, .int .i64 0, .int .i64 0, .string ⟨#[]⟩, .string ⟨#[]⟩, .string ⟨#[]⟩])).run Try.prog w = .ok (zcB ccl csq cop ck cv co) w := by
  have u3 := Try.underlying3
  have u9 := Try.underlying9
  have hS : Try.prog.underlying 33 = some (.struct (Try.prog.fieldsOf 33)) := by kernel_rfl
  rw [run_equalIn_agg w (d + 1) 33 _ _ hS (by kernel_rfl)]
  simp only [Program.fieldsOf, Try.underlying33]
  unfold zcB
  go_simp
  by_cases h1 : ccl = 0 <;> by_cases h2 : csq = 0 <;> by_cases h3 : cop = 0 <;> by_cases h4 : ck.toList = [] <;> by_cases h5 : cv.toList = [] <;> by_cases h6 : co.toList = [] <;> simp [h1, h2, h3, h4, h5, h6]

def openB (id sq bs wt ccl csq cop : Int) (ck cv co : ByteArray) : Bool :=
  if bs = 0 then zcB ccl csq cop ck cv co && wt == 0 else if bs = 1 then callF ccl csq cop ck.size cv.size co.size == 0 && (ccl == id && csq == sq) else false

set_option maxHeartbeats 4000000 in
set_option maxRecDepth 100000 in
theorem openFits_any (id sv rt sq bs tg wt ccl csq cop : Int) (ck cv co : ByteArray) (hk : ck.size ≤ maxLen) (hv : cv.size ≤ maxLen) (ho : co.size ≤ maxLen) (w : World) :
    Calls Try.prog 59 #[.agg #[.int .i64 id, .int .i64 sv, .int .i64 rt, .int .i64 sq, .int .i64 bs, .int .i64 tg, .int .i64 wt, .int .i64 ccl, .int .i64 csq, .int .i64 cop, .string ck, .string cv, .string co]] w fun e w' =>
      e = .returned (.bool (openB id sq bs wt ccl csq cop ck cv co)) ∧ Below w.heap.size w w' := by
  by_cases h0 : bs = 0
  · subst h0
    have e : openB id sq 0 wt ccl csq cop ck cv co = (zcB ccl csq cop ck cv co && wt == 0) := by simp [openB]
    rw [e]
    have hE := fun u => eqZero_run 9998 ccl csq cop ck cv co u
    cases hz : zcB ccl csq cop ck cv co
    · rw [hz] at hE
      go_enter Try.func59, Try.ntmps59
      go_wp2
      go_ret
      exact ⟨rfl, (Below.refl _ _).alloc (Nat.le_refl _) _⟩
    · rw [hz] at hE
      go_enter Try.func59, Try.ntmps59
      go_wp2
      go_ret
      exact ⟨by simp, (Below.refl _ _).alloc (Nat.le_refl _) _⟩
  have n0 : (bs == 0) = false := by simpa using h0
  by_cases h1 : bs = 1
  · subst h1
    have e : openB id sq 1 wt ccl csq cop ck cv co = (callF ccl csq cop ck.size cv.size co.size == 0 && (ccl == id && csq == sq)) := by simp [openB]
    rw [e]
    clear e
    generalize hX : callF ccl csq cop ck.size cv.size co.size = X
    have HX : Hid (callF ccl csq cop ck.size cv.size co.size = X) := hX
    clear hX
    go_enter Try.func59, Try.ntmps59
    go_wp2_with (go_at_call 60; refine (callFault_any _ _ _ _ _ _ hk hv ho _).mono ?_; rintro e w1 ⟨rfl, hb1⟩; rw [HX.out]; have BA := (Blk.new w _ _).below hb1 (by simp); have cA := BA.cell; have fA := BA.free)
    all_goals go_ret
    all_goals refine ⟨?_, ((Below.refl _ _).alloc (Nat.le_refl _) _).trans (hb1.mono (by simp))⟩
    all_goals (clear BA cA fA hb1; go_light; simp_all)
  · have n1 : (bs == 1) = false := by simpa using h1
    have e : openB id sq bs wt ccl csq cop ck cv co = false := by simp [openB, h0, h1]
    rw [e]
    go_enter Try.func59, Try.ntmps59
    go_wp2
    go_ret
    exact ⟨rfl, (Below.refl _ _).alloc (Nat.le_refl _) _⟩

def cliB (id sv rt sq bs tg wt ccl csq cop : Int) (ck cv co : ByteArray) : Bool :=
  inB id 1 8 && (sizB sv && (inB rt 1 1000 && (inB sq 0 1073741824 && (inB tg 1 sv && (inB wt 0 (rt - 1) && openB id sq bs wt ccl csq cop ck cv co)))))

set_option maxHeartbeats 4000000 in
set_option maxRecDepth 100000 in
theorem clientFits_any (id sv rt sq bs tg wt ccl csq cop : Int) (ck cv co : ByteArray) (hk : ck.size ≤ maxLen) (hv : cv.size ≤ maxLen) (ho : co.size ≤ maxLen) (w : World) :
    Calls Try.prog 41 #[.agg #[.int .i64 id, .int .i64 sv, .int .i64 rt, .int .i64 sq, .int .i64 bs, .int .i64 tg, .int .i64 wt, .int .i64 ccl, .int .i64 csq, .int .i64 cop, .string ck, .string cv, .string co]] w fun e w' =>
      e = .returned (.bool (cliB id sv rt sq bs tg wt ccl csq cop ck cv co)) ∧ Below w.heap.size w w' := by
  have g1 : True := trivial
  have g2 : True := trivial
  have g3 : True := trivial
  have g4 : True := trivial
  have A0 : Hid (Below w.heap.size w (w.alloc (.cells #[.int .i64 id, .int .i64 sv, .int .i64 rt, .int .i64 sq, .int .i64 bs, .int .i64 tg, .int .i64 wt, .int .i64 ccl, .int .i64 csq, .int .i64 cop, .string ck, .string cv, .string co] 35))) := (Below.refl _ _).alloc (Nat.le_refl _) _
  cases hid : inB id 1 8
  · rw [show cliB id sv rt sq bs tg wt ccl csq cop ck cv co = false by simp [cliB, hid]]
    go_enter Try.func41, Try.ntmps41
    go_wp2_with (go_at_call 51; refine (within_any id 1 8 _).mono ?_; rintro e w1 ⟨rfl, hw⟩; obtain rfl := hw.symm; rw [hid])
    go_ret
    exact ⟨rfl, A0.out⟩
  cases hsv : sizB sv
  · rw [show cliB id sv rt sq bs tg wt ccl csq cop ck cv co = false by simp [cliB, hsv]]
    go_enter Try.func41, Try.ntmps41
    go_wp2_with (first
      | (go_at_call 51; refine (within_any id 1 8 _).mono ?_; rintro e w1 ⟨rfl, hw⟩; obtain rfl := hw.symm; rw [hid])
      | (go_at_call 58; refine (sizeFitsN_any _ _).mono ?_; rintro e w1 ⟨rfl, hw⟩; obtain rfl := hw.symm; rw [hsv]))
    go_ret
    exact ⟨rfl, A0.out⟩
  cases hrt : inB rt 1 1000
  · rw [show cliB id sv rt sq bs tg wt ccl csq cop ck cv co = false by simp [cliB, hrt]]
    go_enter Try.func41, Try.ntmps41
    go_wp2_with (first
      | (go_at_call 51; clear g1; refine (within_any id 1 8 _).mono ?_; rintro e w1 ⟨rfl, hw⟩; obtain rfl := hw.symm; rw [hid])
      | (go_at_call 58; refine (sizeFitsN_any _ _).mono ?_; rintro e w1 ⟨rfl, hw⟩; obtain rfl := hw.symm; rw [hsv])
      | (go_at_call 51; refine (within_any rt 1 1000 _).mono ?_; rintro e w1 ⟨rfl, hw⟩; obtain rfl := hw.symm; rw [hrt]))
    go_ret
    exact ⟨rfl, A0.out⟩
  have hr := (inB_iff _ _ _).1 hrt
  cases hsq : inB sq 0 1073741824
  · rw [show cliB id sv rt sq bs tg wt ccl csq cop ck cv co = false by simp [cliB, hsq]]
    go_enter Try.func41, Try.ntmps41
    go_wp2_with (first
      | (go_at_call 51; clear g1; refine (within_any id 1 8 _).mono ?_; rintro e w1 ⟨rfl, hw⟩; obtain rfl := hw.symm; rw [hid])
      | (go_at_call 58; refine (sizeFitsN_any _ _).mono ?_; rintro e w1 ⟨rfl, hw⟩; obtain rfl := hw.symm; rw [hsv])
      | (go_at_call 51; clear g2; refine (within_any rt 1 1000 _).mono ?_; rintro e w1 ⟨rfl, hw⟩; obtain rfl := hw.symm; rw [hrt])
      | (go_at_call 51; refine (within_any sq 0 1073741824 _).mono ?_; rintro e w1 ⟨rfl, hw⟩; obtain rfl := hw.symm; rw [hsq]))
    go_ret
    exact ⟨rfl, A0.out⟩
  cases htg : inB tg 1 sv
  · rw [show cliB id sv rt sq bs tg wt ccl csq cop ck cv co = false by simp [cliB, htg]]
    go_enter Try.func41, Try.ntmps41
    go_wp2_with (first
      | (go_at_call 51; clear g1; refine (within_any id 1 8 _).mono ?_; rintro e w1 ⟨rfl, hw⟩; obtain rfl := hw.symm; rw [hid])
      | (go_at_call 58; refine (sizeFitsN_any _ _).mono ?_; rintro e w1 ⟨rfl, hw⟩; obtain rfl := hw.symm; rw [hsv])
      | (go_at_call 51; clear g2; refine (within_any rt 1 1000 _).mono ?_; rintro e w1 ⟨rfl, hw⟩; obtain rfl := hw.symm; rw [hrt])
      | (go_at_call 51; clear g3; refine (within_any sq 0 1073741824 _).mono ?_; rintro e w1 ⟨rfl, hw⟩; obtain rfl := hw.symm; rw [hsq])
      | (go_at_call 51; refine (within_any tg 1 sv _).mono ?_; rintro e w1 ⟨rfl, hw⟩; obtain rfl := hw.symm; rw [htg]))
    go_ret
    exact ⟨rfl, A0.out⟩
  cases hwt : inB wt 0 (rt - 1)
  · rw [show cliB id sv rt sq bs tg wt ccl csq cop ck cv co = false by simp [cliB, hwt]]
    go_enter Try.func41, Try.ntmps41
    go_wp2_with (first
      | (go_at_call 51; clear g1; refine (within_any id 1 8 _).mono ?_; rintro e w1 ⟨rfl, hw⟩; obtain rfl := hw.symm; rw [hid])
      | (go_at_call 58; refine (sizeFitsN_any _ _).mono ?_; rintro e w1 ⟨rfl, hw⟩; obtain rfl := hw.symm; rw [hsv])
      | (go_at_call 51; clear g2; refine (within_any rt 1 1000 _).mono ?_; rintro e w1 ⟨rfl, hw⟩; obtain rfl := hw.symm; rw [hrt])
      | (go_at_call 51; clear g3; refine (within_any sq 0 1073741824 _).mono ?_; rintro e w1 ⟨rfl, hw⟩; obtain rfl := hw.symm; rw [hsq])
      | (go_at_call 51; clear g4; refine (within_any tg 1 sv _).mono ?_; rintro e w1 ⟨rfl, hw⟩; obtain rfl := hw.symm; rw [htg])
      | (go_at_call 51; refine (within_any wt 0 (rt - 1) _).mono ?_; rintro e w1 ⟨rfl, hw⟩; obtain rfl := hw.symm; rw [hwt]))
    go_ret
    exact ⟨rfl, A0.out⟩
  rw [show cliB id sv rt sq bs tg wt ccl csq cop ck cv co = openB id sq bs wt ccl csq cop ck cv co by simp [cliB, hid, hsv, hrt, hsq, htg, hwt]]
  go_enter Try.func41, Try.ntmps41
  go_wp2_with (first
    | (go_at_call 51; clear g1; refine (within_any id 1 8 _).mono ?_; rintro e w1 ⟨rfl, hw⟩; obtain rfl := hw.symm; rw [hid])
    | (go_at_call 58; refine (sizeFitsN_any _ _).mono ?_; rintro e w1 ⟨rfl, hw⟩; obtain rfl := hw.symm; rw [hsv])
    | (go_at_call 51; clear g2; refine (within_any rt 1 1000 _).mono ?_; rintro e w1 ⟨rfl, hw⟩; obtain rfl := hw.symm; rw [hrt])
    | (go_at_call 51; clear g3; refine (within_any sq 0 1073741824 _).mono ?_; rintro e w1 ⟨rfl, hw⟩; obtain rfl := hw.symm; rw [hsq])
    | (go_at_call 51; clear g4; refine (within_any tg 1 sv _).mono ?_; rintro e w1 ⟨rfl, hw⟩; obtain rfl := hw.symm; rw [htg])
    | (go_at_call 51; refine (within_any wt 0 (rt - 1) _).mono ?_; rintro e w1 ⟨rfl, hw⟩; obtain rfl := hw.symm; rw [hwt])
    | (go_at_call 59; refine (openFits_any _ _ _ _ _ _ _ _ _ _ _ _ _ hk hv ho _).mono ?_; rintro e w1 ⟨rfl, hb1⟩))
  go_ret
  exact ⟨rfl, A0.out.trans (hb1.mono (by simp))⟩
end Go.Proofs.Ytclphmakokpnnaa
