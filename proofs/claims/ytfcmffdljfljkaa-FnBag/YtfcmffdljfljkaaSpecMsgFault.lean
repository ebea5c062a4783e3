/-
  spec.MsgFault at the kinds 1 tq 4.
-/
import Derived.Test.YtfcmffdljfljkaaMsgFault
namespace Go.Proofs.Ytfcmffdljfljkaa
open Go.RowKit
set_option linter.unusedVariables false
set_option linter.unusedSimpArgs false

theorem inB_zero (x : Int) : inB x 0 0 = (x == 0) := by
  rw [Bool.eq_iff_iff, inB_iff]
  simp
  omega
theorem beq_swap (a b : Bool) : (a == b) = (b == a) := by cases a <;> cases b <;> rfl

set_option maxHeartbeats 8000000 in
set_option maxRecDepth 100000 in
theorem specMsgFault_1 (fr tq tm li lt cm ok hi : Int) (ev : Value) (l : List Ent) (w : World) (hv : Es w ev l) (hll : l.length ≤ 1048576) :
    Calls Try.prog 61 #[.agg #[.int .i64 1, .int .i64 fr, .int .i64 tq, .int .i64 tm, .int .i64 li, .int .i64 lt, .int .i64 cm, .int .i64 ok, .int .i64 hi, ev]] w fun r w' => r = .returned (.int .i64 (msgF 1 fr tq tm li lt cm ok hi l)) ∧ Below w.heap.size w w' := by
  have hV : Hid (Es w ev l) := hv
  obtain ⟨hl, hf, a, cap, rfl, hc⟩ := hv
  clear hc hf
  have h16 : inB 1 1 6 = true := rfl
  have hB : Below w.heap.size w (w.alloc (.cells #[.int .i64 1, .int .i64 fr, .int .i64 tq, .int .i64 tm, .int .i64 li, .int .i64 lt, .int .i64 cm, .int .i64 ok, .int .i64 hi, .slice a l.length cap] 52)) := (Below.refl _ _).alloc (Nat.le_refl _) _
  go_enter Try.func61, Try.ntmps61
  go_wp2_with (first
    | (go_at_call 42; refine (l1in_any _ _ _ _).mono ?_; rintro r w' ⟨rfl, rfl⟩))
  all_goals go_ret
  all_goals refine ⟨ret_int ?_, by first | exact hB | exact (Below.refl _ _).alloc (Nat.le_refl _) _⟩
  all_goals (clear hB hV; go_light)
  all_goals (simp_all [msgF, endsB, posB, marksB, entsB, inB_zero, beq_swap (lt == 0) (li == 0)])

set_option maxHeartbeats 8000000 in
set_option maxRecDepth 100000 in
theorem specMsgFault_3 (fr tq tm li lt cm ok hi : Int) (ev : Value) (l : List Ent) (w : World) (hv : Es w ev l) (hll : l.length ≤ 1048576) :
    Calls Try.prog 61 #[.agg #[.int .i64 3, .int .i64 fr, .int .i64 tq, .int .i64 tm, .int .i64 li, .int .i64 lt, .int .i64 cm, .int .i64 ok, .int .i64 hi, ev]] w fun r w' => r = .returned (.int .i64 (msgF 3 fr tq tm li lt cm ok hi l)) ∧ Below w.heap.size w w' := by
  have hV : Hid (Es w ev l) := hv
  obtain ⟨hl, hf, a, cap, rfl, hc⟩ := hv
  clear hc hf
  have h16 : inB 3 1 6 = true := rfl
  have hB : Below w.heap.size w (w.alloc (.cells #[.int .i64 3, .int .i64 fr, .int .i64 tq, .int .i64 tm, .int .i64 li, .int .i64 lt, .int .i64 cm, .int .i64 ok, .int .i64 hi, .slice a l.length cap] 52)) := (Below.refl _ _).alloc (Nat.le_refl _) _
  go_enter Try.func61, Try.ntmps61
  go_wp2_with (first
    | (go_at_call 42; refine (l1in_any _ _ _ _).mono ?_; rintro r w' ⟨rfl, rfl⟩))
  all_goals go_ret
  all_goals refine ⟨ret_int ?_, by first | exact hB | exact (Below.refl _ _).alloc (Nat.le_refl _) _⟩
  all_goals (clear hB hV; go_light)
  all_goals (simp_all [msgF, endsB, posB, marksB, entsB, inB_zero, beq_swap (lt == 0) (li == 0)])

set_option maxHeartbeats 8000000 in
set_option maxRecDepth 100000 in
theorem specMsgFault_2 (fr tq tm li lt cm ok hi : Int) (ev : Value) (l : List Ent) (w : World) (hv : Es w ev l) (hll : l.length ≤ 1048576) :
    Calls Try.prog 61 #[.agg #[.int .i64 2, .int .i64 fr, .int .i64 tq, .int .i64 tm, .int .i64 li, .int .i64 lt, .int .i64 cm, .int .i64 ok, .int .i64 hi, ev]] w fun r w' => r = .returned (.int .i64 (msgF 2 fr tq tm li lt cm ok hi l)) ∧ Below w.heap.size w w' := by
  have hV : Hid (Es w ev l) := hv
  obtain ⟨hl, hf, a, cap, rfl, hc⟩ := hv
  clear hc hf
  have h16 : inB 2 1 6 = true := rfl
  have hB : Below w.heap.size w (w.alloc (.cells #[.int .i64 2, .int .i64 fr, .int .i64 tq, .int .i64 tm, .int .i64 li, .int .i64 lt, .int .i64 cm, .int .i64 ok, .int .i64 hi, .slice a l.length cap] 52)) := (Below.refl _ _).alloc (Nat.le_refl _) _
  go_enter Try.func61, Try.ntmps61
  go_wp2_with (first
    | (go_at_call 42; refine (l1in_any _ _ _ _).mono ?_; rintro r w' ⟨rfl, rfl⟩))
  all_goals go_ret
  all_goals refine ⟨ret_int ?_, by first | exact hB | exact (Below.refl _ _).alloc (Nat.le_refl _) _⟩
  all_goals (clear hB hV; go_light)
  all_goals (simp_all [msgF, endsB, posB, marksB, entsB, inB_zero])
  all_goals (intro h0; exfalso; omega)

set_option maxHeartbeats 8000000 in
set_option maxRecDepth 100000 in
theorem specMsgFault_4 (fr tq tm li lt cm ok hi : Int) (ev : Value) (l : List Ent) (w : World) (hv : Es w ev l) (hll : l.length ≤ 1048576) :
    Calls Try.prog 61 #[.agg #[.int .i64 4, .int .i64 fr, .int .i64 tq, .int .i64 tm, .int .i64 li, .int .i64 lt, .int .i64 cm, .int .i64 ok, .int .i64 hi, ev]] w fun r w' => r = .returned (.int .i64 (msgF 4 fr tq tm li lt cm ok hi l)) ∧ Below w.heap.size w w' := by
  have hV : Hid (Es w ev l) := hv
  obtain ⟨hl, hf, a, cap, rfl, hc⟩ := hv
  clear hc hf
  have h16 : inB 4 1 6 = true := rfl
  have hB : Below w.heap.size w (w.alloc (.cells #[.int .i64 4, .int .i64 fr, .int .i64 tq, .int .i64 tm, .int .i64 li, .int .i64 lt, .int .i64 cm, .int .i64 ok, .int .i64 hi, .slice a l.length cap] 52)) := (Below.refl _ _).alloc (Nat.le_refl _) _
  go_enter Try.func61, Try.ntmps61
  go_wp2_with (first
    | (go_at_call 42; refine (l1in_any _ _ _ _).mono ?_; rintro r w' ⟨rfl, rfl⟩))
  all_goals go_ret
  all_goals refine ⟨ret_int ?_, by first | exact hB | exact (Below.refl _ _).alloc (Nat.le_refl _) _⟩
  all_goals (clear hB hV; go_light)
  all_goals (simp_all [msgF, endsB, posB, marksB, entsB, inB_zero])
  all_goals (intro h0; exfalso; omega)

end Go.Proofs.Ytfcmffdljfljkaa
