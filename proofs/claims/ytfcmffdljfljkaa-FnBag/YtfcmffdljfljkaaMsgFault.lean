/-
  MsgFault, both.
-/
import Derived.Test.YtfcmffdljfljkaaMsgEnts
import Derived.Test.YtfcmffdljfljkaaGround
namespace Go.Proofs.Ytfcmffdljfljkaa
open Go.RowKit
set_option linter.unusedVariables false

/-- the fault of a message -/
def msgF (ki fr tq tm li lt cm ok hi : Int) (l : List Ent) : Int :=
  if inB ki 1 6 = false then 1 else if endsB fr tq = false then 2 else if inB tm 1 1073741824 = false then 3
  else if posB ki tm li lt = false then 4 else if marksB ki cm ok hi = false then 5 else if entsB ki li lt tm l = false then 6 else 0

theorem posB_li {ki tm li lt : Int} (h : posB ki tm li lt = true) : 0 ≤ li ∧ li ≤ 4096 := by
  unfold posB at h
  split at h
  · simp [inB] at h; omega
  · split at h
    · simp [inB] at h; omega
    · simp at h; omega

set_option maxHeartbeats 4000000 in
set_option maxRecDepth 100000 in
theorem implMsgFault_any (ki fr tq tm li lt cm ok hi : Int) (ev : Value) (l : List Ent) (w : World) (hv : Es w ev l) (hll : l.length ≤ 1048576) :
    Calls Try.prog 161 #[.agg #[.int .i64 ki, .int .i64 fr, .int .i64 tq, .int .i64 tm, .int .i64 li, .int .i64 lt, .int .i64 cm, .int .i64 ok, .int .i64 hi, ev]] w fun r w' => r = .returned (.int .i64 (msgF ki fr tq tm li lt cm ok hi l)) ∧ Below w.heap.size w w' := by
  have hV : Hid (Es w ev l) := hv
  obtain ⟨hl, hf, a, cap, rfl, hc⟩ := hv
  clear hc
  have hB : Below w.heap.size w (w.alloc (.cells #[.int .i64 ki, .int .i64 fr, .int .i64 tq, .int .i64 tm, .int .i64 li, .int .i64 lt, .int .i64 cm, .int .i64 ok, .int .i64 hi, .slice a l.length cap] 52)) := (Below.refl _ _).alloc (Nat.le_refl _) _
  have hz : w.heap.size < (w.alloc (.cells #[.int .i64 ki, .int .i64 fr, .int .i64 tq, .int .i64 tm, .int .i64 li, .int .i64 lt, .int .i64 cm, .int .i64 ok, .int .i64 hi, .slice a l.length cap] 52)).heap.size := by simp
  go_enter Try.func161, Try.ntmps161
  go_wp2_with (first
    | (go_at_call 48; refine (within_any _ _ _ _).mono ?_; rintro r w' ⟨rfl, rfl⟩)
    | (go_at_call 164; refine (endsFit_any _ _ _ _ _ _ _ _ _ _ _).mono ?_; rintro r w1 ⟨rfl, hb⟩; obtain ⟨hc1, hf1⟩ := bcell hb; replace hB := hB.trans (hb.mono (by omega)); have hz := Nat.lt_of_lt_of_le hz hb.size)
    | (go_at_call 165; refine (positionFits_any _ _ _ _ _ _ _ _ _ _ _).mono ?_; rintro r w2 ⟨rfl, hb⟩; obtain ⟨hc2, hf2⟩ := bcell hb; replace hB := hB.trans (hb.mono (by omega)); have hz := Nat.lt_of_lt_of_le hz hb.size)
    | (go_at_call 166; refine (marksFit_any _ _ _ _ _ _ _ _ _ _ _).mono ?_; rintro r w3 ⟨rfl, hb⟩; obtain ⟨hc3, hf3⟩ := bcell hb; replace hB := hB.trans (hb.mono (by omega)); have hz := Nat.lt_of_lt_of_le hz hb.size)
    | (go_at_call 167; have hp : posB ki tm li lt = true := (by have : (!posB ki tm li lt) = false := (by assumption); simpa using this); obtain ⟨p1, p2⟩ := posB_li hp; refine (entriesFit_any _ _ _ _ _ _ _ _ _ _ l _ (hV.out.below hB) p1 (by omega) hll).mono ?_; rintro r w4 ⟨rfl, hb⟩; replace hB := hB.trans (hb.mono (by omega))))
  all_goals go_ret
  all_goals refine ⟨ret_int ?_, hB⟩
  all_goals (clear hB hV; go_light; simp_all [msgF])
end Go.Proofs.Ytfcmffdljfljkaa
