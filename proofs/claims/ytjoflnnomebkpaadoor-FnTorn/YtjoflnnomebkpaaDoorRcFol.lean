/-
  The changes of impl: follows.
-/
import Derived.Test.YtjoflnnomebkpaaDoorGround
import Derived.Deep.QuietTactic
namespace Go.Proofs.YtjoflnnomebkpaaDoor
open Go.RowKit
set_option linter.unusedVariables false
set_option linter.unusedSimpArgs false

def folR (t v tm vo : Int) : Bool := decide (t < tm) || (tm == t && (v == 0 || v == vo))
set_option maxHeartbeats 2000000 in
set_option maxRecDepth 100000 in
theorem hardFollows_any (t v t' v' : Int) (a : Option Addr) (n cap : Nat) (w : World) :
    Calls Tryd.prog 59 #[.agg #[.int .i64 t', .int .i64 v'], .agg #[.int .i64 t, .int .i64 v, .slice a n cap]] w fun e w' => e = .returned (.bool (folR t v t' v')) ∧ Below w.heap.size w w' := by
  have hb0 : Hid (Below w.heap.size w ((w.alloc (.cells #[.int .i64 t', .int .i64 v'] 97)).alloc (.cells #[.int .i64 t, .int .i64 v, .slice a n cap] 39))) := ((Below.refl _ _).alloc (Nat.le_refl _) _).alloc (by simp) _
  by_cases h : t' = t
  · subst h
    by_cases h0 : v = 0
    · subst h0
      go_enter Tryd.func59, Tryd.ntmps59
      go_wp2
      go_ret
      exact ⟨by simp [folR], hb0.out⟩
    · go_enter Tryd.func59, Tryd.ntmps59
      go_wp2
      go_ret
      exact ⟨by simp [folR, h0], hb0.out⟩
  · go_enter Tryd.func59, Tryd.ntmps59
    go_wp2
    go_ret
    exact ⟨by simp [folR, h], hb0.out⟩

theorem lastT_pos {d : Int} {l : List Ent} (h : 0 < l.length) : lastT d l = (l[l.length - 1]'(by omega)).t := by
  unfold lastT
  rw [if_neg (by omega), List.getElem?_eq_getElem (by omega)]
  rfl
set_option maxHeartbeats 2000000 in
set_option maxRecDepth 100000 in
theorem lastTerm_any (v : Value) (l : List Ent) (w : World) (hv : Es w v l) :
    Calls Tryd.prog 171 #[v] w fun e w' => e = .returned (.int .i64 (lastT 0 l)) ∧ w' = w := by
  obtain ⟨hl, hf, a, cap, rfl, hc⟩ := hv
  unfold maxLen at hl
  by_cases h0 : l.length = 0
  · have hT : lastT 0 l = 0 := by unfold lastT; rw [if_pos h0]
    rw [hT]
    have h0' : ((l.length : Int) == 0) = true := by simp [h0]
    clear hc hT
    go_enter Tryd.func171, Tryd.ntmps171
    go_wp2
    go_ret
    exact ⟨rfl, rfl⟩
  · obtain ⟨b, off, rfl, hj⟩ := hc 0 (by omega)
    obtain ⟨c0, _⟩ := hj (l.length - 1) (by omega)
    have hT : lastT 0 l = (l[l.length - 1]'(by omega)).t := lastT_pos (by omega)
    rw [hT]
    generalize (l[l.length - 1]'(by omega)).t = X at c0
    have h0' : ((l.length : Int) == 0) = false := by rw [beq_eq_false_iff_ne]; omega
    have hi : (l.length : Int) - 1 = ((l.length - 1 : Nat) : Int) := by omega
    have hn : ((l.length : Int) - 1).toNat = l.length - 1 := by omega
    have h1 : 0 ≤ (l.length : Int) - 1 := by omega
    have h2 : (l.length : Int) - 1 < (l.length : Int) := by omega
    clear hj hc hT hi
    go_enter Tryd.func171, Tryd.ntmps171
    go_wp2
    go_ret
    exact ⟨rfl, rfl⟩
def addB (t : Int) (l : List Ent) (ix : Int) (x : Ent) : Bool := ix == (l.length : Int) + 1 && inB x.t (lastT 0 l) t
set_option maxHeartbeats 4000000 in
set_option maxRecDepth 100000 in
theorem addFollows_any (t v : Int) (lg : Value) (l : List Ent) (ix : Int) (x : Ent) (w : World) (hv : Es w lg l) (hll : l.length ≤ 1048576) :
    Calls Tryd.prog 169 #[.agg #[.int .i64 ix, .int .i64 x.t, .int .i64 x.cl, .int .i64 x.sq, .int .i64 x.op, .string x.k, .string x.v, .string x.o], .agg #[.int .i64 t, .int .i64 v, lg]] w fun e w' => e = .returned (.bool (addB t l ix x)) ∧ Below w.heap.size w w' := by
  have HE : ∀ w', Below w.heap.size w w' → Hid (Calls Tryd.prog 171 #[lg] w' fun e w'' => e = .returned (.int .i64 (lastT 0 l)) ∧ w'' = w') := fun w' hb => lastTerm_any lg l w' (hv.below hb)
  obtain ⟨_, _, a, cap, rfl, _⟩ := hv
  have hb0 : Hid (Below w.heap.size w ((w.alloc (.cells #[.int .i64 ix, .int .i64 x.t, .int .i64 x.cl, .int .i64 x.sq, .int .i64 x.op, .string x.k, .string x.v, .string x.o] 138)).alloc (.cells #[.int .i64 t, .int .i64 v, .slice a l.length cap] 39))) := ((Below.refl _ _).alloc (Nat.le_refl _) _).alloc (by simp) _
  have HL : ∀ k, Hid (Below w.heap.size w (((w.alloc (.cells #[.int .i64 ix, .int .i64 x.t, .int .i64 x.cl, .int .i64 x.sq, .int .i64 x.op, .string x.k, .string x.v, .string x.o] 138)).alloc (.cells #[.int .i64 t, .int .i64 v, .slice a l.length cap] 39)).drewN k)) := fun k => ⟨hb0.out.os, hb0.out.tape, hb0.out.output, hb0.out.size, hb0.out.block⟩
  cases hA : (ix == (l.length : Int) + 1)
  · have hR : addB t l ix x = false := by simp [addB, hA]
    rw [hR]
    clear hR
    go_enter Tryd.func169, Tryd.ntmps169
    go_wp2_with (fail)
    go_quiet (fail)
    go_wp2
    go_ret
    exact ⟨rfl, ⟨hb0.out.os, hb0.out.tape, hb0.out.output, hb0.out.size, hb0.out.block⟩⟩
  · have hR : addB t l ix x = inB x.t (lastT 0 l) t := by simp [addB, hA]
    rw [hR]
    clear hR
    go_enter Tryd.func169, Tryd.ntmps169
    go_wp2_with (fail)
    go_quiet (first
      | (go_at_call 171; exact Calls.quiet_of_same (HE _ (HL _).out).out)
      | (go_at_call 171; exact Calls.quiet_of_same (HE _ ⟨hb0.out.os, hb0.out.tape, hb0.out.output, hb0.out.size, hb0.out.block⟩).out)
      | (go_at_call 84; exact Calls.quiet_of_same (within_any _ _ _ _)))
    go_wp2
    go_ret
    exact ⟨rfl, ⟨hb0.out.os, hb0.out.tape, hb0.out.output, hb0.out.size, hb0.out.block⟩⟩
end Go.Proofs.YtjoflnnomebkpaaDoor
