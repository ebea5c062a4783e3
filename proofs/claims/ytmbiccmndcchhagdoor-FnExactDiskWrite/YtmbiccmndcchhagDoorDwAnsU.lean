/-
  A disk's answer as a law takes it: eq, mark, held.
-/
import Derived.Test.YtmbiccmndcchhagDoorDiskU
namespace Go.Proofs.YtmbiccmndcchhagDoor
open Go.RowKit
set_option linter.unusedVariables false

set_option maxHeartbeats 1000000 in
set_option maxRecDepth 100000 in
theorem eqDiskAnswer_u (k c y : Int) (a a' : Option Addr) (n n' cap cap' : Nat) (l : List Int) (w : World) {lo hi lo' hi' : Nat} (hv : BytesN lo hi w (.slice a n cap) l) (hu : BytesN lo' hi' w (.slice a' n' cap') l) (hl : l.length ≤ maxLen) :
    Calls Tryd.prog 25 #[.agg #[.int .i64 k, .int .i64 c, .int .i64 y, .slice a n cap], .agg #[.int .i64 k, .int .i64 c, .int .i64 y, .slice a' n' cap']] w fun e w' => e = .returned (.bool true) ∧ Below w.heap.size w w' := by
  have HT : Hid (∀ w', Below w.heap.size w w' → Calls Tryd.prog 19 #[.agg #[.int .i64 c, .int .i64 y, .slice a n cap], .agg #[.int .i64 c, .int .i64 y, .slice a' n' cap']] w' fun e w'' => e = .returned (.bool true) ∧ Below w'.heap.size w' w'') := fun w' hb => eqDisk_same c y a a' n n' cap cap' l w' ((hv.bs hl).below hb) ((hu.bs hl).below hb)
  have hb0 : Hid (Below w.heap.size w ((w.alloc (.cells #[.int .i64 k, .int .i64 c, .int .i64 y, .slice a n cap] 29)).alloc (.cells #[.int .i64 k, .int .i64 c, .int .i64 y, .slice a' n' cap'] 29))) := ((Below.refl _ _).alloc (Nat.le_refl _) _).alloc (by simp) _
  clear hv hu
  go_enter Tryd.func25, Tryd.ntmps25
  go_wp2_with (go_at_call 19; refine (HT.out _ hb0.out).mono ?_; rintro e w1 ⟨rfl, hb1⟩)
  go_ret
  exact ⟨rfl, hb0.out.trans (hb1.mono (by simp; omega))⟩

set_option maxHeartbeats 1000000 in
set_option maxRecDepth 100000 in
theorem markDiskAnswer_u (k c y : Int) (v : Value) (l : List Int) (w : World) {lo hi : Nat} (hv : BytesN lo hi w v l) (hB : lo ≤ w.heap.size) (hl : l.length ≤ 10000000) :
    Calls Tryd.prog 28 #[.agg #[.int .i64 k, .int .i64 c, .int .i64 y, v], .int .i64 1] w fun e w' => e = .returned (.int .i64 ((1 + l.length : Nat) : Int)) ∧ BytesN lo hi w' v (marksL 1 l.length) ∧ Turned lo hi w w' := by
  have HT : Hid (∀ w', Below w.heap.size w w' → Calls Tryd.prog 20 #[.agg #[.int .i64 c, .int .i64 y, v], .int .i64 1] w' fun e w'' => e = .returned (.int .i64 ((1 + l.length : Nat) : Int)) ∧ BytesN lo hi w'' v (marksL 1 l.length) ∧ Turned lo hi w' w'') := fun w' hb =>
    (markDisk_any c y v l 1 w' lo (hv.own.below hb) (Nat.le_trans hB hb.size) (by omega) (by omega)).mono fun e w'' ⟨h1, h2, h3⟩ => ⟨h1, ⟨h2, hv.lt⟩, .rows h3 hv.lt⟩
  obtain ⟨a, cap, rfl⟩ := hv.own.shape
  have hb0 : Hid (Below w.heap.size w (w.alloc (.cells #[.int .i64 k, .int .i64 c, .int .i64 y, .slice a l.length cap] 29))) := (Below.refl _ _).alloc (Nat.le_refl _) _
  clear hv
  go_enter Tryd.func28, Tryd.ntmps28
  go_wp2_with (go_at_call 20; refine (HT.out _ hb0.out).mono ?_; rintro e w1 ⟨rfl, ho1, hg1⟩)
  go_ret
  exact ⟨rfl, ho1, (Turned.of_below lo hi hb0.out).trans hg1⟩

set_option maxHeartbeats 1000000 in
set_option maxRecDepth 100000 in
theorem heldDiskAnswer_u (k c y : Int) (a : Option Addr) (m cap n : Nat) (w : World) {lo hi : Nat} (hv : BytesN lo hi w (.slice a m cap) (marksL 1 n)) (hn : n ≤ 10000000) :
    Calls Tryd.prog 29 #[.agg #[.int .i64 k, .int .i64 c, .int .i64 y, .slice a m cap], .int .i64 1] w fun e w' => e = .returned (.int .i64 ((1 + n : Nat) : Int)) ∧ Below w.heap.size w w' := by
  have hB : Bs w (.slice a m cap) (marksL 1 n) := hv.bs (by rw [marksL_len]; unfold maxLen; omega)
  have HT : Hid (∀ w', Below w.heap.size w w' → Calls Tryd.prog 52 #[.agg #[.int .i64 c, .int .i64 y, .slice a m cap], .int .i64 1] w' fun e w'' => e = .returned (.int .i64 ((1 + n : Nat) : Int)) ∧ Below w'.heap.size w' w'') := fun w' hb =>
    heldDisk_any c y a m cap 1 n w' (hB.below hb) (by omega) (by omega)
  have hb0 : Hid (Below w.heap.size w (w.alloc (.cells #[.int .i64 k, .int .i64 c, .int .i64 y, .slice a m cap] 29))) := (Below.refl _ _).alloc (Nat.le_refl _) _
  clear hv hB
  go_enter Tryd.func29, Tryd.ntmps29
  go_wp2_with (go_at_call 52; refine (HT.out _ hb0.out).mono ?_; rintro e w1 ⟨rfl, hb1⟩)
  go_ret
  exact ⟨rfl, hb0.out.trans (hb1.mono (by simp))⟩
end Go.Proofs.YtmbiccmndcchhagDoor
