/-
  laws.szDisk, toDisk, eqDisk, markDisk, heldDisk.
-/
import Derived.Test.YtlfnlhbkagjheaaDoorDiskBase
namespace Go.Proofs.YtlfnlhbkagjheaaDoor
open Go.RowKit
set_option linter.unusedVariables false

set_option maxHeartbeats 1000000 in
theorem szByteS_any (a : Option Addr) (n cap : Nat) (k : Nat) (hk : k ≤ 1048576) (hn : n ≤ maxLen) (w : World) :
    Calls Tryd.prog 31 #[.slice a n cap, .int .i64 k] w fun e w' => e = .returned (.int .i64 (if n ≤ k then ((k - n : Nat) : Int) else -1)) ∧ w' = w := by
  unfold maxLen at hn
  by_cases h : n ≤ k
  · rw [if_pos h]
    have e : ((k - n : Nat) : Int) = (k : Int) - n := by omega
    rw [e]
    go_enter Tryd.func31, Tryd.ntmps31
    go_wp2
    go_ret
    exact ⟨rfl, rfl⟩
  · rw [if_neg h]
    have h' : (k : Int) < n := by omega
    go_enter Tryd.func31, Tryd.ntmps31
    go_wp2
    go_ret
    exact ⟨rfl, rfl⟩

set_option maxHeartbeats 1000000 in
theorem szDisk_any (c y : Int) (a : Option Addr) (n cap : Nat) (k : Nat) (hk : k ≤ 1048576) (hn : n ≤ maxLen) (w : World) :
    Calls Tryd.prog 13 #[.agg #[.int .i64 c, .int .i64 y, .slice a n cap], .int .i64 k] w fun e w' => e = .returned (.int .i64 (if n ≤ k then ((k - n : Nat) : Int) else -1)) ∧ Below w.heap.size w w' := by
  have hb0 : Hid (Below w.heap.size w (w.alloc (.cells #[.int .i64 c, .int .i64 y, .slice a n cap] 36))) := (Below.refl _ _).alloc (Nat.le_refl _) _
  by_cases h : n ≤ k
  · rw [if_pos h]
    go_enter Tryd.func13, Tryd.ntmps13
    go_wp2_with (go_at_call 31; refine (szByteS_any a n cap k hk hn _).mono ?_; rintro e w1 ⟨rfl, rfl⟩; rw [if_pos h])
    go_ret
    exact ⟨rfl, hb0.out⟩
  · rw [if_neg h]
    go_enter Tryd.func13, Tryd.ntmps13
    go_wp2_with (go_at_call 31; refine (szByteS_any a n cap k hk hn _).mono ?_; rintro e w1 ⟨rfl, rfl⟩; rw [if_neg h])
    go_ret
    exact ⟨rfl, hb0.out⟩

set_option maxHeartbeats 2000000 in
set_option maxRecDepth 100000 in
theorem toDisk_own (c y : Int) (v : Value) (l : List Int) (w : World) (hv : Bs w v l) (hl : l.length ≤ 1048576) :
    Calls Tryd.prog 15 #[.agg #[.int .i64 c, .int .i64 y, v]] w fun e w' => ∃ q, e = .returned (.agg #[.int .i64 c, .int .i64 y, .slice (some ⟨q, 0, none⟩) l.length l.length]) ∧ w.heap.size ≤ q ∧ q < w'.heap.size ∧ Own w' w.heap.size (.slice (some ⟨q, 0, none⟩) l.length l.length) l ∧ Below w.heap.size w w' := by
  have hv0 := hv
  obtain ⟨_, _, a, cap, rfl, _⟩ := hv0
  have HT : Hid (∀ w', Below w.heap.size w w' → Calls Tryd.prog 6 #[.slice a l.length cap] w' fun e w'' => ∃ q, e = .returned (.slice (some ⟨q, 0, none⟩) l.length l.length) ∧ w'.heap.size ≤ q ∧ q < w''.heap.size ∧ Own w'' w'.heap.size (.slice (some ⟨q, 0, none⟩) l.length l.length) l ∧ Below w'.heap.size w' w'') := fun w' hb => toByteS_own _ l w' (hv.below hb) hl
  clear hv
  have hb0 : Hid (Below w.heap.size w (((w.alloc (.cells #[.int .i64 c, .int .i64 y, .slice a l.length cap] 36)).alloc (.cells #[.int .i64 0, .int .i64 0, .slice none 0 0] 38)).alloc (.cells #[.int .i64 c, .int .i64 y, .slice none 0 0] 38))) := (((Below.refl _ _).alloc (Nat.le_refl _) _).alloc (by simp) _).alloc (by simp; omega) _
  go_enter Tryd.func15, Tryd.ntmps15
  go_wp2_with (go_at_call 6; refine (HT.out _ hb0.out).mono ?_; rintro e w1 ⟨q, rfl, hq1, hq2, ho1, hb1⟩; obtain ⟨hcc, hff⟩ := bcell hb1; have hz1 := hb1.size; simp at hz1 hq1; have r0 : w1.cell? ⟨w.heap.size + 1, 0, none⟩ = some (.int .i64 0) := (hcc _ 0 (by simp)).trans (by simp [go_sem]); have r1 : w1.cell? ⟨w.heap.size + 1, 1, none⟩ = some (.int .i64 0) := (hcc _ 1 (by simp)).trans (by simp [go_sem]); have r2 : w1.cell? ⟨w.heap.size + 1, 2, none⟩ = some (.slice none 0 0) := (hcc _ 2 (by simp)).trans (by simp [go_sem]); have q0 : w1.cell? ⟨w.heap.size + 2, 0, none⟩ = some (.int .i64 c) := (hcc _ 0 (by simp)).trans (by simp [go_sem]); have q1 : w1.cell? ⟨w.heap.size + 2, 1, none⟩ = some (.int .i64 y) := (hcc _ 1 (by simp)).trans (by simp [go_sem]); have q2 : w1.cell? ⟨w.heap.size + 2, 2, none⟩ = some (.slice none 0 0) := (hcc _ 2 (by simp)).trans (by simp [go_sem]))
  refine bodyPost_ret (v := .agg #[.int .i64 c, .int .i64 y, .slice (some ⟨q, 0, none⟩) l.length l.length]) (by simp [results, Tryd.results15, go_sem, r0, r1, r2]) rfl ⟨q, rfl, by omega, by simpa [World.setCell] using hq2, ?_, ?_⟩
  · exact ((((ho1.setLow (b := w.heap.size + 1 + 1) (by simp) _).setLow (b := w.heap.size + 1) (by simp) _).setLow (b := w.heap.size + 1) (by simp) _).setLow (b := w.heap.size + 1) (by simp) _).le (by simp; omega)
  · exact ((((hb0.out.trans (hb1.mono (by simp; omega))).setCell (show w.heap.size ≤ w.heap.size + 1 + 1 by omega) _).setCell (Nat.le_succ _) _).setCell (Nat.le_succ _) _).setCell (Nat.le_succ _) _

set_option maxHeartbeats 1000000 in
set_option maxRecDepth 100000 in
theorem eqDisk_same (c y : Int) (a a' : Option Addr) (n n' cap cap' : Nat) (l : List Int) (w : World) (hv : Bs w (.slice a n cap) l) (hu : Bs w (.slice a' n' cap') l) :
    Calls Tryd.prog 18 #[.agg #[.int .i64 c, .int .i64 y, .slice a n cap], .agg #[.int .i64 c, .int .i64 y, .slice a' n' cap']] w fun e w' => e = .returned (.bool true) ∧ Below w.heap.size w w' := by
  have HT : Hid (∀ w', Below w.heap.size w w' → Calls Tryd.prog 9 #[.slice a n cap, .slice a' n' cap'] w' fun e w'' => e = .returned (.bool true) ∧ Below w'.heap.size w' w'') := fun w' hb => eqByteS_same _ _ l w' (hv.below hb) (hu.below hb)
  have hb0 : Hid (Below w.heap.size w ((w.alloc (.cells #[.int .i64 c, .int .i64 y, .slice a n cap] 38)).alloc (.cells #[.int .i64 c, .int .i64 y, .slice a' n' cap'] 38))) := ((Below.refl _ _).alloc (Nat.le_refl _) _).alloc (by simp) _
  clear hv hu
  go_enter Tryd.func18, Tryd.ntmps18
  go_wp2_with (go_at_call 9; refine (HT.out _ hb0.out).mono ?_; rintro e w1 ⟨rfl, hb1⟩)
  go_ret
  exact ⟨rfl, hb0.out.trans (hb1.mono (by simp; omega))⟩

set_option maxHeartbeats 1000000 in
set_option maxRecDepth 100000 in
theorem markDisk_any (c y : Int) (v : Value) (l : List Int) (k0 : Nat) (w : World) (B : Nat) (hv : Own w B v l) (hB : B ≤ w.heap.size) (hl : l.length ≤ 20000000) (hk0 : k0 ≤ 20000000) :
    Calls Tryd.prog 19 #[.agg #[.int .i64 c, .int .i64 y, v], .int .i64 k0] w fun e w' => e = .returned (.int .i64 ((k0 + l.length : Nat) : Int)) ∧ Own w' B v (marksL k0 l.length) ∧ w.grownBy w' v.ownBlock := by
  have HT : Hid (∀ w', Below w.heap.size w w' → Calls Tryd.prog 10 #[v, .int .i64 k0] w' fun e w'' => e = .returned (.int .i64 ((k0 + l.length : Nat) : Int)) ∧ Own w'' B v (marksL k0 l.length) ∧ w'.grownBy w'' v.ownBlock) := fun w' hb => markByteS_any v l k0 w' B (hv.below hb) hl hk0
  obtain ⟨a, cap, rfl⟩ := hv.shape
  have hb0 : Hid (Below w.heap.size w (w.alloc (.cells #[.int .i64 c, .int .i64 y, .slice a l.length cap] 38))) := (Below.refl _ _).alloc (Nat.le_refl _) _
  have hg0 : Hid (w.grownBy (w.alloc (.cells #[.int .i64 c, .int .i64 y, .slice a l.length cap] 38)) (Value.slice a l.length cap).ownBlock) := World.grownBy_alloc _ _ _
  clear hv
  go_enter Tryd.func19, Tryd.ntmps19
  go_wp2_with (go_at_call 10; refine (HT.out _ hb0.out).mono ?_; rintro e w1 ⟨rfl, ho1, hg1⟩)
  go_ret
  exact ⟨rfl, ho1, grown_trans hg0.out hg1⟩

set_option maxHeartbeats 1000000 in
set_option maxRecDepth 100000 in
theorem heldDisk_any (c y : Int) (a : Option Addr) (m cap k0 n : Nat) (w : World) (hv : Bs w (.slice a m cap) (marksL k0 n)) (hn : n ≤ 20000000) (hk0 : k0 ≤ 20000000) :
    Calls Tryd.prog 36 #[.agg #[.int .i64 c, .int .i64 y, .slice a m cap], .int .i64 k0] w fun e w' => e = .returned (.int .i64 ((k0 + n : Nat) : Int)) ∧ Below w.heap.size w w' := by
  have HT : Hid (∀ w', Below w.heap.size w w' → Calls Tryd.prog 51 #[.slice a m cap, .int .i64 k0] w' fun e w'' => e = .returned (.int .i64 ((k0 + n : Nat) : Int)) ∧ w'' = w') := fun w' hb => heldByteS_any _ k0 n w' (hv.below hb) hn hk0
  have hb0 : Hid (Below w.heap.size w (w.alloc (.cells #[.int .i64 c, .int .i64 y, .slice a m cap] 38))) := (Below.refl _ _).alloc (Nat.le_refl _) _
  clear hv
  go_enter Tryd.func36, Tryd.ntmps36
  go_wp2_with (go_at_call 51; refine (HT.out _ hb0.out).mono ?_; rintro e w1 ⟨rfl, rfl⟩)
  go_ret
  exact ⟨rfl, hb0.out⟩

end Go.Proofs.YtlfnlhbkagjheaaDoor
