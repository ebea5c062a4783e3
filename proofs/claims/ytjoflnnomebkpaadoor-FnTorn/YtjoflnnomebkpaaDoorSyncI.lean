/-
  impl.DiskSync.
-/
import Derived.Test.YtjoflnnomebkpaaDoorDiskNil
import Derived.Deep.RegionHeld3
namespace Go.Proofs.YtjoflnnomebkpaaDoor
open Go.RowKit
set_option linter.unusedVariables false

/-- what DiskSync answers -/
def syncC (c y : Int) (l : List Int) : Int := if diskB c y l.length = true then c else 0
def syncY (c y : Int) (l : List Int) : Int := if diskB c y l.length = true then l.length else 0
def syncL (c y : Int) (l : List Int) : List Int := if diskB c y l.length = true then l else []

theorem syncL_le (c y : Int) (l : List Int) : (syncL c y l).length ≤ l.length := by unfold syncL; split <;> simp

set_option maxHeartbeats 2000000 in
set_option maxRecDepth 100000 in
theorem diskSync_gen (c y : Int) (a : Option Addr) (cap : Nat) (l : List Int) (w : World) (hv : Bs w (.slice a l.length cap) l) (hc : l.length ≤ cap) (hl : l.length ≤ 1048576) (hna : AOk a cap) :
    Calls Tryd.prog 15 #[.agg #[.int .i64 c, .int .i64 y, .slice a l.length cap]] w fun e w' => DiskAt w w' e (syncC c y l) (syncY c y l) (syncL c y l) := by
  have hb0 : Hid (Below w.heap.size w ((w.alloc (.cells #[.int .i64 c, .int .i64 y, .slice a l.length cap] 24)).alloc (.cells #[.int .i64 0, .int .i64 0, .slice none 0 0] 24))) := ((Below.refl _ _).alloc (Nat.le_refl _) _).alloc (by simp) _
  cases hd : diskB c y l.length
  · have e1 : syncC c y l = 0 := by simp [syncC, hd]
    have e2 : syncY c y l = 0 := by simp [syncY, hd]
    have e3 : syncL c y l = [] := by simp [syncL, hd]
    rw [e1, e2, e3]
    go_enter Tryd.func15, Tryd.ntmps15
    go_wp2_with (go_at_call 49; refine (diskFits_any c y _ l.length cap hl _).mono ?_; rintro e w1 ⟨rfl, hb1⟩; rw [hd]; obtain ⟨hcc, hff⟩ := bcell hb1; have r0 : w1.cell? ⟨w.heap.size + 1, 0, none⟩ = some (.int .i64 0) := (hcc _ 0 (by simp)).trans (by simp); have r1 : w1.cell? ⟨w.heap.size + 1, 1, none⟩ = some (.int .i64 0) := (hcc _ 1 (by simp)).trans (by simp); have r2 : w1.cell? ⟨w.heap.size + 1, 2, none⟩ = some (.slice none 0 0) := (hcc _ 2 (by simp)).trans (by simp))
    refine bodyPost_ret (v := .agg #[.int .i64 0, .int .i64 0, .slice none 0 0]) (by simp [results, Tryd.results15, go_sem, r0, r1, r2]) rfl ⟨none, 0, rfl, Own.nil _ _, ?_⟩
    exact (((hb0.out.trans (hb1.mono (by simp; omega))).setCell (Nat.le_succ _) _).setCell (Nat.le_succ _) _).setCell (Nat.le_succ _) _
  · have e1 : syncC c y l = c := by simp [syncC, hd]
    have e2 : syncY c y l = l.length := by simp [syncY, hd]
    have e3 : syncL c y l = l := by simp [syncL, hd]
    rw [e1, e2, e3]
    have HT : Hid (∀ w', Below w.heap.size w w' → Calls Tryd.prog 50 #[.agg #[.int .i64 c, .int .i64 y, .slice a l.length cap], .int .i64 l.length] w' fun e w'' =>
      ∃ a' cap', e = .returned (.agg #[.int .i64 c, .int .i64 y, .slice a' l.length cap']) ∧ Own w'' w'.heap.size (.slice a' l.length cap') l ∧ Below w'.heap.size w' w'') := fun w' hb => by
      have h := cutDisk_gen c y a cap l l.length w' (hv.below hb) hc (Nat.le_refl _) hl hna
      rw [List.take_length] at h
      exact h
    clear hv
    go_enter Tryd.func15, Tryd.ntmps15
    go_wp2_with (first
      | (go_at_call 49; refine (diskFits_any c y _ l.length cap hl _).mono ?_; rintro e w1 ⟨rfl, hb1⟩; rw [hd]; obtain ⟨hcc, hff⟩ := bcell hb1; have hz1 := hb1.size; simp at hz1; have q0 : w1.cell? ⟨w.heap.size, 0, none⟩ = some (.int .i64 c) := (hcc _ 0 (by simp; omega)).trans (by simp); have q1 : w1.cell? ⟨w.heap.size, 1, none⟩ = some (.int .i64 y) := (hcc _ 1 (by simp; omega)).trans (by simp); have q2 : w1.cell? ⟨w.heap.size, 2, none⟩ = some (.slice a l.length cap) := (hcc _ 2 (by simp; omega)).trans (by simp); have hB1 := hb0.out.trans (hb1.mono (by simp; omega)))
      | (go_at_call 50; refine (HT.out _ hB1).mono ?_; rintro e w2 ⟨a2, cap2, rfl, ho2, hb2⟩; have hz2 := hb2.size; obtain ⟨hcc2, hff2⟩ := bcell hb2; have r0 : w2.cell? ⟨w.heap.size + 1, 0, none⟩ = some (.int .i64 0) := (hcc2 _ 0 (by omega)).trans ((hcc _ 0 (by simp)).trans (by simp)); have r1 : w2.cell? ⟨w.heap.size + 1, 1, none⟩ = some (.int .i64 0) := (hcc2 _ 1 (by omega)).trans ((hcc _ 1 (by simp)).trans (by simp)); have r2 : w2.cell? ⟨w.heap.size + 1, 2, none⟩ = some (.slice none 0 0) := (hcc2 _ 2 (by omega)).trans ((hcc _ 2 (by simp)).trans (by simp)); have fz : ∀ i, w2.frozen? ⟨w.heap.size + 1, i, none⟩ = false := (fun i => (hff2 _ i (by omega)).trans ((hff _ i (by simp)).trans (by simp))); have fz0 := fz 0; have fz1 := fz 1; have fz2 := fz 2; have hz3 : w.heap.size + 1 < w2.heap.size := (by omega)))
    refine bodyPost_ret (v := .agg #[.int .i64 c, .int .i64 l.length, .slice a2 l.length cap2]) (by simp [results, Tryd.results15, go_sem, r0, r1, r2, hz3]) rfl ⟨_, _, rfl, ?_, ?_⟩
    · exact ((((ho2.setLow (b := w.heap.size + 1) (by omega) _).setLow (b := w.heap.size + 1) (by omega) _).setLow (b := w.heap.size + 1) (by omega) _).below ((Below.refl _ _).alloc (Nat.le_refl _) _)).le (by omega)
    · exact ((((hB1.trans (hb2.mono (by omega))).setCell (Nat.le_succ _) _).setCell (Nat.le_succ _) _).setCell (Nat.le_succ _) _).alloc (by simp [World.setCell]; omega) _
theorem diskSync_any (c y : Int) (b off cap : Nat) (l : List Int) (w : World) (hv : Bs w (.slice (some ⟨b, off, none⟩) l.length cap) l) (hc : l.length ≤ cap) (hl : l.length ≤ 1048576) :
    Calls Tryd.prog 15 #[.agg #[.int .i64 c, .int .i64 y, .slice (some ⟨b, off, none⟩) l.length cap]] w fun e w' => DiskAt w w' e (syncC c y l) (syncY c y l) (syncL c y l) := diskSync_gen c y (some ⟨b, off, none⟩) cap l w hv hc hl (.inr ⟨b, off, rfl⟩)

end Go.Proofs.YtjoflnnomebkpaaDoor
