/-
  impl.DiskCrash.
-/
import Derived.Test.YtjoflnnomebkpaaDoorDiskNil
import Derived.Deep.RegionHeld3
import Derived.Deep.QuietTactic
import Derived.BigQuiet
namespace Go.Proofs.YtjoflnnomebkpaaDoor
open Go.RowKit
set_option linter.unusedVariables false

theorem below_drewN {B : Nat} {a w : World} (h : Below B a w) (n : Nat) : Below B a (w.drewN n) := ⟨h.os, h.tape, h.output, h.size, h.block⟩
theorem below_trans_drew {B : Nat} {w u w' : World} (h : Below u.heap.size u w') (hB : B ≤ w.heap.size) (he : u.heap = w.heap := by rfl) (h1 : u.os = w.os := by rfl) (h2 : u.tape = w.tape := by rfl) (h3 : u.output = w.output := by rfl) : Below B w w' :=
  ⟨h.os.trans h1, h.tape.trans h2, h.output.trans h3, by rw [← he]; exact h.size, fun k hk => by rw [← he]; exact h.block k (by rw [he]; omega)⟩

/-- how many bytes a crash leaves -/
def crashN (y : Int) (n : Nat) (keep : Int) : Nat := (y + max 0 (min keep (n - y))).toNat
theorem crashN_le {c y : Int} {n : Nat} (keep : Int) (h : diskB c y n = true) : crashN y n keep ≤ n ∧ (crashN y n keep : Int) = y + max 0 (min keep (n - y)) := by
  have := diskB_le h
  unfold crashN
  omega
def crashC (c y : Int) (l : List Int) (keep : Int) : Int := if diskB c y l.length = true then c else 0
def crashY (c y : Int) (l : List Int) (keep : Int) : Int := if diskB c y l.length = true then y else 0
def crashL (c y : Int) (l : List Int) (keep : Int) : List Int := if diskB c y l.length = true then l.take (crashN y l.length keep) else []
theorem crashL_le (c y : Int) (l : List Int) (keep : Int) : (crashL c y l keep).length ≤ l.length := by unfold crashL; split <;> simp [List.length_take]; omega

set_option maxHeartbeats 2000000 in
set_option maxRecDepth 100000 in
theorem diskCrash_gen (c y : Int) (a : Option Addr) (cap : Nat) (l : List Int) (keep : Int) (w : World) (hv : Bs w (.slice a l.length cap) l) (hc : l.length ≤ cap) (hl : l.length ≤ 1048576) (hk1 : -(2 ^ 63) ≤ keep) (hk2 : keep < 2 ^ 63) (hna : AOk a cap) :
    Calls Tryd.prog 14 #[.agg #[.int .i64 c, .int .i64 y, .slice a l.length cap], .int .i64 keep] w fun e w' => DiskAt w w' e (crashC c y l keep) (crashY c y l keep) (crashL c y l keep) := by
  have hb0 : Hid (Below w.heap.size w ((w.alloc (.cells #[.int .i64 c, .int .i64 y, .slice a l.length cap] 24)).alloc (.cells #[.int .i64 0, .int .i64 0, .slice none 0 0] 24))) := ((Below.refl _ _).alloc (Nat.le_refl _) _).alloc (by simp) _
  cases hd : diskB c y l.length
  · have e1 : crashC c y l keep = 0 := by simp [crashC, hd]
    have e2 : crashY c y l keep = 0 := by simp [crashY, hd]
    have e3 : crashL c y l keep = [] := by simp [crashL, hd]
    rw [e1, e2, e3]
    go_enter Tryd.func14, Tryd.ntmps14
    go_wp2_with (go_at_call 49; refine (diskFits_any c y _ l.length cap hl _).mono ?_; rintro e w1 ⟨rfl, hb1⟩; rw [hd]; obtain ⟨hcc, hff⟩ := bcell hb1; have r0 : w1.cell? ⟨w.heap.size + 1, 0, none⟩ = some (.int .i64 0) := (hcc _ 0 (by simp)).trans (by simp); have r1 : w1.cell? ⟨w.heap.size + 1, 1, none⟩ = some (.int .i64 0) := (hcc _ 1 (by simp)).trans (by simp); have r2 : w1.cell? ⟨w.heap.size + 1, 2, none⟩ = some (.slice none 0 0) := (hcc _ 2 (by simp)).trans (by simp))
    refine bodyPost_ret (v := .agg #[.int .i64 0, .int .i64 0, .slice none 0 0]) (by simp [results, Tryd.results14, go_sem, r0, r1, r2]) rfl ⟨none, 0, rfl, Own.nil _ _, ?_⟩
    exact (((hb0.out.trans (hb1.mono (by simp; omega))).setCell (Nat.le_succ _) _).setCell (Nat.le_succ _) _).setCell (Nat.le_succ _) _
  · have e1 : crashC c y l keep = c := by simp [crashC, hd]
    have e2 : crashY c y l keep = y := by simp [crashY, hd]
    have e3 : crashL c y l keep = l.take (crashN y l.length keep) := by simp [crashL, hd]
    rw [e1, e2, e3]
    obtain ⟨hn1, hn2⟩ := crashN_le keep hd
    obtain ⟨d1, d2, d3, d4, d5, d6⟩ := diskB_le hd
    generalize crashN y l.length keep = n at *
    have hlen : (l.take n).length = n := by rw [List.length_take]; omega
    unfold DiskAt
    rw [hlen]
    have HT : Hid (∀ w' (k : Int), k = n → Below w.heap.size w w' → Calls Tryd.prog 50 #[.agg #[.int .i64 c, .int .i64 y, .slice a l.length cap], .int .i64 k] w' fun e w'' =>
      ∃ a' cap', e = .returned (.agg #[.int .i64 c, .int .i64 y, .slice a' n cap']) ∧ Own w'' w'.heap.size (.slice a' n cap') (l.take n) ∧ Below w'.heap.size w' w'') := fun w' k e hb => by
      subst e; exact cutDisk_gen c y a cap l n w' (hv.below hb) hc hn1 hl hna
    clear hv
    go_enter Tryd.func14, Tryd.ntmps14
    go_wp2_with (first
      | (go_at_call 49; refine (diskFits_any c y _ l.length cap hl _).mono ?_; rintro e w1 ⟨rfl, hb1⟩; rw [hd]; obtain ⟨hcc, hff⟩ := bcell hb1; have hz1 := hb1.size; simp at hz1; have q0 : w1.cell? ⟨w.heap.size, 0, none⟩ = some (.int .i64 c) := (hcc _ 0 (by simp; omega)).trans (by simp); have q1 : w1.cell? ⟨w.heap.size, 1, none⟩ = some (.int .i64 y) := (hcc _ 1 (by simp; omega)).trans (by simp); have q2 : w1.cell? ⟨w.heap.size, 2, none⟩ = some (.slice a l.length cap) := (hcc _ 2 (by simp; omega)).trans (by simp); have hB1 := hb0.out.trans (hb1.mono (by simp; omega)))
      | (go_at_call 50; refine (HT.out _ _ (by omega) hB1).mono ?_; rintro e w2 ⟨a2, cap2, rfl, ho2, hb2⟩; have hz2 := hb2.size; obtain ⟨hcc2, hff2⟩ := bcell hb2; have r0 : w2.cell? ⟨w.heap.size + 1, 0, none⟩ = some (.int .i64 0) := (hcc2 _ 0 (by omega)).trans ((hcc _ 0 (by simp)).trans (by simp)); have r1 : w2.cell? ⟨w.heap.size + 1, 1, none⟩ = some (.int .i64 0) := (hcc2 _ 1 (by omega)).trans ((hcc _ 1 (by simp)).trans (by simp)); have r2 : w2.cell? ⟨w.heap.size + 1, 2, none⟩ = some (.slice none 0 0) := (hcc2 _ 2 (by omega)).trans ((hcc _ 2 (by simp)).trans (by simp)); have fz : ∀ i, w2.frozen? ⟨w.heap.size + 1, i, none⟩ = false := (fun i => (hff2 _ i (by omega)).trans ((hff _ i (by simp)).trans (by simp))); have fz0 := fz 0; have fz1 := fz 1; have fz2 := fz 2; have hz3 : w.heap.size + 1 < w2.heap.size := (by omega)))
    all_goals refine bodyPost_ret (v := .agg #[.int .i64 c, .int .i64 y, .slice a2 n cap2]) (by simp [results, Tryd.results14, go_sem, r0, r1, r2]) rfl ⟨_, _, rfl, ?_, ?_⟩
    all_goals first
      | exact (((ho2.setLow (b := w.heap.size + 1) (by omega) _).setLow (b := w.heap.size + 1) (by omega) _).setLow (b := w.heap.size + 1) (by omega) _).le (by omega)
      | exact (((hB1.trans (hb2.mono (by omega))).setCell (Nat.le_succ _) _).setCell (Nat.le_succ _) _).setCell (Nat.le_succ _) _
theorem diskCrash_any (c y : Int) (b off cap : Nat) (l : List Int) (keep : Int) (w : World) (hv : Bs w (.slice (some ⟨b, off, none⟩) l.length cap) l) (hc : l.length ≤ cap) (hl : l.length ≤ 1048576) (hk1 : -(2 ^ 63) ≤ keep) (hk2 : keep < 2 ^ 63) :
    Calls Tryd.prog 14 #[.agg #[.int .i64 c, .int .i64 y, .slice (some ⟨b, off, none⟩) l.length cap], .int .i64 keep] w fun e w' => DiskAt w w' e (crashC c y l keep) (crashY c y l keep) (crashL c y l keep) := diskCrash_gen c y (some ⟨b, off, none⟩) cap l keep w hv hc hl hk1 hk2 (.inr ⟨b, off, rfl⟩)

end Go.Proofs.YtjoflnnomebkpaaDoor
