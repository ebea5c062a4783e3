/-
  impl.DiskCrash, spec.DiskCrash.
-/
import Derived.Test.YtdobgdbceonjkacDiskBase
import Derived.Deep.RegionHeld3
import Derived.Deep.QuietTactic
import Derived.BigQuiet
namespace Go.Proofs.Ytdobgdbceonjkac
open Go.RowKit
set_option linter.unusedVariables false

theorem below_drewN {B : Nat} {a w : World} (h : Below B a w) (n : Nat) : Below B a (w.drewN n) := ⟨h.os, h.tape, h.output, h.size, h.block⟩
theorem below_trans_drew {B : Nat} {w u w' : World} (h : Below u.heap.size u w') (hB : B ≤ w.heap.size) (he : u.heap = w.heap := by rfl) (h1 : u.os = w.os := by rfl) (h2 : u.tape = w.tape := by rfl) (h3 : u.output = w.output := by rfl) : Below B w w' :=
  ⟨h.os.trans h1, h.tape.trans h2, h.output.trans h3, by rw [← he]; exact h.size, fun k hk => by rw [← he]; exact h.block k (by rw [he]; omega)⟩

/-- how many bytes a crash leaves -/
def crashN (y : Int) (n : Nat) (keep : Int) : Nat := (y + max 0 (min keep (n - y))).toNat
theorem crashN_le {c y : Int} {n : Nat} (keep : Int) (h : diskB c y n = true) : crashN y n keep ≤ n ∧ (crashN y n keep : Int) = y + max 0 (min keep (n - y)) := by
  have := diskB_le h
  unfold crashN
  omega
def crashC (c y : Int) (l : List Int) (keep : Int) : Int := if diskB c y l.length = true then c else 0
def crashY (c y : Int) (l : List Int) (keep : Int) : Int := if diskB c y l.length = true then y else 0
def crashL (c y : Int) (l : List Int) (keep : Int) : List Int := if diskB c y l.length = true then l.take (crashN y l.length keep) else []
theorem crashL_le (c y : Int) (l : List Int) (keep : Int) : (crashL c y l keep).length ≤ l.length := by unfold crashL; split <;> simp [List.length_take]; omega

set_option maxHeartbeats 2000000 in
set_option maxRecDepth 100000 in
theorem diskCrash_any (c y : Int) (b off cap : Nat) (l : List Int) (keep : Int) (w : World) (hv : Bs w (.slice (some ⟨b, off, none⟩) l.length cap) l) (hc : l.length ≤ cap) (hl : l.length ≤ 1048576) (hk1 : -(2 ^ 63) ≤ keep) (hk2 : keep < 2 ^ 63) :
    Calls Try.prog 21 #[.agg #[.int .i64 c, .int .i64 y, .slice (some ⟨b, off, none⟩) l.length cap], .int .i64 keep] w fun e w' => DiskAt w w' e (crashC c y l keep) (crashY c y l keep) (crashL c y l keep) := by
  have hb0 : Hid (Below w.heap.size w ((w.alloc (.cells #[.int .i64 c, .int .i64 y, .slice (some ⟨b, off, none⟩) l.length cap] 46)).alloc (.cells #[.int .i64 0, .int .i64 0, .slice none 0 0] 46))) := ((Below.refl _ _).alloc (Nat.le_refl _) _).alloc (by simp) _
  cases hd : diskB c y l.length
  · have e1 : crashC c y l keep = 0 := by simp [crashC, hd]
    have e2 : crashY c y l keep = 0 := by simp [crashY, hd]
    have e3 : crashL c y l keep = [] := by simp [crashL, hd]
    rw [e1, e2, e3]
    go_enter Try.func21, Try.ntmps21
    go_wp2_with (go_at_call 46; refine (diskFits_any c y _ l.length cap hl _).mono ?_; rintro e w1 ⟨rfl, hb1⟩; rw [hd]; obtain ⟨hcc, hff⟩ := bcell hb1; have r0 : w1.cell? ⟨w.heap.size + 1, 0, none⟩ = some (.int .i64 0) := (hcc _ 0 (by simp)).trans (by simp); have r1 : w1.cell? ⟨w.heap.size + 1, 1, none⟩ = some (.int .i64 0) := (hcc _ 1 (by simp)).trans (by simp); have r2 : w1.cell? ⟨w.heap.size + 1, 2, none⟩ = some (.slice none 0 0) := (hcc _ 2 (by simp)).trans (by simp))
    refine bodyPost_ret (v := .agg #[.int .i64 0, .int .i64 0, .slice none 0 0]) (by simp [results, Try.results21, go_sem, r0, r1, r2]) rfl ⟨none, 0, rfl, Own.nil _ _, ?_⟩
    exact (((hb0.out.trans (hb1.mono (by simp; omega))).setCell (Nat.le_succ _) _).setCell (Nat.le_succ _) _).setCell (Nat.le_succ _) _
  · have e1 : crashC c y l keep = c := by simp [crashC, hd]
    have e2 : crashY c y l keep = y := by simp [crashY, hd]
    have e3 : crashL c y l keep = l.take (crashN y l.length keep) := by simp [crashL, hd]
    rw [e1, e2, e3]
    obtain ⟨hn1, hn2⟩ := crashN_le keep hd
    obtain ⟨d1, d2, d3, d4, d5, d6⟩ := diskB_le hd
    generalize crashN y l.length keep = n at *
    have hlen : (l.take n).length = n := by rw [List.length_take]; omega
    unfold DiskAt
    rw [hlen]
    have HT : Hid (∀ w' (k : Int), k = n → Below w.heap.size w w' → Calls Try.prog 47 #[.agg #[.int .i64 c, .int .i64 y, .slice (some ⟨b, off, none⟩) l.length cap], .int .i64 k] w' fun e w'' =>
      ∃ a' cap', e = .returned (.agg #[.int .i64 c, .int .i64 y, .slice a' n cap']) ∧ Own w'' w'.heap.size (.slice a' n cap') (l.take n) ∧ Below w'.heap.size w' w'') := fun w' k e hb => by
      subst e; exact cutDisk_any c y b off cap l n w' (hv.below hb) hc hn1 hl
    clear hv
    go_enter Try.func21, Try.ntmps21
    go_wp2_with (first
      | (go_at_call 46; refine (diskFits_any c y _ l.length cap hl _).mono ?_; rintro e w1 ⟨rfl, hb1⟩; rw [hd]; obtain ⟨hcc, hff⟩ := bcell hb1; have hz1 := hb1.size; simp at hz1; have q0 : w1.cell? ⟨w.heap.size, 0, none⟩ = some (.int .i64 c) := (hcc _ 0 (by simp; omega)).trans (by simp); have q1 : w1.cell? ⟨w.heap.size, 1, none⟩ = some (.int .i64 y) := (hcc _ 1 (by simp; omega)).trans (by simp); have q2 : w1.cell? ⟨w.heap.size, 2, none⟩ = some (.slice (some ⟨b, off, none⟩) l.length cap) := (hcc _ 2 (by simp; omega)).trans (by simp); have hB1 := hb0.out.trans (hb1.mono (by simp; omega)))
      | (go_at_call 47; refine (HT.out _ _ (by omega) hB1).mono ?_; rintro e w2 ⟨a2, cap2, rfl, ho2, hb2⟩; have hz2 := hb2.size; obtain ⟨hcc2, hff2⟩ := bcell hb2; have r0 : w2.cell? ⟨w.heap.size + 1, 0, none⟩ = some (.int .i64 0) := (hcc2 _ 0 (by omega)).trans ((hcc _ 0 (by simp)).trans (by simp)); have r1 : w2.cell? ⟨w.heap.size + 1, 1, none⟩ = some (.int .i64 0) := (hcc2 _ 1 (by omega)).trans ((hcc _ 1 (by simp)).trans (by simp)); have r2 : w2.cell? ⟨w.heap.size + 1, 2, none⟩ = some (.slice none 0 0) := (hcc2 _ 2 (by omega)).trans ((hcc _ 2 (by simp)).trans (by simp)); have fz : ∀ i, w2.frozen? ⟨w.heap.size + 1, i, none⟩ = false := (fun i => (hff2 _ i (by omega)).trans ((hff _ i (by simp)).trans (by simp))); have fz0 := fz 0; have fz1 := fz 1; have fz2 := fz 2; have hz3 : w.heap.size + 1 < w2.heap.size := (by omega)))
    all_goals refine bodyPost_ret (v := .agg #[.int .i64 c, .int .i64 y, .slice a2 n cap2]) (by simp [results, Try.results21, go_sem, r0, r1, r2]) rfl ⟨_, _, rfl, ?_, ?_⟩
    all_goals first
      | exact (((ho2.setLow (b := w.heap.size + 1) (by omega) _).setLow (b := w.heap.size + 1) (by omega) _).setLow (b := w.heap.size + 1) (by omega) _).le (by omega)
      | exact (((hB1.trans (hb2.mono (by omega))).setCell (Nat.le_succ _) _).setCell (Nat.le_succ _) _).setCell (Nat.le_succ _) _

theorem l1min_any (a b : Int) (w : World) : Calls Try.prog 42 #[.int .i64 a, .int .i64 b] w fun e w' => e = .returned (.int .i64 (min a b)) ∧ w' = w := by
  by_cases h : a < b
  · have e : min a b = a := by omega
    rw [e]
    go_enter Try.func42, Try.ntmps42
    go_wp2
    go_ret
    exact ⟨rfl, rfl⟩
  · have e : min a b = b := by omega
    rw [e]
    go_enter Try.func42, Try.ntmps42
    go_wp2
    go_ret
    exact ⟨rfl, rfl⟩
theorem l1max_any (a b : Int) (w : World) : Calls Try.prog 43 #[.int .i64 a, .int .i64 b] w fun e w' => e = .returned (.int .i64 (max a b)) ∧ w' = w := by
  by_cases h : a > b
  · have e : max a b = a := by omega
    rw [e]
    go_enter Try.func43, Try.ntmps43
    go_wp2
    go_ret
    exact ⟨rfl, rfl⟩
  · have e : max a b = b := by omega
    rw [e]
    go_enter Try.func43, Try.ntmps43
    go_wp2
    go_ret
    exact ⟨rfl, rfl⟩

set_option maxHeartbeats 4000000 in
set_option maxRecDepth 100000 in
theorem sDiskCrash_any (c y : Int) (a : Option Addr) (cap : Nat) (l : List Int) (keep : Int) (w : World) (hv : Bs w (.slice a l.length cap) l) (hcap : l.length ≤ cap) (hl : l.length ≤ 1048576) (hk1 : -(2 ^ 63) ≤ keep) (hk2 : keep < 2 ^ 63) :
    Calls Try.prog 19 #[.agg #[.int .i64 c, .int .i64 y, .slice a l.length cap], .int .i64 keep] w fun e w' => DiskAt w w' e (crashC c y l keep) (crashY c y l keep) (crashL c y l keep) := by
  have hb0 : Hid (Below w.heap.size w ((w.alloc (.cells #[.int .i64 c, .int .i64 y, .slice a l.length cap] 46)).alloc (.cells #[.int .i64 0, .int .i64 0, .slice none 0 0] 46))) := ((Below.refl _ _).alloc (Nat.le_refl _) _).alloc (by simp) _
  cases hd : diskB c y l.length
  · have e1 : crashC c y l keep = 0 := by simp [crashC, hd]
    have e2 : crashY c y l keep = 0 := by simp [crashY, hd]
    have e3 : crashL c y l keep = [] := by simp [crashL, hd]
    rw [e1, e2, e3]
    go_enter Try.func19, Try.ntmps19
    go_wp2_with (go_at_call 41; refine (l2diskOk_any c y _ l.length cap hl _).mono ?_; rintro e w1 ⟨rfl, hb1⟩; rw [hd]; obtain ⟨hcc, hff⟩ := bcell hb1; have r0 : w1.cell? ⟨w.heap.size + 1, 0, none⟩ = some (.int .i64 0) := (hcc _ 0 (by simp)).trans (by simp); have r1 : w1.cell? ⟨w.heap.size + 1, 1, none⟩ = some (.int .i64 0) := (hcc _ 1 (by simp)).trans (by simp); have r2 : w1.cell? ⟨w.heap.size + 1, 2, none⟩ = some (.slice none 0 0) := (hcc _ 2 (by simp)).trans (by simp))
    refine bodyPost_ret (v := .agg #[.int .i64 0, .int .i64 0, .slice none 0 0]) (by simp [results, Try.results19, go_sem, r0, r1, r2]) rfl ⟨none, 0, rfl, Own.nil _ _, ?_⟩
    exact (((hb0.out.trans (hb1.mono (by simp; omega))).setCell (Nat.le_succ _) _).setCell (Nat.le_succ _) _).setCell (Nat.le_succ _) _
  · have e1 : crashC c y l keep = c := by simp [crashC, hd]
    have e2 : crashY c y l keep = y := by simp [crashY, hd]
    have e3 : crashL c y l keep = l.take (crashN y l.length keep) := by simp [crashL, hd]
    rw [e1, e2, e3]
    obtain ⟨hn1, hn2⟩ := crashN_le keep hd
    obtain ⟨d1, d2, d3, d4, d5, d6⟩ := diskB_le hd
    generalize crashN y l.length keep = n at *
    have hlen : (l.take n).length = n := by rw [List.length_take]; omega
    unfold DiskAt
    rw [hlen]
    have HT : Hid (∀ w', Below w.heap.size w w' → Calls Try.prog 44 #[.slice a n cap] w' fun e w'' =>
      ∃ a' cap', e = .returned (.slice a' n cap') ∧ Own w'' w'.heap.size (.slice a' n cap') (l.take n) ∧ Below w'.heap.size w' w'') := fun w' hb => by
      have h := l1copy_any a cap (l.take n) w' (by rw [hlen]; exact (hv.take n hn1).below hb) (by omega)
      rw [hlen] at h
      exact h
    have hm : (n : Int) = y + min (max keep 0) (l.length - y) := by omega
    clear hv hn2 hlen hk1 hk2
    go_enter Try.func19, Try.ntmps19
    go_wp2_with (first
      | (go_at_call 41; refine (l2diskOk_any c y _ l.length cap hl _).mono ?_; rintro e w1 ⟨rfl, hb1⟩; rw [hd]; obtain ⟨hcc, hff⟩ := bcell hb1; have hz1 := hb1.size; simp at hz1; have q0 : w1.cell? ⟨w.heap.size, 0, none⟩ = some (.int .i64 c) := (hcc _ 0 (by simp; omega)).trans (by simp); have q1 : w1.cell? ⟨w.heap.size, 1, none⟩ = some (.int .i64 y) := (hcc _ 1 (by simp; omega)).trans (by simp); have q2 : w1.cell? ⟨w.heap.size, 2, none⟩ = some (.slice a l.length cap) := (hcc _ 2 (by simp; omega)).trans (by simp); have hB1 := hb0.out.trans (hb1.mono (by simp; omega)); have p0 : w1.cell? ⟨w.heap.size + 1, 0, none⟩ = some (.int .i64 0) := (hcc _ 0 (by simp)).trans (by simp); have p1 : w1.cell? ⟨w.heap.size + 1, 1, none⟩ = some (.int .i64 0) := (hcc _ 1 (by simp)).trans (by simp); have p2 : w1.cell? ⟨w.heap.size + 1, 2, none⟩ = some (.slice none 0 0) := (hcc _ 2 (by simp)).trans (by simp); have pf : ∀ i, w1.frozen? ⟨w.heap.size + 1, i, none⟩ = false := (fun i => (hff _ i (by simp)).trans (by simp)); clear hcc hff hb1))
    go_quiet (first
      | (go_at_call 43; exact Calls.quiet_of_same (l1max_any _ _ _))
      | (go_at_call 42; exact Calls.quiet_of_same (l1min_any _ _ _)))
    go_wp2
    have hm0 : 0 ≤ min (max keep 0) ((l.length : Int) - y) := by omega
    generalize min (max keep 0) ((l.length : Int) - y) = m at *
    have hwr : IntKind.i64.wrap (y + m) = y + m := by simp [IntKind.wrap, IntKind.signed, IntKind.bits]; omega
    have hn3 : (0 : Int) ≤ y + m := by omega
    have hn4 : y + m ≤ (cap : Int) := by omega
    have hn5 : (y + m).toNat = n := by omega
    go_region_held3 (fun w' => w'.cell? ⟨w.heap.size, 0, none⟩ = some (.int .i64 c) ∧ w'.cell? ⟨w.heap.size, 1, none⟩ = some (.int .i64 y) ∧ w'.cell? ⟨w.heap.size, 2, none⟩ = some (.slice a l.length cap)) (simp [*, go_sem])
      (first
        | (go_at_call 44; refine (HT.out _ (by first | exact hB1 | exact (below_drewN hB1 _) | exact (below_drewN hB1 _).drew | exact (below_drewN hB1 _).drew.drew)).mono ?_; rintro e w2 ⟨a2, cap2, rfl, ho2, hb2⟩; have hz2 : w1.heap.size ≤ w2.heap.size := hb2.size; obtain ⟨hcc2, hff2⟩ := bcell hb2; have s0 : w2.cell? ⟨w.heap.size, 0, none⟩ = some (.int .i64 c) := (hcc2 w.heap.size 0 (show w.heap.size < w1.heap.size by omega)).trans q0; have s1 : w2.cell? ⟨w.heap.size, 1, none⟩ = some (.int .i64 y) := (hcc2 w.heap.size 1 (show w.heap.size < w1.heap.size by omega)).trans q1; have s2 : w2.cell? ⟨w.heap.size, 2, none⟩ = some (.slice a l.length cap) := (hcc2 w.heap.size 2 (show w.heap.size < w1.heap.size by omega)).trans q2; have r0 : w2.cell? ⟨w.heap.size + 1, 0, none⟩ = some (.int .i64 0) := (hcc2 _ 0 (show w.heap.size + 1 < w1.heap.size by omega)).trans p0; have r1 : w2.cell? ⟨w.heap.size + 1, 1, none⟩ = some (.int .i64 0) := (hcc2 _ 1 (show w.heap.size + 1 < w1.heap.size by omega)).trans p1; have r2 : w2.cell? ⟨w.heap.size + 1, 2, none⟩ = some (.slice none 0 0) := (hcc2 _ 2 (show w.heap.size + 1 < w1.heap.size by omega)).trans p2; have fz : ∀ i, w2.frozen? ⟨w.heap.size + 1, i, none⟩ = false := (fun i => (hff2 _ i (show w.heap.size + 1 < w1.heap.size by omega)).trans (pf i)); have fz0 := fz 0; have fz1 := fz 1; have fz2 := fz 2))
    all_goals go_wp2
    all_goals refine bodyPost_ret (v := .agg #[.int .i64 c, .int .i64 y, .slice a2 n cap2]) (by simp [results, Try.results19, go_sem, r0, r1, r2]) rfl ⟨_, _, rfl, ?_, ?_⟩
    · exact (((ho2.setLow (b := w.heap.size + 1) (show w.heap.size + 1 < w1.heap.size by omega) _).setLow (b := w.heap.size + 1) (show w.heap.size + 1 < w1.heap.size by omega) _).setLow (b := w.heap.size + 1) (show w.heap.size + 1 < w1.heap.size by omega) _).le (show w.heap.size ≤ w1.heap.size by omega)
    · exact (((hB1.trans (below_trans_drew hb2 (show w.heap.size ≤ w1.heap.size by omega))).setCell (Nat.le_succ _) _).setCell (Nat.le_succ _) _).setCell (Nat.le_succ _) _

end Go.Proofs.Ytdobgdbceonjkac
