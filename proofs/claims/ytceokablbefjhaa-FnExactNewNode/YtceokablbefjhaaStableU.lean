/-
  A stable state as a law takes it: sz, to, eq, mark.
-/
import Derived.Test.YtceokablbefjhaaEntsU
namespace Go.Proofs.Ytceokablbefjhaa
open Go.RowKit
set_option linter.unusedVariables false

set_option maxHeartbeats 1000000 in
theorem szStable_u (t v : Int) (u : Value) (l : List Ent) (w : World) (hv : Es w u l) (left : Int) (h0 : 0 ≤ left) (h1 : left ≤ 1048576) :
    Calls Try.prog 31 #[.agg #[.int .i64 t, .int .i64 v, u], .int .i64 left] w fun e w' => (∃ s : Int, e = .returned (.int .i64 s) ∧ s ≤ 1048576 ∧ (0 ≤ s → l.length ≤ 1048576)) ∧ Below w.heap.size w w' := by
  have HV : Hid (Es w u l) := hv
  obtain ⟨hl, hf, a, cap, rfl, hc⟩ := hv
  clear hc hf
  have hb0 : Hid (Below w.heap.size w (w.alloc (.cells #[.int .i64 t, .int .i64 v, .slice a l.length cap] 58))) := (Below.refl _ _).alloc (Nat.le_refl _) _
  go_enter Try.func31, Try.ntmps31
  go_wp2_with (go_at_call 78; refine (szEntryS_left _ l _ (HV.out.below hb0.out) left h0 h1).mono ?_; rintro e w1 ⟨⟨s, rfl, hs, hs'⟩, hb⟩)
  all_goals go_ret
  all_goals refine ⟨⟨_, rfl, by omega, fun h => hs' (by omega)⟩, hb0.out.trans (hb.mono (by simp))⟩

set_option maxHeartbeats 2000000 in
set_option maxRecDepth 100000 in
theorem toStable_u (t v : Int) (u : Value) (l : List Ent) (w : World) (hv : Es w u l) (hl : l.length ≤ 1048576) :
    Calls Try.prog 33 #[.agg #[.int .i64 t, .int .i64 v, u]] w fun e w' => ∃ q, e = .returned (.agg #[.int .i64 t, .int .i64 v, .slice (some ⟨q, 0, none⟩) l.length l.length]) ∧ EntsN w.heap.size w'.heap.size w' q l ∧ Below w.heap.size w w' := by
  have HV : Hid (Es w u l) := hv
  obtain ⟨hl0, hf, a, cap, rfl, hc⟩ := hv
  clear hc hf
  have hb0 : Hid (Below w.heap.size w (((w.alloc (.cells #[.int .i64 t, .int .i64 v, .slice a l.length cap] 58)).alloc (.cells #[.int .i64 0, .int .i64 0, .slice none 0 0] 64)).alloc (.cells #[.int .i64 t, .int .i64 v, .slice none 0 0] 64))) := (((Below.refl _ _).alloc (Nat.le_refl _) _).alloc (by simp) _).alloc (by simp; omega) _
  go_enter Try.func33, Try.ntmps33
  go_wp2_with (go_at_call 83; refine (toEntryS_u _ l _ (HV.out.below hb0.out) hl).mono ?_; rintro e w1 ⟨q, rfl, ho1, hb1⟩; have hq1 := ho1.lo; obtain ⟨hcc, hff⟩ := bcell hb1; have hz1 := hb1.size; simp at hz1 hq1; have r0 : w1.cell? ⟨w.heap.size + 1, 0, none⟩ = some (.int .i64 0) := (hcc _ 0 (by simp)).trans (by simp [go_sem]); have r1 : w1.cell? ⟨w.heap.size + 1, 1, none⟩ = some (.int .i64 0) := (hcc _ 1 (by simp)).trans (by simp [go_sem]); have r2 : w1.cell? ⟨w.heap.size + 1, 2, none⟩ = some (.slice none 0 0) := (hcc _ 2 (by simp)).trans (by simp [go_sem]); have q0 : w1.cell? ⟨w.heap.size + 2, 0, none⟩ = some (.int .i64 t) := (hcc _ 0 (by simp)).trans (by simp [go_sem]); have q1 : w1.cell? ⟨w.heap.size + 2, 1, none⟩ = some (.int .i64 v) := (hcc _ 1 (by simp)).trans (by simp [go_sem]); have q2 : w1.cell? ⟨w.heap.size + 2, 2, none⟩ = some (.slice none 0 0) := (hcc _ 2 (by simp)).trans (by simp [go_sem]))
  refine bodyPost_ret (v := .agg #[.int .i64 t, .int .i64 v, .slice (some ⟨q, 0, none⟩) l.length l.length]) (by simp [results, Try.results33, go_sem, r0, r1, r2]) rfl ⟨q, rfl, ?_, ?_⟩
  · have hk : ∀ (x : World) (b i : Nat) (y : Value), b ≠ q → EntsN w.heap.size w1.heap.size x q l → EntsN w.heap.size w1.heap.size (x.setCell ⟨b, i, none⟩ y) q l := fun x b i y hne h => by
      have hb : (x.setCell ⟨b, i, none⟩ y).heap[q]? = x.heap[q]? := Below.heap_setCell _ _ _ _ (fun e => by simp only at e; omega)
      exact ⟨h.es.block hb, there_block' h.room hb, h.lo, h.hi, lt_keep hb h.in_⟩
    have h1 : EntsN w.heap.size w1.heap.size w1 q l := ⟨ho1.es, ho1.room, by omega, ho1.hi, ho1.in_⟩
    have h4 := hk _ (w.heap.size + 1) 2 (.slice (some ⟨q, 0, none⟩) l.length l.length) (by omega) (hk _ (w.heap.size + 1) 1 (.int .i64 v) (by omega) (hk _ (w.heap.size + 1) 0 (.int .i64 t) (by omega) (hk w1 (w.heap.size + 1 + 1) 2 (.slice (some ⟨q, 0, none⟩) l.length l.length) (by omega) h1)))
    exact ⟨h4.es, h4.room, h4.lo, h4.in_, h4.in_⟩
  · exact ((((hb0.out.trans (hb1.mono (by simp; omega))).setCell (show w.heap.size ≤ w.heap.size + 1 + 1 by omega) _).setCell (Nat.le_succ _) _).setCell (Nat.le_succ _) _).setCell (Nat.le_succ _) _

set_option maxHeartbeats 1000000 in
set_option maxRecDepth 100000 in
theorem eqStable_e (t v : Int) (l : List Ent) (w : World) {q q' : Nat} (hv : Es w (.slice (some ⟨q, 0, none⟩) l.length l.length) l) (hu : Es w (.slice (some ⟨q', 0, none⟩) l.length l.length) l) :
    Calls Try.prog 36 #[.agg #[.int .i64 t, .int .i64 v, .slice (some ⟨q, 0, none⟩) l.length l.length], .agg #[.int .i64 t, .int .i64 v, .slice (some ⟨q', 0, none⟩) l.length l.length]] w fun e w' => e = .returned (.bool true) ∧ Below w.heap.size w w' := by
  have HT : Hid (∀ w', Below w.heap.size w w' → Calls Try.prog 85 #[.slice (some ⟨q, 0, none⟩) l.length l.length, .slice (some ⟨q', 0, none⟩) l.length l.length] w' fun e w'' => e = .returned (.bool true) ∧ Below w'.heap.size w' w'') := fun w' hb => eqEntryS_same _ _ l w' (hv.below hb) (hu.below hb)
  have hb0 : Hid (Below w.heap.size w ((w.alloc (.cells #[.int .i64 t, .int .i64 v, .slice (some ⟨q, 0, none⟩) l.length l.length] 64)).alloc (.cells #[.int .i64 t, .int .i64 v, .slice (some ⟨q', 0, none⟩) l.length l.length] 64))) := ((Below.refl _ _).alloc (Nat.le_refl _) _).alloc (by simp) _
  clear hv hu
  go_enter Try.func36, Try.ntmps36
  go_wp2_with (go_at_call 85; refine (HT.out _ hb0.out).mono ?_; rintro e w1 ⟨rfl, hb1⟩)
  go_ret
  exact ⟨rfl, hb0.out.trans (hb1.mono (by simp; omega))⟩

theorem eqStable_u (t v : Int) (l : List Ent) (w : World) {lo hi lo' hi' q q' : Nat} (hv : EntsN lo hi w q l) (hu : EntsN lo' hi' w q' l) :
    Calls Try.prog 36 #[.agg #[.int .i64 t, .int .i64 v, .slice (some ⟨q, 0, none⟩) l.length l.length], .agg #[.int .i64 t, .int .i64 v, .slice (some ⟨q', 0, none⟩) l.length l.length]] w fun e w' => e = .returned (.bool true) ∧ Below w.heap.size w w' := eqStable_e t v l w hv.es hu.es

set_option maxHeartbeats 1000000 in
set_option maxRecDepth 100000 in
theorem markStable_u (t v : Int) (l : List Ent) (k0 : Nat) (w : World) {lo hi q : Nat} (hv : EntsN lo hi w q l) (hhi : hi ≤ w.heap.size) (hl : l.length ≤ 1048576) (hk0 : k0 ≤ 10000000) :
    Calls Try.prog 37 #[.agg #[.int .i64 t, .int .i64 v, .slice (some ⟨q, 0, none⟩) l.length l.length], .int .i64 k0] w fun e w' => (∃ k : Nat, e = .returned (.int .i64 k) ∧ k ≤ k0 + 8000000) ∧ Turned lo hi w w' := by
  have HT : Hid (∀ w', Below w.heap.size w w' → Calls Try.prog 86 #[.slice (some ⟨q, 0, none⟩) l.length l.length, .int .i64 k0] w' fun e w'' => e = .returned (.int .i64 ((k0 + 7 * l.length : Nat) : Int)) ∧ Turned lo hi w' w'') := fun w' hb => markEntryS_u l k0 w' (hv.keep fun k _ h2 => hb.block k (by omega)) hl hk0
  have hb0 : Hid (Below w.heap.size w (w.alloc (.cells #[.int .i64 t, .int .i64 v, .slice (some ⟨q, 0, none⟩) l.length l.length] 64))) := (Below.refl _ _).alloc (Nat.le_refl _) _
  clear hv
  go_enter Try.func37, Try.ntmps37
  go_wp2_with (go_at_call 86; refine (HT.out _ hb0.out).mono ?_; rintro e w1 ⟨rfl, hg1⟩)
  go_ret
  exact ⟨⟨k0 + 7 * l.length, rfl, by omega⟩, (Turned.of_below lo hi hb0.out).trans hg1⟩
end Go.Proofs.Ytceokablbefjhaa
