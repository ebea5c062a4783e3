/-
  A stable state's form, both.
-/
import Derived.Test.YtjoflnnomebkpaaDoorRise
import Derived.Test.YtjoflnnomebkpaaDoorGround
import Derived.Deep.RegionHeld3
namespace Go.Proofs.YtjoflnnomebkpaaDoor
open Go.RowKit
set_option linter.unusedVariables false
set_option linter.unusedSimpArgs false

def hardOk (t v : Int) : Bool := inB t 0 1073741824 && (inB v 0 7 && (decide (0 < t) || v == 0))
/-- a stable state is well-formed -/
def stB (t v : Int) (l : List Ent) : Bool := hardOk t v && (decide (l.length ≤ 4096) && fitL t 1 l)
set_option maxHeartbeats 4000000 in
set_option maxRecDepth 100000 in
theorem stableFits_any (t v : Int) (u : Value) (l : List Ent) (w : World) (hv : Es w u l) (hll : l.length ≤ 1048576) :
    Calls Tryd.prog 58 #[.agg #[.int .i64 t, .int .i64 v, u]] w fun e w' => e = .returned (.bool (stB t v l)) ∧ Below w.heap.size w w' := by
  have HV : Hid (Es w u l) := hv
  obtain ⟨hl, hf, a, cap, rfl, hc⟩ := hv
  clear hc hf
  have hb0 : Hid (Below w.heap.size w (w.alloc (.cells #[.int .i64 t, .int .i64 v, .slice a l.length cap] 39))) := (Below.refl _ _).alloc (Nat.le_refl _) _
  have HH : Hid (∀ u, Calls Tryd.prog 90 #[.agg #[.int .i64 t, .int .i64 v]] u fun e w' => e = .returned (.bool (hardOk t v)) ∧ Below u.heap.size u w') := fun u => hardFits_any t v u
  cases hA : hardOk t v
  · have e : stB t v l = false := by simp [stB, hA]
    rw [e]
    go_enter Tryd.func58, Tryd.ntmps58
    go_wp2_with (go_at_call 90; refine (HH.out _).mono ?_; rintro e w1 ⟨rfl, hb⟩; rw [hA])
    go_ret
    exact ⟨rfl, hb0.out.trans (hb.mono (by simp))⟩
  · by_cases hn : l.length ≤ 4096
    · have e : stB t v l = fitL t 1 l := by simp [stB, hA, hn]
      rw [e]
      go_enter Tryd.func58, Tryd.ntmps58
      go_wp2_with (first
        | (go_at_call 90; refine (HH.out _).mono ?_; rintro e w1 ⟨rfl, hb⟩; rw [hA]; obtain ⟨hc, _⟩ := bcell hb; have z1 : w.heap.size < w1.heap.size := (by have := hb.size; simp at this; omega); have c0 : w1.cell? ⟨w.heap.size, 0, none⟩ = some (.int .i64 t) := (hc _ 0 (by simp)).trans (by simp); have c2 : w1.cell? ⟨w.heap.size, 2, none⟩ = some (.slice a l.length cap) := (hc _ 2 (by simp)).trans (by simp); have HB : Hid (Below w.heap.size w w1) := hb0.out.trans (hb.mono (by simp)); clear hb hc)
        | (go_at_call 91; refine (entriesRise_any _ 1 t l _ (HV.out.below HB.out) hll).mono ?_; rintro e w2 ⟨rfl, hb⟩; replace HB : Hid (Below w.heap.size w w2) := HB.out.trans (hb.mono (by omega)); clear hb))
      go_ret
      exact ⟨rfl, HB.out⟩
    · have e : stB t v l = false := by simp [stB, hn]
      rw [e]
      go_enter Tryd.func58, Tryd.ntmps58
      go_wp2_with (go_at_call 90; refine (HH.out _).mono ?_; rintro e w1 ⟨rfl, hb⟩; rw [hA]; obtain ⟨hc, _⟩ := bcell hb; have z1 : w.heap.size < w1.heap.size := (by have := hb.size; simp at this; omega); have c0 : w1.cell? ⟨w.heap.size, 0, none⟩ = some (.int .i64 t) := (hc _ 0 (by simp)).trans (by simp); have c2 : w1.cell? ⟨w.heap.size, 2, none⟩ = some (.slice a l.length cap) := (hc _ 2 (by simp)).trans (by simp); have HB : Hid (Below w.heap.size w w1) := hb0.out.trans (hb.mono (by simp)); clear hb hc)
      go_ret
      exact ⟨rfl, HB.out⟩

set_option maxHeartbeats 4000000 in
set_option maxRecDepth 100000 in
theorem stableOk_any (t v : Int) (u : Value) (l : List Ent) (w : World) (hv : Es w u l) (hll : l.length ≤ 1048576) :
    Calls Tryd.prog 56 #[.agg #[.int .i64 t, .int .i64 v, u]] w fun e w' => e = .returned (.bool (stB t v l)) ∧ Below w.heap.size w w' := by
  have HV : Hid (Es w u l) := hv
  obtain ⟨hl, hf, a, cap, rfl, hc⟩ := hv
  clear hc hf
  have hb0 : Hid (Below w.heap.size w (w.alloc (.cells #[.int .i64 t, .int .i64 v, .slice a l.length cap] 39))) := (Below.refl _ _).alloc (Nat.le_refl _) _
  have g1 : True := trivial
  cases h1 : inB t 0 1073741824
  · have e : stB t v l = false := by simp [stB, hardOk, h1]
    rw [e]
    go_enter Tryd.func56, Tryd.ntmps56
    go_wp2_with (go_at_call 80; refine (l1in_any t 0 1073741824 _).mono ?_; rintro e w1 ⟨rfl, rfl⟩; rw [h1])
    go_ret
    exact ⟨rfl, hb0.out⟩
  · cases h2 : inB v 0 7
    · have e : stB t v l = false := by simp [stB, hardOk, h1, h2]
      rw [e]
      go_enter Tryd.func56, Tryd.ntmps56
      go_wp2_with (first
        | (go_at_call 80; clear g1; refine (l1in_any t 0 1073741824 _).mono ?_; rintro e w1 ⟨rfl, rfl⟩; rw [h1])
        | (go_at_call 80; refine (l1in_any v 0 7 _).mono ?_; rintro e w1 ⟨rfl, rfl⟩; rw [h2]))
      go_ret
      exact ⟨rfl, hb0.out⟩
    · by_cases h3 : t = 0 ∧ v ≠ 0
      · obtain ⟨rfl, h3⟩ := h3
        have e : stB 0 v l = false := by simp [stB, hardOk, h3]
        rw [e]
        go_enter Tryd.func56, Tryd.ntmps56
        go_wp2_with (first
          | (go_at_call 80; clear g1; refine (l1in_any 0 0 1073741824 _).mono ?_; rintro e w1 ⟨rfl, rfl⟩; rw [h1])
          | (go_at_call 80; refine (l1in_any v 0 7 _).mono ?_; rintro e w1 ⟨rfl, rfl⟩; rw [h2]))
        go_ret
        exact ⟨rfl, hb0.out⟩
      · have hA : hardOk t v = true := by
          have := (inB_iff _ _ _).1 h1
          simp only [hardOk, h1, h2, Bool.true_and, Bool.or_eq_true, decide_eq_true_eq, beq_iff_eq]
          omega
        have e : stB t v l = (decide (l.length ≤ 4096) && fitL t 1 l) := by simp [stB, hA]
        rw [e]
        by_cases hn : l.length ≤ 4096
        · rw [decide_eq_true hn, Bool.true_and]
          have h3' : t = 0 → v = 0 := fun h => Decidable.byContradiction fun h' => h3 ⟨h, h'⟩
          clear h3
          by_cases h0 : t = 0
          · obtain rfl := h0
            obtain rfl := h3' rfl
            clear h3'
            go_enter Tryd.func56, Tryd.ntmps56
            go_wp2_with (first
              | (go_at_call 80; clear g1; refine (l1in_any 0 0 1073741824 _).mono ?_; rintro e w1 ⟨rfl, rfl⟩; rw [h1])
              | (go_at_call 80; refine (l1in_any 0 0 7 _).mono ?_; rintro e w1 ⟨rfl, rfl⟩; rw [h2])
              | (go_at_call 89; refine (l1rising_any _ 1 0 l _ (HV.out.below hb0.out) hll).mono ?_; rintro e w2 ⟨rfl, hb⟩))
            go_ret
            exact ⟨rfl, hb0.out.trans (hb.mono (by simp))⟩
          · clear h3'
            go_enter Tryd.func56, Tryd.ntmps56
            go_wp2_with (first
              | (go_at_call 80; clear g1; refine (l1in_any t 0 1073741824 _).mono ?_; rintro e w1 ⟨rfl, rfl⟩; rw [h1])
              | (go_at_call 80; refine (l1in_any v 0 7 _).mono ?_; rintro e w1 ⟨rfl, rfl⟩; rw [h2])
              | (go_at_call 89; refine (l1rising_any _ 1 t l _ (HV.out.below hb0.out) hll).mono ?_; rintro e w2 ⟨rfl, hb⟩))
            go_ret
            exact ⟨rfl, hb0.out.trans (hb.mono (by simp))⟩
        · rw [decide_eq_false hn, Bool.false_and]
          have h3' : t = 0 → v = 0 := fun h => Decidable.byContradiction fun h' => h3 ⟨h, h'⟩
          clear h3
          by_cases h0 : t = 0
          · obtain rfl := h0
            obtain rfl := h3' rfl
            clear h3'
            go_enter Tryd.func56, Tryd.ntmps56
            go_wp2_with (first
              | (go_at_call 80; clear g1; refine (l1in_any 0 0 1073741824 _).mono ?_; rintro e w1 ⟨rfl, rfl⟩; rw [h1])
              | (go_at_call 80; refine (l1in_any 0 0 7 _).mono ?_; rintro e w1 ⟨rfl, rfl⟩; rw [h2]))
            go_ret
            exact ⟨rfl, hb0.out⟩
          · clear h3'
            go_enter Tryd.func56, Tryd.ntmps56
            go_wp2_with (first
              | (go_at_call 80; clear g1; refine (l1in_any t 0 1073741824 _).mono ?_; rintro e w1 ⟨rfl, rfl⟩; rw [h1])
              | (go_at_call 80; refine (l1in_any v 0 7 _).mono ?_; rintro e w1 ⟨rfl, rfl⟩; rw [h2]))
            go_ret
            exact ⟨rfl, hb0.out⟩

end Go.Proofs.YtjoflnnomebkpaaDoor
