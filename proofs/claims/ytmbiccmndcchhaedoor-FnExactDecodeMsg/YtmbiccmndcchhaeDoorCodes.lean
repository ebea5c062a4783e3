/-
  The six sentinels; impl.codeOf, impl.faultOf.
-/
import Derived.Test.YtmbiccmndcchhaeDoorAs
import Derived.Test.YtmbiccmndcchhaeDoorGround
namespace Go.Proofs.YtmbiccmndcchhaeDoor
open Go.RowKit Go.Extern.Stop Go.Stop Go.Extern
set_option linter.unusedVariables false

/-- the six sentinels lie at A 1 .. A 6, in the order of the codes -/
structure Sents (w : World) (A : Nat → Addr) (B : Nat) : Prop where
  g1 : w.cell? ⟨3, 0, none⟩ = some (sentV (A 1))
  g2 : w.cell? ⟨4, 0, none⟩ = some (sentV (A 2))
  g3 : w.cell? ⟨5, 0, none⟩ = some (sentV (A 3))
  g4 : w.cell? ⟨0, 0, none⟩ = some (sentV (A 4))
  g5 : w.cell? ⟨6, 0, none⟩ = some (sentV (A 5))
  g6 : w.cell? ⟨1, 0, none⟩ = some (sentV (A 6))
  ty : w.cell? ⟨7, 0, none⟩ = some (.iface 156 (.agg #[.pointer (some ⟨8, 63, none⟩)]))
  row : ∀ i, 1 ≤ i → i ≤ 6 → ∃ c t, w.heap[(A i).block]? = some (.cells c t (0, 0))
  ne : ∀ i j, 1 ≤ i → i ≤ 6 → 1 ≤ j → j ≤ 6 → i ≠ j → A i ≠ A j
  gl : 8 ≤ B
  lt : ∀ i, 1 ≤ i → i ≤ 6 → (A i).block < B
  le : B ≤ w.heap.size

theorem Sents.kept {w w' : World} {A : Nat → Addr} {B : Nat} (h : Sents w A B) (hb : Below B w w') : Sents w' A B := by
  have hg := h.gl
  have c : ∀ {k o : Nat} {v : Value}, k < B → w.cell? ⟨k, o, none⟩ = some v → w'.cell? ⟨k, o, none⟩ = some v := fun {k o v} hk hc => by rw [hb.cell (p := ⟨k, o, none⟩) hk]; exact hc
  refine ⟨c (by omega) h.g1, c (by omega) h.g2, c (by omega) h.g3, c (by omega) h.g4, c (by omega) h.g5, c (by omega) h.g6, c (by omega) h.ty, fun i h1 h6 => ?_, h.ne, hg, h.lt, Nat.le_trans h.le hb.size⟩
  obtain ⟨x, t, e⟩ := h.row i h1 h6
  exact ⟨x, t, (hb.block _ (h.lt i h1 h6)).trans e⟩
theorem Sents.below {w w' : World} {A : Nat → Addr} {B : Nat} (h : Sents w A B) (hb : Below w.heap.size w w') : Sents w' A B := h.kept (hb.mono h.le)

theorem is_at {w : World} {A : Nat → Addr} {B : Nat} (hs : Sents w A B) (i j : Nat) (f : Int) (h1 : 1 ≤ i) (h6 : i ≤ 6) (k1 : 1 ≤ j) (k6 : j ≤ 6) :
    Calls Tryd.prog 61 #[refV (A i) f, sentV (A j)] w fun e w' => e = .returned (.bool (decide (i = j))) ∧ Below w.heap.size w w' := by
  by_cases e : i = j
  · subst e
    simpa using is_same (A i) f w
  · obtain ⟨c, t, hc⟩ := hs.row i h1 h6
    obtain ⟨c', t', hc'⟩ := hs.row j k1 k6
    simpa [e] using is_other (A i) (A j) f c c' t t' w (hs.ne i j h1 h6 k1 k6 e) hc hc'

set_option maxHeartbeats 2000000 in
theorem codeOf_ref (i : Nat) (f : Int) (w : World) (A : Nat → Addr) (B : Nat) (hs : Sents w A B) (h1 : 1 ≤ i) (h6 : i ≤ 6) :
    Calls Tryd.prog 41 #[refV (A i) f] w fun e w' => e = .returned (.int .i64 i) ∧ Below w.heap.size w w' := by
  have y1 : True := trivial
  have y2 : True := trivial
  have y3 : True := trivial
  have y4 : True := trivial
  have y5 : True := trivial
  have y6 : True := trivial
  have c1 := hs.g1
  have hB := Below.refl w.heap.size w
  obtain rfl | rfl | rfl | rfl | rfl | rfl : i = 1 ∨ i = 2 ∨ i = 3 ∨ i = 4 ∨ i = 5 ∨ i = 6 := by omega
  all_goals
    go_enter Tryd.func41, Tryd.ntmps41
    go_wp2_with (first
      | (go_at_call 61; clear y1; refine (is_at hs _ 1 f (by decide) (by decide) (by decide) (by decide)).mono ?_; rintro e w1 ⟨rfl, hb⟩; replace hs := hs.below hb; replace hB := hB.trans (hb.mono hB.size); have c2 := hs.g2)
      | (go_at_call 61; clear y2; refine (is_at hs _ 2 f (by decide) (by decide) (by decide) (by decide)).mono ?_; rintro e w2 ⟨rfl, hb⟩; replace hs := hs.below hb; replace hB := hB.trans (hb.mono hB.size); have c3 := hs.g3)
      | (go_at_call 61; clear y3; refine (is_at hs _ 3 f (by decide) (by decide) (by decide) (by decide)).mono ?_; rintro e w3 ⟨rfl, hb⟩; replace hs := hs.below hb; replace hB := hB.trans (hb.mono hB.size); have c4 := hs.g4)
      | (go_at_call 61; clear y4; refine (is_at hs _ 4 f (by decide) (by decide) (by decide) (by decide)).mono ?_; rintro e w4 ⟨rfl, hb⟩; replace hs := hs.below hb; replace hB := hB.trans (hb.mono hB.size); have c5 := hs.g5)
      | (go_at_call 61; clear y5; refine (is_at hs _ 5 f (by decide) (by decide) (by decide) (by decide)).mono ?_; rintro e w5 ⟨rfl, hb⟩; replace hs := hs.below hb; replace hB := hB.trans (hb.mono hB.size); have c6 := hs.g6)
      | (go_at_call 61; clear y6; refine (is_at hs _ 6 f (by decide) (by decide) (by decide) (by decide)).mono ?_; rintro e w6 ⟨rfl, hb⟩; replace hs := hs.below hb; replace hB := hB.trans (hb.mono hB.size)))
    go_ret
    exact ⟨rfl, hB⟩

theorem codeOf_nil (w : World) (A : Nat → Addr) (B : Nat) (hs : Sents w A B) :
    Calls Tryd.prog 41 #[.nilIface] w fun e w' => e = .returned (.int .i64 0) ∧ w' = w := by
  have c1 := hs.g1
  have c2 := hs.g2
  have c3 := hs.g3
  have c4 := hs.g4
  have c5 := hs.g5
  have c6 := hs.g6
  go_enter Tryd.func41, Tryd.ntmps41
  go_wp2_with (go_at_call 61; refine (is_nil _ _).mono ?_; rintro e w1 ⟨rfl, rfl⟩)
  go_ret
  exact ⟨rfl, rfl⟩

theorem faultOf_nil (w : World) :
    Calls Tryd.prog 42 #[.nilIface] w fun e w' => e = .returned (.int .i64 0) ∧ Below w.heap.size w w' := by
  go_enter Tryd.func42, Tryd.ntmps42
  go_wp2_with (go_at_call 62; refine (as_nil _ _).mono ?_; rintro e w1 ⟨rfl, rfl⟩)
  go_ret
  exact ⟨rfl, (Below.refl _ _).alloc (Nat.le_refl _) _⟩

set_option maxHeartbeats 2000000 in
theorem faultOf_ref (i : Nat) (f : Int) (w : World) (A : Nat → Addr) (B : Nat) (hs : Sents w A B) :
    Calls Tryd.prog 42 #[refV (A i) f] w fun e w' => e = .returned (.int .i64 f) ∧ Below w.heap.size w w' := by
  have hg := (hs.below ((Below.refl _ _).alloc (Nat.le_refl _) (.cells #[.nilIface, .int .i64 0] 95))).ty
  have h0 : (w.alloc (.cells #[.nilIface, .int .i64 0] 95)).cell? ⟨w.heap.size, 0, none⟩ = some .nilIface := by simp
  have h1 : (w.alloc (.cells #[.nilIface, .int .i64 0] 95)).cell? ⟨w.heap.size, 1, none⟩ = some (.int .i64 0) := by simp
  have hf : ∀ i, (w.alloc (.cells #[.nilIface, .int .i64 0] 95)).frozen? ⟨w.heap.size, i, none⟩ = false := by simp
  go_enter Tryd.func42, Tryd.ntmps42
  go_wp2_with (go_at_call 62; refine (as_hit (A i) f _ _ _ _ hg h0 h1 hf).mono ?_; rintro e w1 ⟨rfl, rfl⟩)
  go_ret
  exact ⟨rfl, (((((Below.refl _ _).alloc (Nat.le_refl _) _).alloc (by simp) _).alloc (by simp; omega) _).alloc (by simp; omega) _).alloc (by simp; omega) _⟩
end Go.Proofs.YtmbiccmndcchhaeDoor
