/-
  impl.codeOf, impl.faultOf.
-/
import Derived.Test.YtafmjckpbcijoaaGreatDoorAs
import Derived.Test.YtafmjckpbcijoaaGreatDoorGround3
namespace Go.Proofs.YtafmjckpbcijoaaGreatDoor
open Go.RowKit Go.Extern.Stop Go.Stop Go.Extern
set_option linter.unusedVariables false

set_option maxHeartbeats 2000000 in
theorem codeOf_ref (i : Nat) (f : Int) (w : World) (A : Nat → Addr) (B : Nat) (hs : Sents w A B) (h1 : 1 ≤ i) (h6 : i ≤ 6) :
    Calls Tryz.prog 60 #[refV (A i) f] w fun e w' => e = .returned (.int .i64 i) ∧ Below w.heap.size w w' := by
  have y1 : True := trivial
  have y2 : True := trivial
  have y3 : True := trivial
  have y4 : True := trivial
  have y5 : True := trivial
  have y6 : True := trivial
  have c1 := hs.g1
  have hB := Below.refl w.heap.size w
  obtain rfl | rfl | rfl | rfl | rfl | rfl : i = 1 ∨ i = 2 ∨ i = 3 ∨ i = 4 ∨ i = 5 ∨ i = 6 := by omega
  all_goals
    go_enter Tryz.func60, Tryz.ntmps60
    go_wp2_with (first
      | (go_at_call 76; clear y1; refine (is_at hs _ 1 f (by decide) (by decide) (by decide) (by decide)).mono ?_; rintro e w1 ⟨rfl, hb⟩; replace hs := hs.below hb; replace hB := hB.trans (hb.mono hB.size); have c2 := hs.g2)
      | (go_at_call 76; clear y2; refine (is_at hs _ 2 f (by decide) (by decide) (by decide) (by decide)).mono ?_; rintro e w2 ⟨rfl, hb⟩; replace hs := hs.below hb; replace hB := hB.trans (hb.mono hB.size); have c3 := hs.g3)
      | (go_at_call 76; clear y3; refine (is_at hs _ 3 f (by decide) (by decide) (by decide) (by decide)).mono ?_; rintro e w3 ⟨rfl, hb⟩; replace hs := hs.below hb; replace hB := hB.trans (hb.mono hB.size); have c4 := hs.g4)
      | (go_at_call 76; clear y4; refine (is_at hs _ 4 f (by decide) (by decide) (by decide) (by decide)).mono ?_; rintro e w4 ⟨rfl, hb⟩; replace hs := hs.below hb; replace hB := hB.trans (hb.mono hB.size); have c5 := hs.g5)
      | (go_at_call 76; clear y5; refine (is_at hs _ 5 f (by decide) (by decide) (by decide) (by decide)).mono ?_; rintro e w5 ⟨rfl, hb⟩; replace hs := hs.below hb; replace hB := hB.trans (hb.mono hB.size); have c6 := hs.g6)
      | (go_at_call 76; clear y6; refine (is_at hs _ 6 f (by decide) (by decide) (by decide) (by decide)).mono ?_; rintro e w6 ⟨rfl, hb⟩; replace hs := hs.below hb; replace hB := hB.trans (hb.mono hB.size)))
    go_ret
    exact ⟨rfl, hB⟩

theorem codeOf_nil (w : World) (A : Nat → Addr) (B : Nat) (hs : Sents w A B) :
    Calls Tryz.prog 60 #[.nilIface] w fun e w' => e = .returned (.int .i64 0) ∧ w' = w := by
  have c1 := hs.g1
  have c2 := hs.g2
  have c3 := hs.g3
  have c4 := hs.g4
  have c5 := hs.g5
  have c6 := hs.g6
  go_enter Tryz.func60, Tryz.ntmps60
  go_wp2_with (go_at_call 76; refine (is_nil _ _).mono ?_; rintro e w1 ⟨rfl, rfl⟩)
  go_ret
  exact ⟨rfl, rfl⟩

theorem faultOf_nil (w : World) :
    Calls Tryz.prog 61 #[.nilIface] w fun e w' => e = .returned (.int .i64 0) ∧ Below w.heap.size w w' := by
  go_enter Tryz.func61, Tryz.ntmps61
  go_wp2_with (go_at_call 77; refine (as_nil _ _).mono ?_; rintro e w1 ⟨rfl, rfl⟩)
  go_ret
  exact ⟨rfl, (Below.refl _ _).alloc (Nat.le_refl _) _⟩

set_option maxHeartbeats 2000000 in
theorem faultOf_ref (i : Nat) (f : Int) (w : World) (A : Nat → Addr) (B : Nat) (hs : Sents w A B) :
    Calls Tryz.prog 61 #[refV (A i) f] w fun e w' => e = .returned (.int .i64 f) ∧ Below w.heap.size w w' := by
  have hg := (hs.below ((Below.refl _ _).alloc (Nat.le_refl _) (.cells #[.nilIface, .int .i64 0] 102))).ty
  have h0 : (w.alloc (.cells #[.nilIface, .int .i64 0] 102)).cell? ⟨w.heap.size, 0, none⟩ = some .nilIface := by simp
  have h1 : (w.alloc (.cells #[.nilIface, .int .i64 0] 102)).cell? ⟨w.heap.size, 1, none⟩ = some (.int .i64 0) := by simp
  have hf : ∀ i, (w.alloc (.cells #[.nilIface, .int .i64 0] 102)).frozen? ⟨w.heap.size, i, none⟩ = false := by simp
  go_enter Tryz.func61, Tryz.ntmps61
  go_wp2_with (go_at_call 77; refine (as_hit (A i) f _ _ _ _ hg h0 h1 hf).mono ?_; rintro e w1 ⟨rfl, rfl⟩)
  go_ret
  exact ⟨rfl, (((((Below.refl _ _).alloc (Nat.le_refl _) _).alloc (by simp) _).alloc (by simp; omega) _).alloc (by simp; omega) _).alloc (by simp; omega) _⟩
end Go.Proofs.YtafmjckpbcijoaaGreatDoor
