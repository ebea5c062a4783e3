/-
  laws.eqRecovery, laws.markRecovery, laws.heldRecovery.
-/
import Derived.Test.YtlfnlhbkagjheaaDoorMarkOwn
import Derived.Test.YtlfnlhbkagjheaaDoorEqEnts
import Derived.Test.YtlfnlhbkagjheaaDoorEntsOwn
namespace Go.Proofs.YtlfnlhbkagjheaaDoor
open Go.RowKit
set_option linter.unusedVariables false
set_option linter.unusedSimpArgs false

set_option maxHeartbeats 4000000 in
set_option maxRecDepth 100000 in
theorem markRecovery_own (x0 x1 x2 x3 x4 : Int) (a : Option Addr) (n cap : Nat) (w : World) (B : Nat) (l : List Ent) (ho : OwnE w B (.slice a n cap) l) (hl : l.length = n) (hn : n ≤ 1048576) :
    Calls Tryd.prog 11 #[.agg #[.int .i64 x0, .int .i64 x1, .int .i64 x2, .int .i64 x3, .int .i64 x4, .slice a n cap], .int .i64 1] w fun r w' => r = .returned (.int .i64 ((1 + 7 * n : Nat) : Int)) ∧ Marked w' a n ∧ w.grownBy w' (Value.slice a n cap).ownBlock := by
  have HM : ∀ w', OwnE w' B (.slice a n cap) l → Hid (Calls Tryd.prog 29 #[.agg #[.int .i64 x3, .int .i64 x4, .slice a n cap], .int .i64 1] w' fun r w'' => r = .returned (.int .i64 ((1 + 7 * n : Nat) : Int)) ∧ Marked w'' a n ∧ w'.grownBy w'' (Value.slice a n cap).ownBlock) := fun w' ho' => by
    have HE : Hid (Calls Tryd.prog 47 #[.slice a n cap, .int .i64 1] (w'.alloc (.cells #[.int .i64 x3, .int .i64 x4, .slice a n cap] 25)) fun r w'' => r = .returned (.int .i64 ((1 + 7 * n : Nat) : Int)) ∧ Marked w'' a n ∧ World.grownBy _ w'' (Value.slice a n cap).ownBlock) := markEntryS_own a n cap _ B l (ho'.below ((Below.refl _ _).alloc (Nat.le_refl _) _)) hl hn
    go_enter Tryd.func29, Tryd.ntmps29
    go_wp2_with (go_at_call 47; refine Calls.mono HE.out ?_; rintro e w1 ⟨rfl, hm, hg⟩)
    go_ret
    exact ⟨rfl, hm, own_alloc hg⟩
  go_enter Tryd.func11, Tryd.ntmps11
  go_wp2_with (go_at_call 29; refine Calls.mono (HM _ (ho.below ((Below.refl _ _).alloc (Nat.le_refl _) _))).out ?_; rintro e w1 ⟨rfl, hm, hg⟩)
  go_ret
  exact ⟨rfl, hm, own_alloc hg⟩

set_option maxHeartbeats 4000000 in
set_option maxRecDepth 100000 in
theorem heldRecovery_own (x0 x1 x2 x3 x4 : Int) (a : Option Addr) (n cap : Nat) (w : World) (hm : Marked w a n) (hn : n ≤ 1048576) :
    Calls Tryd.prog 12 #[.agg #[.int .i64 x0, .int .i64 x1, .int .i64 x2, .int .i64 x3, .int .i64 x4, .slice a n cap], .int .i64 1] w fun r w' => r = .returned (.int .i64 ((1 + 7 * n : Nat) : Int)) ∧ Below w.heap.size w w' := by
  have HM : ∀ w', Marked w' a n → Hid (Calls Tryd.prog 30 #[.agg #[.int .i64 x3, .int .i64 x4, .slice a n cap], .int .i64 1] w' fun r w'' => r = .returned (.int .i64 ((1 + 7 * n : Nat) : Int)) ∧ Below w'.heap.size w' w'') := fun w' hm' => by
    have HE : Hid (∀ o, Calls Tryd.prog 48 #[.slice a n cap, .int .i64 1] (w'.alloc o) fun r w'' => r = .returned (.int .i64 ((1 + 7 * n : Nat) : Int)) ∧ Below (w'.alloc o).heap.size (w'.alloc o) w'') := fun o => heldEntryS_is a n cap _ hn (hm'.below ((Below.refl _ _).alloc (Nat.le_refl _) _))
    go_enter Tryd.func30, Tryd.ntmps30
    go_wp2_with (go_at_call 48; refine Calls.mono (HE.out _) ?_; rintro e w1 ⟨rfl, hb⟩)
    go_ret
    exact ⟨by first | rfl | simp, ((Below.refl _ _).alloc (Nat.le_refl _) _).trans (hb.mono (by simp))⟩
  go_enter Tryd.func12, Tryd.ntmps12
  go_wp2_with (go_at_call 30; refine Calls.mono (HM _ (hm.below ((Below.refl _ _).alloc (Nat.le_refl _) _))).out ?_; rintro e w1 ⟨rfl, hb⟩)
  go_ret
  exact ⟨by first | rfl | simp, ((Below.refl _ _).alloc (Nat.le_refl _) _).trans (hb.mono (by simp))⟩

set_option maxHeartbeats 4000000 in
set_option maxRecDepth 100000 in
theorem eqRecovery_same (x0 x1 x2 x3 x4 : Int) (a a' : Option Addr) (n n' cap cap' : Nat) (l : List Ent) (w : World) (hv : Es w (.slice a n cap) l) (hu : Es w (.slice a' n' cap') l) :
    Calls Tryd.prog 8 #[.agg #[.int .i64 x0, .int .i64 x1, .int .i64 x2, .int .i64 x3, .int .i64 x4, .slice a n cap], .agg #[.int .i64 x0, .int .i64 x1, .int .i64 x2, .int .i64 x3, .int .i64 x4, .slice a' n' cap']] w fun r w' => r = .returned (.bool true) ∧ Below w.heap.size w w' := by
  have hB : ∀ (u : World) (o1 o2 : Obj), Below u.heap.size u ((u.alloc o1).alloc o2) := fun u o1 o2 => ((Below.refl _ _).alloc (Nat.le_refl _) _).alloc (by simp) _
  have HM : ∀ u : World, Es u (.slice a n cap) l → Es u (.slice a' n' cap') l → Hid (Calls Tryd.prog 28 #[.agg #[.int .i64 x3, .int .i64 x4, .slice a n cap], .agg #[.int .i64 x3, .int .i64 x4, .slice a' n' cap']] u fun r w' => r = .returned (.bool true) ∧ Below u.heap.size u w') := fun u h1 h2 => by
    have HE : Hid (∀ o1 o2, Calls Tryd.prog 46 #[.slice a n cap, .slice a' n' cap'] ((u.alloc o1).alloc o2) fun r w' => r = .returned (.bool true) ∧ Below ((u.alloc o1).alloc o2).heap.size ((u.alloc o1).alloc o2) w') := fun o1 o2 => (eqEntryS_same _ _ l _ (h1.below (hB u o1 o2)) (h2.below (hB u o1 o2)))
    go_enter Tryd.func28, Tryd.ntmps28
    go_wp2_with (go_at_call 46; refine Calls.mono (HE.out _ _) ?_; rintro e w1 ⟨rfl, hb⟩)
    go_ret
    exact ⟨rfl, (hB u _ _).trans (hb.mono (by simp; omega))⟩
  have HS : Hid (∀ o1 o2, Calls Tryd.prog 28 #[.agg #[.int .i64 x3, .int .i64 x4, .slice a n cap], .agg #[.int .i64 x3, .int .i64 x4, .slice a' n' cap']] ((w.alloc o1).alloc o2) fun r w' => r = .returned (.bool true) ∧ Below ((w.alloc o1).alloc o2).heap.size ((w.alloc o1).alloc o2) w') := fun o1 o2 => (HM _ (hv.below (hB w o1 o2)) (hu.below (hB w o1 o2))).out
  clear hv hu HM
  go_enter Tryd.func8, Tryd.ntmps8
  go_wp2_with (go_at_call 28; refine Calls.mono (HS.out _ _) ?_; rintro e w1 ⟨rfl, hb⟩)
  go_ret
  exact ⟨rfl, (hB w _ _).trans (hb.mono (by simp; omega))⟩
end Go.Proofs.YtlfnlhbkagjheaaDoor
