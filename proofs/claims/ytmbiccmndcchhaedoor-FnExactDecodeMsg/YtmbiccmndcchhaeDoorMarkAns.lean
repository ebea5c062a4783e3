/-
  laws.markMsgAnswer, laws.heldMsgAnswer, laws.eqMsgAnswer.
-/
import Derived.Test.YtmbiccmndcchhaeDoorHeldEs
import Derived.Test.YtmbiccmndcchhaeDoorEqMsg
import Derived.Test.YtmbiccmndcchhaeDoorEntsOwn
namespace Go.Proofs.YtmbiccmndcchhaeDoor
open Go.RowKit
set_option linter.unusedVariables false
set_option linter.unusedSimpArgs false

/-- the entries of ev are marked -/
def Marked (w : World) (a : Option Addr) (n : Nat) : Prop := 0 < n → ∃ q, a = some ⟨q, 0, none⟩ ∧ q < w.heap.size ∧ ∀ i, i < n → EntAt w q (i * 7) (markEnt (1 + 7 * i))
theorem Marked.below {w w' : World} {a : Option Addr} {n : Nat} (h : Marked w a n) (hb : Below w.heap.size w w') : Marked w' a n := fun hn => by
  obtain ⟨q, e, hq, hE⟩ := h hn
  exact ⟨q, e, Nat.lt_of_lt_of_le hq hb.size, fun i hi => (hE i hi).below hb⟩

theorem OwnE.room {w : World} {B g n cap : Nat} {l : List Ent} (h : OwnE w B (.slice (some ⟨g, 0, none⟩) n cap) l) (hn : l.length = n) : Room w g n := by
  subst hn
  refine ⟨fun i hi => ?_, fun i => ?_⟩
  · rw [h.2.cellAt i hi]
    have hl : i < (entCells l).length := by rw [entCells_len]; exact hi
    exact ⟨_, List.getElem?_eq_getElem hl⟩
  · exact World.ownsRow.frozenAt h.2 i

set_option maxHeartbeats 1000000 in
set_option maxRecDepth 100000 in
theorem markEntryS_own (a : Option Addr) (n cap : Nat) (w : World) (B : Nat) (l : List Ent) (ho : OwnE w B (.slice a n cap) l) (hl : l.length = n) (hn : n ≤ 1048576) :
    Calls Tryd.prog 48 #[.slice a n cap, .int .i64 1] w fun r w' => r = .returned (.int .i64 ((1 + 7 * n : Nat) : Int)) ∧ Marked w' a n ∧ w.grownBy w' (Value.slice a n cap).ownBlock := by
  by_cases h0 : n = 0
  · subst h0
    go_enter Tryd.func48, Tryd.ntmps48
    go_wp2
    go_loopw [1, 5] (fun c i wr => c = .int .i64 1 ∧ i = .int .i64 0 ∧ wr = w) (fun _ _ _ => 0)
    case atStart => exact ⟨rfl, rfl, rfl⟩
    case round =>
      obtain ⟨rfl, rfl, rfl⟩ := hrel
      go_wp2
      go_ret
      exact ⟨rfl, fun h => by omega, grownBy_refl _ _⟩
  · obtain ⟨g, cap', e⟩ := ho.shape' (by omega)
    simp only [Value.slice.injEq] at e
    obtain ⟨rfl, _, rfl⟩ := e
    have hlt := (ho.2.lt g rfl).2
    refine (markEntryS_is g n cap w (ho.room hl) hlt hn).mono ?_
    rintro r w' ⟨h1, h2, h3⟩
    exact ⟨h1, fun _ => ⟨g, rfl, Nat.lt_of_lt_of_le hlt h3.size, h2.old⟩, h3⟩

theorem own_alloc {w w' : World} {o : Obj} {row : Option Nat} (h : (w.alloc o).grownBy w' row) : w.grownBy w' row := grownBy_trans (World.grownBy_alloc _ _ _) h

set_option maxHeartbeats 4000000 in
set_option maxRecDepth 100000 in
theorem markMsgAnswer_own (x0 x1 x2 x3 x4 x5 x6 x7 x8 x9 x10 : Int) (a : Option Addr) (n cap : Nat) (w : World) (B : Nat) (l : List Ent) (ho : OwnE w B (.slice a n cap) l) (hl : l.length = n) (hn : n ≤ 1048576) :
    Calls Tryd.prog 11 #[.agg #[.int .i64 x0, .int .i64 x1, .int .i64 x2, .int .i64 x3, .int .i64 x4, .int .i64 x5, .int .i64 x6, .int .i64 x7, .int .i64 x8, .int .i64 x9, .int .i64 x10, .slice a n cap], .int .i64 1] w fun r w' => r = .returned (.int .i64 ((1 + 7 * n : Nat) : Int)) ∧ Marked w' a n ∧ w.grownBy w' (Value.slice a n cap).ownBlock := by
  have HM : ∀ w', OwnE w' B (.slice a n cap) l → Hid (Calls Tryd.prog 27 #[.agg #[.int .i64 x2, .int .i64 x3, .int .i64 x4, .int .i64 x5, .int .i64 x6, .int .i64 x7, .int .i64 x8, .int .i64 x9, .int .i64 x10, .slice a n cap], .int .i64 1] w' fun r w'' => r = .returned (.int .i64 ((1 + 7 * n : Nat) : Int)) ∧ Marked w'' a n ∧ w'.grownBy w'' (Value.slice a n cap).ownBlock) := fun w' ho' => by
    have HE : Hid (Calls Tryd.prog 48 #[.slice a n cap, .int .i64 1] (w'.alloc (.cells #[.int .i64 x2, .int .i64 x3, .int .i64 x4, .int .i64 x5, .int .i64 x6, .int .i64 x7, .int .i64 x8, .int .i64 x9, .int .i64 x10, .slice a n cap] 25)) fun r w'' => r = .returned (.int .i64 ((1 + 7 * n : Nat) : Int)) ∧ Marked w'' a n ∧ (w'.alloc (.cells #[.int .i64 x2, .int .i64 x3, .int .i64 x4, .int .i64 x5, .int .i64 x6, .int .i64 x7, .int .i64 x8, .int .i64 x9, .int .i64 x10, .slice a n cap] 25)).grownBy w'' (Value.slice a n cap).ownBlock) := markEntryS_own a n cap _ B l (ho'.below ((Below.refl _ _).alloc (Nat.le_refl _) _)) hl hn
    go_enter Tryd.func27, Tryd.ntmps27
    go_wp2_with (go_at_call 48; refine Calls.mono HE.out ?_; rintro e w1 ⟨rfl, hm, hg⟩)
    go_ret
    exact ⟨rfl, hm, own_alloc hg⟩
  go_enter Tryd.func11, Tryd.ntmps11
  go_wp2_with (go_at_call 27; refine Calls.mono (HM _ (ho.below ((Below.refl _ _).alloc (Nat.le_refl _) _))).out ?_; rintro e w1 ⟨rfl, hm, hg⟩)
  go_ret
  exact ⟨rfl, hm, own_alloc hg⟩

set_option maxHeartbeats 4000000 in
set_option maxRecDepth 100000 in
theorem heldMsgAnswer_own (x0 x1 x2 x3 x4 x5 x6 x7 x8 x9 x10 : Int) (a : Option Addr) (n cap : Nat) (w : World) (hm : Marked w a n) (hn : n ≤ 1048576) :
    Calls Tryd.prog 12 #[.agg #[.int .i64 x0, .int .i64 x1, .int .i64 x2, .int .i64 x3, .int .i64 x4, .int .i64 x5, .int .i64 x6, .int .i64 x7, .int .i64 x8, .int .i64 x9, .int .i64 x10, .slice a n cap], .int .i64 1] w fun r w' => r = .returned (.int .i64 ((1 + 7 * n : Nat) : Int)) ∧ Below w.heap.size w w' := by
  have HM : ∀ w', Marked w' a n → Hid (Calls Tryd.prog 28 #[.agg #[.int .i64 x2, .int .i64 x3, .int .i64 x4, .int .i64 x5, .int .i64 x6, .int .i64 x7, .int .i64 x8, .int .i64 x9, .int .i64 x10, .slice a n cap], .int .i64 1] w' fun r w'' => r = .returned (.int .i64 ((1 + 7 * n : Nat) : Int)) ∧ Below w'.heap.size w' w'') := fun w' hm' => by
    have HE : Hid (∀ o, Calls Tryd.prog 49 #[.slice a n cap, .int .i64 1] (w'.alloc o) fun r w'' => r = .returned (.int .i64 ((1 + 7 * n : Nat) : Int)) ∧ Below (w'.alloc o).heap.size (w'.alloc o) w'') := fun o => heldEntryS_is a n cap _ hn (hm'.below ((Below.refl _ _).alloc (Nat.le_refl _) _))
    go_enter Tryd.func28, Tryd.ntmps28
    go_wp2_with (go_at_call 49; refine Calls.mono (HE.out _) ?_; rintro e w1 ⟨rfl, hb⟩)
    go_ret
    exact ⟨by first | rfl | simp, ((Below.refl _ _).alloc (Nat.le_refl _) _).trans (hb.mono (by simp))⟩
  go_enter Tryd.func12, Tryd.ntmps12
  go_wp2_with (go_at_call 28; refine Calls.mono (HM _ (hm.below ((Below.refl _ _).alloc (Nat.le_refl _) _))).out ?_; rintro e w1 ⟨rfl, hb⟩)
  go_ret
  exact ⟨by first | rfl | simp, ((Below.refl _ _).alloc (Nat.le_refl _) _).trans (hb.mono (by simp))⟩

set_option maxHeartbeats 4000000 in
set_option maxRecDepth 100000 in
theorem eqMsgAnswer_same (x0 x1 x2 x3 x4 x5 x6 x7 x8 x9 x10 : Int) (a a' : Option Addr) (n n' cap cap' : Nat) (l : List Ent) (w : World) (hv : Es w (.slice a n cap) l) (hu : Es w (.slice a' n' cap') l) :
    Calls Tryd.prog 8 #[.agg #[.int .i64 x0, .int .i64 x1, .int .i64 x2, .int .i64 x3, .int .i64 x4, .int .i64 x5, .int .i64 x6, .int .i64 x7, .int .i64 x8, .int .i64 x9, .int .i64 x10, .slice a n cap], .agg #[.int .i64 x0, .int .i64 x1, .int .i64 x2, .int .i64 x3, .int .i64 x4, .int .i64 x5, .int .i64 x6, .int .i64 x7, .int .i64 x8, .int .i64 x9, .int .i64 x10, .slice a' n' cap']] w fun r w' => r = .returned (.bool true) ∧ Below w.heap.size w w' := by
  have hB : ∀ o1 o2 : Obj, Below w.heap.size w ((w.alloc o1).alloc o2) := fun o1 o2 => ((Below.refl _ _).alloc (Nat.le_refl _) _).alloc (by simp) _
  have HM : Hid (∀ o1 o2, Calls Tryd.prog 26 #[.agg #[.int .i64 x2, .int .i64 x3, .int .i64 x4, .int .i64 x5, .int .i64 x6, .int .i64 x7, .int .i64 x8, .int .i64 x9, .int .i64 x10, .slice a n cap], .agg #[.int .i64 x2, .int .i64 x3, .int .i64 x4, .int .i64 x5, .int .i64 x6, .int .i64 x7, .int .i64 x8, .int .i64 x9, .int .i64 x10, .slice a' n' cap']] ((w.alloc o1).alloc o2) fun r w' => r = .returned (.bool true) ∧ Below ((w.alloc o1).alloc o2).heap.size ((w.alloc o1).alloc o2) w') := fun o1 o2 => eqMsg_same _ _ _ _ _ _ _ _ _ _ _ l _ (hv.below (hB _ _)) (hu.below (hB _ _))
  clear hv hu
  go_enter Tryd.func8, Tryd.ntmps8
  go_wp2_with (go_at_call 26; refine Calls.mono (HM.out _ _) ?_; rintro e w1 ⟨rfl, hb⟩)
  go_ret
  exact ⟨rfl, (hB _ _).trans (hb.mono (by simp; omega))⟩
end Go.Proofs.YtmbiccmndcchhaeDoor
