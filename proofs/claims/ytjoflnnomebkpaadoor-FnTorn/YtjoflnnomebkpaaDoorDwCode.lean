/-
  impl.writeCode.
-/
import Derived.Test.YtjoflnnomebkpaaDoorGround2
import Derived.Test.YtjoflnnomebkpaaDoorGround
namespace Go.Proofs.YtjoflnnomebkpaaDoor
open Go.RowKit
set_option linter.unusedVariables false

/-- the two sentinels of a write lie at A and A2 -/
structure Sents2 (w : World) (A A2 : Addr) : Prop where
  g1 : w.cell? ⟨0, 0, none⟩ = some (sentR A)
  g2 : w.cell? ⟨1, 0, none⟩ = some (sentR A2)
  r1 : ∃ c t, w.heap[A.block]? = some (.cells c t (0, 0))
  r2 : ∃ c t, w.heap[A2.block]? = some (.cells c t (0, 0))
  ne : A ≠ A2
theorem Sents2.below {w w' : World} {A A2 : Addr} (h : Sents2 w A A2) (hb : Below w.heap.size w w') : Sents2 w' A A2 := by
  obtain ⟨c, t, e⟩ := h.r1
  obtain ⟨c', t', e'⟩ := h.r2
  exact ⟨((bcell hb).1 _ 0 (cell_lt h.g1)).trans h.g1, ((bcell hb).1 _ 0 (cell_lt h.g2)).trans h.g2, ⟨c, t, (hb.block _ (heap_lt e)).trans e⟩, ⟨c', t', (hb.block _ (heap_lt e')).trans e'⟩, h.ne⟩

theorem writeCode_nil (w : World) (A A2 : Addr) (h : Sents2 w A A2) :
    Calls Tryd.prog 52 #[.nilIface] w fun e w' => e = .returned (.int .i64 0) ∧ Below w.heap.size w w' := by
  have g1 := h.g1
  have g2 := h.g2
  go_enter Tryd.func52, Tryd.ntmps52
  go_wp2_with (go_at_call 86; refine (is_nil _ _).mono ?_; rintro e w1 ⟨rfl, hw⟩; obtain rfl := hw.symm)
  go_ret
  exact ⟨rfl, Below.refl _ _⟩

theorem writeCode_rec (w : World) (A A2 : Addr) (h : Sents2 w A A2) :
    Calls Tryd.prog 52 #[.iface 124 (.agg #[sentR A, .int .i64 0])] w fun e w' => e = .returned (.int .i64 2) ∧ Below w.heap.size w w' := by
  have g1 := h.g1
  go_enter Tryd.func52, Tryd.ntmps52
  go_wp2_with (go_at_call 86; refine (is_same A 0 _).mono ?_; rintro e w1 ⟨rfl, hb⟩)
  go_ret
  exact ⟨rfl, hb⟩

theorem writeCode_full (w : World) (A A2 : Addr) (h : Sents2 w A A2) :
    Calls Tryd.prog 52 #[.iface 124 (.agg #[sentR A2, .int .i64 0])] w fun e w' => e = .returned (.int .i64 3) ∧ Below w.heap.size w w' := by
  have g1 := h.g1
  obtain ⟨c, t, e1⟩ := h.r1
  obtain ⟨c', t', e2⟩ := h.r2
  have y1 : True := trivial
  have hg2 := h.g2
  have hne := h.ne
  go_enter Tryd.func52, Tryd.ntmps52
  go_wp2_with (first
    | (go_at_call 86; clear y1; refine (is_other A2 A 0 c' c t' t _ hne.symm e2 e1).mono ?_; rintro e w1 ⟨rfl, hb⟩; have g2 : w1.cell? ⟨1, 0, none⟩ = some (sentR A2) := ((bcell hb).1 _ 0 (cell_lt hg2)).trans hg2)
    | (go_at_call 86; refine (is_same A2 0 _).mono ?_; rintro e w2 ⟨rfl, hb2⟩))
  go_ret
  exact ⟨rfl, hb.trans (hb2.mono hb.size)⟩
end Go.Proofs.YtjoflnnomebkpaaDoor
