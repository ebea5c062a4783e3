/-
  Entries of one's own: marked, held.
-/
import Derived.Test.YtlfnlhbkagjheaaDoorHeldEs
import Derived.Test.YtlfnlhbkagjheaaDoorGround
import Derived.Test.YtlfnlhbkagjheaaDoorLawBase
namespace Go.Proofs.YtlfnlhbkagjheaaDoor
open Go.RowKit
set_option linter.unusedVariables false
set_option linter.unusedSimpArgs false

/-- the entries of ev are marked -/
def Marked (w : World) (a : Option Addr) (n : Nat) : Prop := 0 < n → ∃ q, a = some ⟨q, 0, none⟩ ∧ q < w.heap.size ∧ ∀ i, i < n → EntAt w q (i * 7) (markEnt (1 + 7 * i))
theorem Marked.below {w w' : World} {a : Option Addr} {n : Nat} (h : Marked w a n) (hb : Below w.heap.size w w') : Marked w' a n := fun hn => by
  obtain ⟨q, e, hq, hE⟩ := h hn
  exact ⟨q, e, Nat.lt_of_lt_of_le hq hb.size, fun i hi => (hE i hi).below hb⟩

theorem OwnE.room {w : World} {B g n cap : Nat} {l : List Ent} (h : OwnE w B (.slice (some ⟨g, 0, none⟩) n cap) l) (hn : l.length = n) : Room w g n := by
  subst hn
  refine ⟨fun i hi => ?_, fun i => ?_⟩
  · rw [h.2.cellAt i hi]
    have hl : i < (entCells l).length := by rw [entCells_len]; exact hi
    exact ⟨_, List.getElem?_eq_getElem hl⟩
  · exact World.ownsRow.frozenAt h.2 i

set_option maxHeartbeats 1000000 in
set_option maxRecDepth 100000 in
theorem markEntryS_own (a : Option Addr) (n cap : Nat) (w : World) (B : Nat) (l : List Ent) (ho : OwnE w B (.slice a n cap) l) (hl : l.length = n) (hn : n ≤ 1048576) :
    Calls Tryd.prog 47 #[.slice a n cap, .int .i64 1] w fun r w' => r = .returned (.int .i64 ((1 + 7 * n : Nat) : Int)) ∧ Marked w' a n ∧ w.grownBy w' (Value.slice a n cap).ownBlock := by
  by_cases h0 : n = 0
  · subst h0
    go_enter Tryd.func47, Tryd.ntmps47
    go_wp2
    go_loopw [1, 5] (fun c i wr => c = .int .i64 1 ∧ i = .int .i64 0 ∧ wr = w) (fun _ _ _ => 0)
    case atStart => exact ⟨rfl, rfl, rfl⟩
    case round =>
      obtain ⟨rfl, rfl, rfl⟩ := hrel
      go_wp2
      go_ret
      exact ⟨rfl, fun h => by omega, grownBy_refl _ _⟩
  · obtain ⟨g, cap', e⟩ := ho.shape' (by omega)
    simp only [Value.slice.injEq] at e
    obtain ⟨rfl, _, rfl⟩ := e
    have hlt := (ho.2.lt g rfl).2
    refine (markEntryS_is g n cap w (ho.room hl) hlt hn).mono ?_
    rintro r w' ⟨h1, h2, h3⟩
    exact ⟨h1, fun _ => ⟨g, rfl, Nat.lt_of_lt_of_le hlt h3.size, h2.old⟩, h3⟩

theorem own_alloc {w w' : World} {o : Obj} {row : Option Nat} (h : (w.alloc o).grownBy w' row) : w.grownBy w' row := grownBy_trans (World.grownBy_alloc _ _ _) h

/-- entries of one's own in the span [lo, hi) -/
structure EntsR (lo hi : Nat) (w : World) (v : Value) (l : List Ent) : Prop where
  own : OwnE w lo v l
  lt : ∀ k, v.ownBlock = some k → lo ≤ k ∧ k < hi
theorem EntsR.of {w : World} {lo : Nat} {v : Value} {l : List Ent} (h : OwnE w lo v l) : EntsR lo w.heap.size w v l := ⟨h, fun k e => h.2.lt k e⟩
theorem EntsR.keep {w w' : World} {lo hi : Nat} {v : Value} {l : List Ent} (h : EntsR lo hi w v l) (hk : ∀ k, lo ≤ k → k < hi → w'.heap[k]? = w.heap[k]?) : EntsR lo hi w' v l :=
  ⟨h.own.block fun k e => hk k (h.lt k e).1 (h.lt k e).2, h.lt⟩
/-- marked entries in the span [lo, hi) -/
structure EntsM (lo hi : Nat) (w : World) (a : Option Addr) (n : Nat) : Prop where
  at_ : 0 < n → ∃ q, a = some ⟨q, 0, none⟩ ∧ lo ≤ q ∧ q < hi ∧ q < w.heap.size ∧ ∀ i, i < n → EntAt w q (i * 7) (markEnt (1 + 7 * i))
theorem EntsM.keep {w w' : World} {lo hi : Nat} {a : Option Addr} {n : Nat} (h : EntsM lo hi w a n) (hk : ∀ k, lo ≤ k → k < hi → w'.heap[k]? = w.heap[k]?) : EntsM lo hi w' a n :=
  ⟨fun h0 => by
    obtain ⟨q, e, h1, h2, h3, h4⟩ := h.at_ h0
    have hb := hk q h1 h2
    refine ⟨q, e, h1, h2, ?_, fun i hi => by
      obtain ⟨c0, c1, c2, c3, c4, c5, c6⟩ := h4 i hi
      have hc : ∀ o, w'.cell? ⟨q, o, none⟩ = w.cell? ⟨q, o, none⟩ := fun o => World.cell?_of_block (w := w) hb
      exact ⟨(hc _).trans c0, (hc _).trans c1, (hc _).trans c2, (hc _).trans c3, (hc _).trans c4, (hc _).trans c5, (hc _).trans c6⟩⟩
    rcases Nat.lt_or_ge q w'.heap.size with h' | h'
    · exact h'
    · rw [Array.getElem?_eq_none h', Array.getElem?_eq_getElem h3] at hb
      cases hb⟩
theorem EntsM.marked {w : World} {lo hi : Nat} {a : Option Addr} {n : Nat} (h : EntsM lo hi w a n) : Marked w a n := fun h0 => by
  obtain ⟨q, e, h1, h2, h3, h4⟩ := h.at_ h0
  exact ⟨q, e, h3, h4⟩
theorem markEntryS_r (a : Option Addr) (cap : Nat) (w : World) {lo hi : Nat} (l : List Ent) (ho : EntsR lo hi w (.slice a l.length cap) l) (hn : l.length ≤ 1048576) :
    Calls Tryd.prog 47 #[.slice a l.length cap, .int .i64 1] w fun r w' => r = .returned (.int .i64 ((1 + 7 * l.length : Nat) : Int)) ∧ EntsM lo hi w' a l.length ∧ Turned lo hi w w' :=
  (markEntryS_own a l.length cap w lo l ho.own rfl hn).mono fun r w' ⟨h1, h2, h3⟩ => by
    refine ⟨h1, ⟨fun h0 => ?_⟩, Turned.rows h3 fun k e => ho.lt k e⟩
    obtain ⟨q, e, hq, hE⟩ := h2 h0
    subst e
    have := ho.lt q rfl
    exact ⟨q, rfl, this.1, this.2, hq, hE⟩
theorem heldEntryS_m (a : Option Addr) (n cap : Nat) (w : World) {lo hi : Nat} (hm : EntsM lo hi w a n) (hn : n ≤ 1048576) :
    Calls Tryd.prog 48 #[.slice a n cap, .int .i64 1] w fun r w' => r = .returned (.int .i64 ((1 + 7 * n : Nat) : Int)) ∧ Below w.heap.size w w' := heldEntryS_is a n cap w hn hm.marked
end Go.Proofs.YtlfnlhbkagjheaaDoor
