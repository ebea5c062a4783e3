/-
  laws.heldEntryS from any count on; what laws.markEntryS leaves there.
-/
import Derived.Test.YtlfnlhbkagjheaaDoorHeldEs
import Derived.Test.YtlfnlhbkagjheaaDoorMarkE
import Derived.Test.YtlfnlhbkagjheaaDoorMarkOwn
namespace Go.Proofs.YtlfnlhbkagjheaaDoor
open Go.RowKit
set_option linter.unusedVariables false
set_option linter.unusedSimpArgs false

set_option maxHeartbeats 8000000 in
set_option maxRecDepth 100000 in
theorem heldEntryS_k (k0 : Nat) (hk0 : k0 ≤ 20000000) (a : Option Addr) (n cap : Nat) (w : World) (hn : n ≤ 1048576) (h : 0 < n → ∃ q, a = some ⟨q, 0, none⟩ ∧ q < w.heap.size ∧ ∀ i, i < n → EntAt w q (i * 7) (markEnt (k0 + 7 * i))) :
    Calls Tryd.prog 48 #[.slice a n cap, .int .i64 (k0 : Int)] w fun r w' => r = .returned (.int .i64 ((k0 + 7 * n : Nat) : Int)) ∧ Below w.heap.size w w' := by
  go_enter Tryd.func48, Tryd.ntmps48
  go_wp2
  go_loopw [1, 5] (fun c i wr => ∃ j : Nat, j ≤ n ∧ i = .int .i64 j ∧ c = .int .i64 ((k0 + 7 * j : Nat) : Int) ∧ Below w.heap.size w wr) (fun _ i _ => n - (intOf i).toNat)
  case atStart => exact ⟨0, Nat.zero_le _, rfl, by simp, Below.refl _ _⟩
  case round =>
    obtain ⟨j, hj, rfl, rfl, hB⟩ := hrel
    by_cases hlt : j < n
    · obtain ⟨q, rfl, hq, hE⟩ := h (by omega)
      obtain ⟨c0, c1, c2, c3, c4, c5, c6⟩ := (hE j hlt).below hB
      have hz := hB.size
      have e0 : wr.cell? ⟨q, j * 7, none⟩ = some (.int .i64 ((k0 : Int) + 7 * (j : Int))) := by simpa [markEnt] using c0
      have e1 : wr.cell? ⟨q, j * 7 + 1, none⟩ = some (.int .i64 ((k0 : Int) + 7 * (j : Int) + 1)) := by simpa [markEnt] using c1
      have e2 : wr.cell? ⟨q, j * 7 + 2, none⟩ = some (.int .i64 ((k0 : Int) + 7 * (j : Int) + 1 + 1)) := by rw [c2]; simp [markEnt]; omega
      have e3 : wr.cell? ⟨q, j * 7 + 3, none⟩ = some (.int .i64 ((k0 : Int) + 7 * (j : Int) + 1 + 1 + 1)) := by rw [c3]; simp [markEnt]; omega
      have e4 : wr.cell? ⟨q, j * 7 + 1 + 3, none⟩ = some (.string (mtx (k0 + 7 * j + 1 + 1 + 1 + 1))) := c4
      have e5 : wr.cell? ⟨q, j * 7 + 1 + 4, none⟩ = some (.string (mtx (k0 + 7 * j + 1 + 1 + 1 + 1 + 1))) := c5
      have e6 : wr.cell? ⟨q, j * 7 + 1 + 5, none⟩ = some (.string (mtx (k0 + 7 * j + 1 + 1 + 1 + 1 + 1 + 1))) := c6
      clear c0 c1 c2 c3 c4 c5 c6 h hE
      go_wp2
      go_region_held3 (fun w' => w'.cell? ⟨q, j * 7 + 1 + 3, none⟩ = some (.string (mtx (k0 + 7 * j + 1 + 1 + 1 + 1))) ∧ w'.cell? ⟨q, j * 7 + 1 + 4, none⟩ = some (.string (mtx (k0 + 7 * j + 1 + 1 + 1 + 1 + 1))) ∧ w'.cell? ⟨q, j * 7 + 1 + 5, none⟩ = some (.string (mtx (k0 + 7 * j + 1 + 1 + 1 + 1 + 1 + 1)))) (simp [*, go_sem])
        (first
          | (go_at_call 64; refine (markText_at _ _ (by omega) (by omega)).mono ?_; rw [show ((k0 : Int) + 7 * (j : Int) + 1 + 1 + 1 + 1).toNat = k0 + 7 * j + 1 + 1 + 1 + 1 by omega]; rintro r w1 ⟨rfl, hb1⟩; have q1 := fun (o : Nat) => hb1.cell (p := ⟨q, o, none⟩) (show q < wr.heap.size by omega); have hB1 : Below w.heap.size w w1 := hB.trans (((Below.refl _ _).drew).trans (hb1.mono hz)); have hz1 := hB1.size))
      all_goals go_wp2
      all_goals go_region_held3 (fun w' => w'.cell? ⟨q, j * 7 + 1 + 3, none⟩ = some (.string (mtx (k0 + 7 * j + 1 + 1 + 1 + 1))) ∧ w'.cell? ⟨q, j * 7 + 1 + 4, none⟩ = some (.string (mtx (k0 + 7 * j + 1 + 1 + 1 + 1 + 1))) ∧ w'.cell? ⟨q, j * 7 + 1 + 5, none⟩ = some (.string (mtx (k0 + 7 * j + 1 + 1 + 1 + 1 + 1 + 1)))) (simp [*, go_sem])
        (first
          | (go_at_call 64; refine (markText_at _ _ (by omega) (by omega)).mono ?_; rw [show ((k0 : Int) + 7 * (j : Int) + 1 + 1 + 1 + 1 + 1).toNat = k0 + 7 * j + 1 + 1 + 1 + 1 + 1 by omega]; rintro r w2 ⟨rfl, hb2⟩; have q2 := fun (o : Nat) => hb2.cell (p := ⟨q, o, none⟩) (show q < w1.heap.size by omega); have hB2 : Below w.heap.size w w2 := hB1.trans (((Below.refl _ _).drew).trans (hb2.mono hz1)); have hz2 := hB2.size))
      all_goals go_wp2
      all_goals go_region_held3 (fun w' => w'.cell? ⟨q, j * 7 + 1 + 3, none⟩ = some (.string (mtx (k0 + 7 * j + 1 + 1 + 1 + 1))) ∧ w'.cell? ⟨q, j * 7 + 1 + 4, none⟩ = some (.string (mtx (k0 + 7 * j + 1 + 1 + 1 + 1 + 1))) ∧ w'.cell? ⟨q, j * 7 + 1 + 5, none⟩ = some (.string (mtx (k0 + 7 * j + 1 + 1 + 1 + 1 + 1 + 1)))) (simp [*, go_sem])
        (first
          | (go_at_call 64; refine (markText_at _ _ (by omega) (by omega)).mono ?_; rw [show ((k0 : Int) + 7 * (j : Int) + 1 + 1 + 1 + 1 + 1 + 1).toNat = k0 + 7 * j + 1 + 1 + 1 + 1 + 1 + 1 by omega]; rintro r w3 ⟨rfl, hb3⟩; have q3 := fun (o : Nat) => hb3.cell (p := ⟨q, o, none⟩) (show q < w2.heap.size by omega); have hB3 : Below w.heap.size w w3 := hB2.trans (((Below.refl _ _).drew).trans (hb3.mono hz2)); have hz3 := hB3.size))
      all_goals go_wp2
      all_goals (
        go_roundw
        case rel => exact ⟨j + 1, by omega, by go_num, by go_num, hB3⟩
        case measure => simp [intOf]; omega)
    · obtain rfl : j = n := by omega
      go_wp2
      go_ret
      exact ⟨rfl, hB⟩

/-- n entries, marked from k0 on, in the span [lo, hi) -/
structure EntsK (lo hi : Nat) (w : World) (a : Option Addr) (n k0 : Nat) : Prop where
  at_ : 0 < n → ∃ q, a = some ⟨q, 0, none⟩ ∧ lo ≤ q ∧ q < hi ∧ q < w.heap.size ∧ ∀ i, i < n → EntAt w q (i * 7) (markEnt (k0 + 7 * i))
theorem EntsK.keep {w w' : World} {lo hi : Nat} {a : Option Addr} {n k0 : Nat} (h : EntsK lo hi w a n k0) (hk : ∀ k, lo ≤ k → k < hi → w'.heap[k]? = w.heap[k]?) : EntsK lo hi w' a n k0 :=
  ⟨fun h0 => by
    obtain ⟨q, e, h1, h2, h3, h4⟩ := h.at_ h0
    have hb := hk q h1 h2
    have hq : q < w'.heap.size := by
      rcases Nat.lt_or_ge q w'.heap.size with h' | h'
      · exact h'
      · rw [Array.getElem?_eq_none h'] at hb
        rw [Array.getElem?_eq_getElem h3] at hb
        cases hb
    refine ⟨q, e, h1, h2, hq, fun i hi => ?_⟩
    have c : ∀ o, w'.cell? ⟨q, o, none⟩ = w.cell? ⟨q, o, none⟩ := fun o => World.cell?_of_block (w := w) hb
    obtain ⟨g0, g1, g2, g3, g4, g5, g6⟩ := h4 i hi
    exact ⟨(c _).trans g0, (c _).trans g1, (c _).trans g2, (c _).trans g3, (c _).trans g4, (c _).trans g5, (c _).trans g6⟩⟩
theorem entAt_mk {w : World} {q o k : Nat} (h : ∀ s v, (mkEnt k)[s]? = some v → w.cell? ⟨q, o + s, none⟩ = some v) : EntAt w q o (markEnt k) :=
  ⟨h 0 _ rfl, by simpa [markEnt] using h 1 _ rfl, by simpa [markEnt] using h 2 _ rfl, by simpa [markEnt] using h 3 _ rfl, h 4 _ rfl, h 5 _ rfl, h 6 _ rfl⟩
theorem OwnE.there {w : World} {B g n cap : Nat} {l : List Ent} (h : OwnE w B (.slice (some ⟨g, 0, none⟩) n cap) l) (hn : l.length = n) : w.there g 0 (n * 7) := fun j hj => by
  obtain ⟨h1, h2⟩ := h.room hn
  obtain ⟨y, hy⟩ := h1 j hj
  rw [Nat.zero_add, hy]
  exact ⟨rfl, h2 j⟩
set_option maxHeartbeats 4000000 in
set_option maxRecDepth 100000 in
theorem markEntryS_k (k0 : Nat) (hk0 : k0 ≤ 20000000) (a : Option Addr) (n cap : Nat) (w : World) {lo hi : Nat} (l : List Ent) (ho : EntsR lo hi w (.slice a n cap) l) (hl : l.length = n) (hn : n ≤ 1048576) :
    Calls Tryd.prog 47 #[.slice a n cap, .int .i64 (k0 : Int)] w fun r w' => r = .returned (.int .i64 ((k0 + 7 * n : Nat) : Int)) ∧ EntsK lo hi w' a n k0 ∧ w.grownBy w' (Value.slice a n cap).ownBlock := by
  by_cases h0 : n = 0
  · subst h0
    go_enter Tryd.func47, Tryd.ntmps47
    go_wp2
    go_loopw [1, 5] (fun c i wr => c = .int .i64 (k0 : Int) ∧ i = .int .i64 0 ∧ wr = w) (fun _ _ _ => 0)
    case atStart => exact ⟨rfl, rfl, rfl⟩
    case round =>
      obtain ⟨rfl, rfl, rfl⟩ := hrel
      go_wp2
      go_ret
      exact ⟨rfl, ⟨fun h => by omega⟩, grownBy_refl _ _⟩
  · obtain ⟨g, cap', e⟩ := ho.own.shape' (by omega)
    simp only [Value.slice.injEq] at e
    obtain ⟨rfl, _, rfl⟩ := e
    have hlt := (ho.own.2.lt g rfl).2
    have hsp := ho.lt g rfl
    refine (markEntryS_is7 k0 hk0 g n cap w (ho.own.there hl) hlt hn).mono ?_
    rintro r w' ⟨h1, h2, h3⟩
    exact ⟨h1, ⟨fun _ => ⟨g, rfl, hsp.1, hsp.2, Nat.lt_of_lt_of_le hlt h3.size, fun i hi => entAt_mk (h2.old i hi)⟩⟩, h3⟩
end Go.Proofs.YtlfnlhbkagjheaaDoor
