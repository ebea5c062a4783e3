/-
  laws.markEntryS and laws.heldEntryS: what is marked is held.
-/
import Derived.Test.YtlfnlhbkagjheaaDoorMarkTx
import Derived.Test.YtlfnlhbkagjheaaDoorGround
namespace Go.Proofs.YtlfnlhbkagjheaaDoor
open Go.RowKit
set_option linter.unusedVariables false
set_option linter.unusedSimpArgs false

theorem grown_trans {w w1 w2 : World} {row : Option Nat} (h : w.grownBy w1 row) (k : w1.grownBy w2 row) : w.grownBy w2 row := grownBy_trans h k
theorem grown_set (w : World) (g j : Nat) (x : Value) (row : Option Nat) (hr : row = some g) : w.grownBy (w.setCell ⟨g, j, none⟩ x) row := by subst hr; exact Rd.frame j x
theorem grown_belowM {w w' : World} (row : Option Nat) (h : Below w.heap.size w w') : w.grownBy w' row := ⟨h.os, h.tape, h.output, h.size, fun k hk _ => h.block k hk⟩

/-- room for n entries in block q -/
structure Room (w : World) (q n : Nat) : Prop where
  there : ∀ i, i < n * 7 → ∃ y, w.cell? ⟨q, i, none⟩ = some y
  free : ∀ i, w.frozen? ⟨q, i, none⟩ = false

theorem Es.room {w : World} {q cap : Nat} {l : List Ent} (h : Es w (.slice (some ⟨q, 0, none⟩) l.length cap) l) (hf : ∀ i, w.frozen? ⟨q, i, none⟩ = false) : Room w q l.length := by
  refine ⟨fun i hi => ?_, hf⟩
  obtain ⟨_, _, a, cap', e, hc⟩ := h
  obtain ⟨b, off, rfl, hj⟩ := hc 0 (by omega)
  simp only [Value.slice.injEq, Option.some.injEq, Addr.mk.injEq, and_true] at e
  obtain ⟨⟨rfl, rfl⟩, _⟩ := e
  obtain ⟨h0, h1, h2, h3, h4, h5, h6⟩ := hj (i / 7) (by omega)
  rcases (by omega : i = 0 + i / 7 * 7 ∨ i = 0 + i / 7 * 7 + 1 ∨ i = 0 + i / 7 * 7 + 2 ∨ i = 0 + i / 7 * 7 + 3 ∨ i = 0 + i / 7 * 7 + 4 ∨ i = 0 + i / 7 * 7 + 5 ∨ i = 0 + i / 7 * 7 + 6) with e | e | e | e | e | e | e
  · rw [e]; exact ⟨_, h0⟩
  · rw [e]; exact ⟨_, h1⟩
  · rw [e]; exact ⟨_, h2⟩
  · rw [e]; exact ⟨_, h3⟩
  · rw [e]; exact ⟨_, h4⟩
  · rw [e]; exact ⟨_, h5⟩
  · rw [e]; exact ⟨_, h6⟩
theorem Room.set {w : World} {q n : Nat} (h : Room w q n) (j : Nat) (x : Value) : Room (w.setCell ⟨q, j, none⟩ x) q n :=
  ⟨fun i hi => set_thereT (h.there i hi), fun i => by rw [World.frozen?_setCell]; exact h.free i⟩
theorem Room.below {w w' : World} {q n : Nat} (h : Room w q n) (hb : Below w.heap.size w w') (hq : q < w.heap.size) : Room w' q n :=
  ⟨fun i hi => by obtain ⟨y, hy⟩ := h.there i hi; exact ⟨y, (hb.cell hq).trans hy⟩, fun i => (hb.frozen hq).trans (h.free i)⟩


def markEnt (k : Nat) : Ent := ⟨k, k + 1, k + 2, k + 3, mtx (k + 4), mtx (k + 5), mtx (k + 6)⟩

theorem EntAt.set {w : World} {q off : Nat} {e : Ent} (h : EntAt w q off e) (o : Nat) (x : Value) (ho : off + 7 ≤ o) : EntAt (w.setCell ⟨q, o, none⟩ x) q off e := by
  obtain ⟨h0, h1, h2, h3, h4, h5, h6⟩ := h
  have c : ∀ j, j < 7 → (w.setCell ⟨q, o, none⟩ x).cell? ⟨q, off + j, none⟩ = w.cell? ⟨q, off + j, none⟩ := fun j hj => World.cell?_setCell_other w _ _ _ (by intro e; injection e with _ h2 _; omega)
  exact ⟨(c 0 (by omega)).trans h0, (c 1 (by omega)).trans h1, (c 2 (by omega)).trans h2, (c 3 (by omega)).trans h3, (c 4 (by omega)).trans h4, (c 5 (by omega)).trans h5, (c 6 (by omega)).trans h6⟩

theorem EntAt.setAny {w : World} {q off : Nat} {e : Ent} (h : EntAt w q off e) (o : Nat) (x : Value) (ho : off + 7 ≤ o) : EntAt (w.setCell ⟨q, o, none⟩ x) q off e := h.set o x ho

/-- j entries are marked, and t cells of the next -/
structure Mk (w : World) (q n j t : Nat) : Prop where
  room : Room w q n
  old : ∀ i, i < j → EntAt w q (i * 7) (markEnt (1 + 7 * i))
  new : ∀ s, s < t → w.cell? ⟨q, j * 7 + s, none⟩ = (markEnt (1 + 7 * j)).cells[s]?

theorem Mk.step {w : World} {q n j t : Nat} (h : Mk w q n j t) (hj : j < n) (ht : t < 7) (x : Value) (hx : (markEnt (1 + 7 * j)).cells[t]? = some x) : Mk (w.setCell ⟨q, j * 7 + t, none⟩ x) q n j (t + 1) := by
  refine ⟨h.room.set _ _, fun i hi => (h.old i hi).set _ _ (by omega), fun s hs => ?_⟩
  by_cases e : s = t
  · subst e
    obtain ⟨y, hy⟩ := h.room.there (j * 7 + s) (by omega)
    rw [World.cell?_setCell_same w _ _ hy, hx]
  · rw [World.cell?_setCell_other w _ _ _ (by intro e'; injection e' with _ h2 _; omega)]
    exact h.new s (by omega)
theorem Mk.below {w w' : World} {q n j t : Nat} (h : Mk w q n j t) (hb : Below w.heap.size w w') (hq : q < w.heap.size) : Mk w' q n j t :=
  ⟨h.room.below hb hq, fun i hi => (h.old i hi).below hb, fun s hs => (hb.cell (p := ⟨q, j * 7 + s, none⟩) hq).trans (h.new s hs)⟩
theorem Mk.next {w : World} {q n j : Nat} (h : Mk w q n j 7) : Mk w q n (j + 1) 0 := by
  refine ⟨h.room, fun i hi => ?_, fun s hs => by omega⟩
  by_cases e : i = j
  · subst e
    exact ⟨h.new 0 (by omega), h.new 1 (by omega), h.new 2 (by omega), h.new 3 (by omega), h.new 4 (by omega), h.new 5 (by omega), h.new 6 (by omega)⟩
  · exact h.old i (by omega)

set_option maxHeartbeats 8000000 in
set_option maxRecDepth 100000 in
theorem markEntryS_is (q n cap : Nat) (w : World) (hR : Room w q n) (hq : q < w.heap.size) (hn : n ≤ 1048576) :
    Calls Tryd.prog 47 #[.slice (some ⟨q, 0, none⟩) n cap, .int .i64 1] w fun r w' => r = .returned (.int .i64 ((1 + 7 * n : Nat) : Int)) ∧ Mk w' q n n 0 ∧ w.grownBy w' (some q) := by
  go_enter Tryd.func47, Tryd.ntmps47
  go_wp2
  go_loopw [1, 5] (fun c i wr => ∃ j : Nat, j ≤ n ∧ i = .int .i64 j ∧ c = .int .i64 ((1 + 7 * j : Nat) : Int) ∧ Mk wr q n j 0 ∧ w.grownBy wr (some q)) (fun _ i _ => n - (intOf i).toNat)
  case atStart => exact ⟨0, Nat.zero_le _, rfl, by simp, ⟨hR, fun i hi => by omega, fun s hs => by omega⟩, ⟨rfl, rfl, rfl, Nat.le_refl _, fun _ _ _ => rfl⟩⟩
  case round =>
    obtain ⟨j, hj, rfl, rfl, hK, hg⟩ := hrel
    have hz := hg.size
    by_cases hlt : j < n
    · obtain ⟨y0, d0⟩ := hK.room.there (j * 7) (by omega)
      obtain ⟨y1, d1⟩ := hK.room.there (j * 7 + 1) (by omega)
      obtain ⟨y2, d2⟩ := hK.room.there (j * 7 + 2) (by omega)
      obtain ⟨y3, d3⟩ := hK.room.there (j * 7 + 3) (by omega)
      have hfr := hK.room.free
      have g1 : True := trivial
      have g2 : True := trivial
      go_wp2_with (first
        | (go_at_call 64; clear g1; refine (markText_at _ _ (by omega) (by omega)).mono ?_; rintro r w1 ⟨rfl, hb1⟩; have K1 : Mk w1 q n j 4 := Mk.below (by exact (((hK.step hlt (by omega) _ (by simp [markEnt, Ent.cells])).step hlt (by omega) _ (by simp [markEnt, Ent.cells])).step hlt (by omega) _ (by simp [markEnt, Ent.cells]; omega)).step hlt (by omega) _ (by simp [markEnt, Ent.cells]; omega)) hb1 (by simp [World.setCell]; omega); have G1 : w.grownBy w1 (some q) := grown_trans (by exact grown_trans (grown_trans (grown_trans (grown_trans hg (grown_set _ _ _ _ _ rfl)) (grown_set _ _ _ _ _ rfl)) (grown_set _ _ _ _ _ rfl)) (grown_set _ _ _ _ _ rfl)) (grown_belowM _ hb1); obtain ⟨y4, d4⟩ := K1.room.there (j * 7 + 1 + 3) (by omega); have hfr1 := K1.room.free; have hz1 := G1.size; clear hb1)
        | (go_at_call 64; clear g2; refine (markText_at _ _ (by omega) (by omega)).mono ?_; rintro r w2 ⟨rfl, hb2⟩; have K2 : Mk w2 q n j 5 := Mk.below (by exact K1.step hlt (by omega) _ (by rfl)) hb2 (by simp [World.setCell]; omega); have G2 : w.grownBy w2 (some q) := grown_trans (by exact grown_trans G1 (grown_set _ _ _ _ _ rfl)) (grown_belowM _ hb2); obtain ⟨y5, d5⟩ := K2.room.there (j * 7 + 1 + 4) (by omega); have hfr2 := K2.room.free; have hz2 := G2.size; clear hb2)
        | (go_at_call 64; refine (markText_at _ _ (by omega) (by omega)).mono ?_; rintro r w3 ⟨rfl, hb3⟩; have K3 : Mk w3 q n j 6 := Mk.below (by exact K2.step hlt (by omega) _ (by rfl)) hb3 (by simp [World.setCell]; omega); have G3 : w.grownBy w3 (some q) := grown_trans (by exact grown_trans G2 (grown_set _ _ _ _ _ rfl)) (grown_belowM _ hb3); obtain ⟨y6, d6⟩ := K3.room.there (j * 7 + 1 + 5) (by omega); have hfr3 := K3.room.free; have hz3 := G3.size; clear hb3))
      go_roundw
      case rel => exact ⟨j + 1, by omega, by go_num, by go_num, (K3.step hlt (by omega) _ (by rfl)).next, grown_trans G3 (grown_set _ _ _ _ _ rfl)⟩
      case measure => simp [intOf]; omega
    · go_wp2
      go_ret
      obtain rfl : j = n := by omega
      exact ⟨rfl, hK, hg⟩
end Go.Proofs.YtlfnlhbkagjheaaDoor
