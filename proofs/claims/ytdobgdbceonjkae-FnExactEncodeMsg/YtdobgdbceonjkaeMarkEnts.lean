/-
  laws.markText, laws.markEntryS, laws.markMsg.
-/
import Derived.Test.YtdobgdbceonjkaeEnts
import Derived.Test.YtdobgdbceonjkaeMarkText
namespace Go.Proofs.Ytdobgdbceonjkae
open Go.RowKit
set_option linter.unusedVariables false

/-- room for n entries in block q -/
structure Room (w : World) (q n : Nat) : Prop where
  there : ∀ i, i < n * 7 → ∃ y, w.cell? ⟨q, i, none⟩ = some y
  free : ∀ i, w.frozen? ⟨q, i, none⟩ = false

theorem Es.room {w : World} {q cap : Nat} {l : List Ent} (h : Es w (.slice (some ⟨q, 0, none⟩) l.length cap) l) (hf : ∀ i, w.frozen? ⟨q, i, none⟩ = false) : Room w q l.length := by
  refine ⟨fun i hi => ?_, hf⟩
  obtain ⟨_, _, a, cap', e, hc⟩ := h
  obtain ⟨b, off, rfl, hj⟩ := hc 0 (by omega)
  simp only [Value.slice.injEq, Option.some.injEq, Addr.mk.injEq, and_true] at e
  obtain ⟨⟨rfl, rfl⟩, _⟩ := e
  obtain ⟨h0, h1, h2, h3, h4, h5, h6⟩ := hj (i / 7) (by omega)
  rcases (by omega : i = 0 + i / 7 * 7 ∨ i = 0 + i / 7 * 7 + 1 ∨ i = 0 + i / 7 * 7 + 2 ∨ i = 0 + i / 7 * 7 + 3 ∨ i = 0 + i / 7 * 7 + 4 ∨ i = 0 + i / 7 * 7 + 5 ∨ i = 0 + i / 7 * 7 + 6) with e | e | e | e | e | e | e
  · rw [e]; exact ⟨_, h0⟩
  · rw [e]; exact ⟨_, h1⟩
  · rw [e]; exact ⟨_, h2⟩
  · rw [e]; exact ⟨_, h3⟩
  · rw [e]; exact ⟨_, h4⟩
  · rw [e]; exact ⟨_, h5⟩
  · rw [e]; exact ⟨_, h6⟩
theorem Room.set {w : World} {q n : Nat} (h : Room w q n) (j : Nat) (x : Value) : Room (w.setCell ⟨q, j, none⟩ x) q n :=
  ⟨fun i hi => set_there (h.there i hi), fun i => by rw [World.frozen?_setCell]; exact h.free i⟩
theorem Room.below {w w' : World} {q n : Nat} (h : Room w q n) (hb : Below w.heap.size w w') (hq : q < w.heap.size) : Room w' q n :=
  ⟨fun i hi => by obtain ⟨y, hy⟩ := h.there i hi; exact ⟨y, (hb.cell hq).trans hy⟩, fun i => (hb.frozen hq).trans (h.free i)⟩

set_option maxHeartbeats 8000000 in
set_option maxRecDepth 100000 in
theorem markEntryS_any (q n cap : Nat) (w : World) (hR : Room w q n) (hq : q < w.heap.size) (hn : n ≤ 1048576) :
    Calls Try.prog 56 #[.slice (some ⟨q, 0, none⟩) n cap, .int .i64 1] w fun r w' => (∃ k : Nat, r = .returned (.int .i64 k)) ∧ w.grownBy w' (some q) := by
  go_enter Try.func56, Try.ntmps56
  go_wp2
  go_loopw [1, 5] (fun c i wr => ∃ j : Nat, j ≤ n ∧ i = .int .i64 j ∧ c = .int .i64 ((1 + 7 * j : Nat) : Int) ∧ Room wr q n ∧ w.grownBy wr (some q)) (fun _ i _ => n - (intOf i).toNat)
  case atStart => exact ⟨0, Nat.zero_le _, rfl, by simp, hR, ⟨rfl, rfl, rfl, Nat.le_refl _, fun _ _ _ => rfl⟩⟩
  case round =>
    obtain ⟨j, hj, rfl, rfl, hR', hg⟩ := hrel
    have hz := hg.size
    by_cases hlt : j < n
    · obtain ⟨y0, d0⟩ := hR'.there (j * 7) (by omega)
      obtain ⟨y1, d1⟩ := hR'.there (j * 7 + 1) (by omega)
      obtain ⟨y2, d2⟩ := hR'.there (j * 7 + 2) (by omega)
      obtain ⟨y3, d3⟩ := hR'.there (j * 7 + 3) (by omega)
      have hfr := hR'.free
      have g1 : True := trivial
      have g2 : True := trivial
      go_wp2_with (first
        | (go_at_call 88; clear g1; refine (markText_int _ _ (by omega) (by omega)).mono ?_; rintro r w1 ⟨⟨s1, rfl⟩, hb1⟩; have R1 : Room w1 q n := Room.below (by exact (((hR'.set _ _).set _ _).set _ _).set _ _) hb1 (by simp [World.setCell]; omega); have G1 : w.grownBy w1 (some q) := grown_trans (by exact grown_trans (grown_trans (grown_trans (grown_trans hg (grown_set _ _ _ _ _ rfl)) (grown_set _ _ _ _ _ rfl)) (grown_set _ _ _ _ _ rfl)) (grown_set _ _ _ _ _ rfl)) (grown_below _ hb1); obtain ⟨y4, d4⟩ := R1.there (j * 7 + 1 + 3) (by omega); have hfr1 := R1.free; have hz1 := G1.size; clear hb1)
        | (go_at_call 88; clear g2; refine (markText_int _ _ (by omega) (by omega)).mono ?_; rintro r w2 ⟨⟨s2, rfl⟩, hb2⟩; have R2 : Room w2 q n := Room.below (by exact R1.set _ _) hb2 (by simp [World.setCell]; omega); have G2 : w.grownBy w2 (some q) := grown_trans (by exact grown_trans G1 (grown_set _ _ _ _ _ rfl)) (grown_below _ hb2); obtain ⟨y5, d5⟩ := R2.there (j * 7 + 1 + 4) (by omega); have hfr2 := R2.free; have hz2 := G2.size; clear hb2)
        | (go_at_call 88; refine (markText_int _ _ (by omega) (by omega)).mono ?_; rintro r w3 ⟨⟨s3, rfl⟩, hb3⟩; have R3 : Room w3 q n := Room.below (by exact R2.set _ _) hb3 (by simp [World.setCell]; omega); have G3 : w.grownBy w3 (some q) := grown_trans (by exact grown_trans G2 (grown_set _ _ _ _ _ rfl)) (grown_below _ hb3); obtain ⟨y6, d6⟩ := R3.there (j * 7 + 1 + 5) (by omega); have hfr3 := R3.free; clear hb3))
      go_roundw
      case rel => exact ⟨j + 1, by omega, by go_num, by go_num, R3.set _ _, grown_trans G3 (grown_set _ _ _ _ _ rfl)⟩
      case measure => simp [intOf]; omega
    · go_wp2
      go_ret
      exact ⟨⟨_, rfl⟩, hg⟩

set_option maxHeartbeats 1000000 in
theorem markMsg_any (ki fr to tm li lt cm ok hi : Int) (q n cap : Nat) (w : World) (hR : Room w q n) (hq : q < w.heap.size) (hn : n ≤ 1048576) :
    Calls Try.prog 23 #[.agg #[.int .i64 ki, .int .i64 fr, .int .i64 to, .int .i64 tm, .int .i64 li, .int .i64 lt, .int .i64 cm, .int .i64 ok, .int .i64 hi, .slice (some ⟨q, 0, none⟩) n cap], .int .i64 1] w fun r w' => (∃ k : Nat, r = .returned (.int .i64 k)) ∧ w.grownBy w' (some q) := by
  have hb : ∀ ob : Obj, Below w.heap.size w (w.alloc ob) := fun ob => (Below.refl _ _).alloc (Nat.le_refl _) ob
  go_enter Try.func23, Try.ntmps23
  go_wp2_with (go_at_call 56; refine (markEntryS_any q n cap _ (hR.below (hb _) hq) (by simp; omega) hn).mono ?_; rintro r w1 ⟨⟨k, rfl⟩, hg⟩)
  go_ret
  exact ⟨⟨_, rfl⟩, grown_trans (grown_below _ (hb _)) hg⟩
end Go.Proofs.Ytdobgdbceonjkae
