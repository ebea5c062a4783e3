/-
  laws.szMsg, laws.toMsg, laws.eqMsg.
-/
import Derived.Test.YtdobgdbceonjkaeEqMsg
import Derived.Test.YtdobgdbceonjkaeEnts
namespace Go.Proofs.Ytdobgdbceonjkae
open Go.RowKit
set_option linter.unusedVariables false

set_option maxHeartbeats 1000000 in
theorem szMsg_any (ki fr to tm li lt cm ok hi : Int) (ev : Value) (l : List Ent) (w : World) (hv : Es w ev l) :
    Calls Try.prog 18 #[.agg #[.int .i64 ki, .int .i64 fr, .int .i64 to, .int .i64 tm, .int .i64 li, .int .i64 lt, .int .i64 cm, .int .i64 ok, .int .i64 hi, ev], .int .i64 1048576] w fun r w' =>
      (∃ s : Int, r = .returned (.int .i64 s) ∧ (0 ≤ s → l.length ≤ 1048576)) ∧ Below w.heap.size w w' := by
  have hV : Hid (Es w ev l) := hv
  obtain ⟨hl, hf, a, cap, rfl, hc⟩ := hv
  clear hc hf
  go_enter Try.func18, Try.ntmps18
  go_wp2_with (go_at_call 48; refine (szEntryS_any _ l _ (hV.out.below ((Below.refl _ _).alloc (Nat.le_refl _) _))).mono ?_; rintro r w1 ⟨⟨s, rfl, hs, hs'⟩, hb⟩)
  all_goals go_ret
  all_goals refine ⟨⟨_, rfl, ?_⟩, ((Below.refl _ _).alloc (Nat.le_refl _) _).trans (hb.mono (by simp))⟩
  all_goals omega

set_option maxHeartbeats 4000000 in
set_option maxRecDepth 100000 in
theorem toMsg_any (ki fr to tm li lt cm ok hi : Int) (ev : Value) (l : List Ent) (w : World) (hv : Es w ev l) (hll : l.length ≤ 1048576) :
    Calls Try.prog 20 #[.agg #[.int .i64 ki, .int .i64 fr, .int .i64 to, .int .i64 tm, .int .i64 li, .int .i64 lt, .int .i64 cm, .int .i64 ok, .int .i64 hi, ev]] w fun r w' =>
      ∃ g, r = .returned (.agg #[.int .i64 ki, .int .i64 fr, .int .i64 to, .int .i64 tm, .int .i64 li, .int .i64 lt, .int .i64 cm, .int .i64 ok, .int .i64 hi, .slice (some ⟨g, 0, none⟩) l.length l.length]) ∧ Es w' (.slice (some ⟨g, 0, none⟩) l.length l.length) l ∧ Below w.heap.size w w' ∧ w.heap.size < g ∧ g < w'.heap.size ∧ ∀ i, w'.frozen? ⟨g, i, none⟩ = false := by
  have hV : Hid (Es w ev l) := hv
  obtain ⟨hl, hf, a, cap, rfl, hc⟩ := hv
  clear hc hf
  go_enter Try.func20, Try.ntmps20
  go_wp2_with (go_at_call 53; refine (toEntryS_any _ l _ (hV.out.below ((((Below.refl _ _).alloc (Nat.le_refl _) _).alloc (by simp) _).alloc (by simp; omega) _)) hll).mono ?_; rintro r w1 ⟨g, hg, rfl, he, hb, hgz, hfz⟩; obtain ⟨hc1, hf1⟩ := bcell hb; have hz : w.heap.size + 1 + 1 < w1.heap.size := (by have := hb.size; simp at this; omega))
  have hB0 : Below w.heap.size w w1 := ((((Below.refl _ _).alloc (Nat.le_refl _) _).alloc (by simp) _).alloc (by simp; omega) _).trans (hb.mono (by simp; omega))
  have hg' : w.heap.size + 1 + 1 < g := by simp at hg; omega
  refine bodyPost_ret (v := .agg #[.int .i64 ki, .int .i64 fr, .int .i64 to, .int .i64 tm, .int .i64 li, .int .i64 lt, .int .i64 cm, .int .i64 ok, .int .i64 hi, .slice (some ⟨g, 0, none⟩) l.length l.length]) (by simp [results, Try.results20, go_sem, hc1]) rfl ⟨g, rfl, ?_, ?_, by omega, by simpa [World.setCell] using hgz, fun i => ?_⟩
  · refine he.block ?_
    rw [Below.heap_setCell _ _ _ _ (by simp; omega), Below.heap_setCell _ _ _ _ (by simp; omega), Below.heap_setCell _ _ _ _ (by simp; omega), Below.heap_setCell _ _ _ _ (by simp; omega), Below.heap_setCell _ _ _ _ (by simp; omega), Below.heap_setCell _ _ _ _ (by simp; omega), Below.heap_setCell _ _ _ _ (by simp; omega), Below.heap_setCell _ _ _ _ (by simp; omega), Below.heap_setCell _ _ _ _ (by simp; omega), Below.heap_setCell _ _ _ _ (by simp; omega), Below.heap_setCell _ _ _ _ (by simp; omega)]
  · clear hb hc1 hf1 he
    have h1 : w.heap.size ≤ w.heap.size + 1 := by omega
    have h2 : w.heap.size ≤ w.heap.size + 1 + 1 := by omega
    exact ((((((((((hB0.setCell (p := ⟨w.heap.size + 1 + 1, 9, none⟩) h2 _).setCell (p := ⟨w.heap.size + 1, 0, none⟩) h1 _).setCell (p := ⟨w.heap.size + 1, 1, none⟩) h1 _).setCell (p := ⟨w.heap.size + 1, 2, none⟩) h1 _).setCell (p := ⟨w.heap.size + 1, 3, none⟩) h1 _).setCell (p := ⟨w.heap.size + 1, 4, none⟩) h1 _).setCell (p := ⟨w.heap.size + 1, 5, none⟩) h1 _).setCell (p := ⟨w.heap.size + 1, 6, none⟩) h1 _).setCell (p := ⟨w.heap.size + 1, 7, none⟩) h1 _).setCell (p := ⟨w.heap.size + 1, 8, none⟩) h1 _).setCell (p := ⟨w.heap.size + 1, 9, none⟩) h1 _
  · simp only [World.frozen?_setCell]
    exact hfz i

end Go.Proofs.Ytdobgdbceonjkae
