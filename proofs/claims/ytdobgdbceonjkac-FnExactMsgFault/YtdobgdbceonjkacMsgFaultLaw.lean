/-
  The walk of the law FnExactMsgFault.
-/
import Derived.Test.YtdobgdbceonjkacMsgArg
import Derived.Test.YtdobgdbceonjkacSpecMsgFault6
namespace Go.Proofs.Ytdobgdbceonjkac
open Go.RowKit
set_option linter.unusedVariables false

set_option maxHeartbeats 8000000 in
set_option maxRecDepth 100000 in
theorem lawMsgFault_walk (ki fr to tm li lt cm ok hi : Int) (ev : Value) (l : List Ent) (w : World) (hv : Es w ev l) :
    Calls Try.prog 4 #[.agg #[.int .i64 ki, .int .i64 fr, .int .i64 to, .int .i64 tm, .int .i64 li, .int .i64 lt, .int .i64 cm, .int .i64 ok, .int .i64 hi, ev]] w fun r w' => r = .returned (.bool true) ∧ Below w.heap.size w w' := by
  have hV : Hid (Es w ev l) := hv
  obtain ⟨hl, hf, a, cap, rfl, hc⟩ := hv
  clear hc hf
  have hB : Below w.heap.size w (w.alloc (.cells #[.int .i64 ki, .int .i64 fr, .int .i64 to, .int .i64 tm, .int .i64 li, .int .i64 lt, .int .i64 cm, .int .i64 ok, .int .i64 hi, .slice a l.length cap] 34)) := (Below.refl _ _).alloc (Nat.le_refl _) _
  have g1 : True := trivial
  have g2 : True := trivial
  go_enter Try.func4, Try.ntmps4
  go_wp2_with (first
    | (go_at_call 13; refine (szMsg_any _ _ _ _ _ _ _ _ _ _ l _ (hV.out.below hB)).mono ?_; rintro r w1 ⟨⟨s, rfl, hs⟩, hb⟩; obtain ⟨hc, hf⟩ := bcell hb; have hz : w.heap.size < w1.heap.size := (by have := hb.size; simp at this; omega); replace hB := hB.trans (hb.mono (by simp)))
    | (go_at_call 15; clear g1; have hll : l.length ≤ 1048576 := hs (by omega); refine (toMsg_any _ _ _ _ _ _ _ _ _ _ l _ (hV.out.below hB) hll).mono ?_; rintro r w2 ⟨p, rfl, he, hb, _⟩; obtain ⟨hc, hf⟩ := bcell hb; have hz : w.heap.size < w2.heap.size := (by have := hb.size; omega); replace hB := hB.trans (hb.mono (by omega)))
    | (go_at_call 14; refine (specMsgFault_any _ _ _ _ _ _ _ _ _ _ l _ he hll).mono ?_; rintro r w3 ⟨rfl, hb⟩; obtain ⟨hc, hf⟩ := bcell hb; have hz : w.heap.size < w3.heap.size := (by have := hb.size; omega); replace hB := hB.trans (hb.mono (by omega)))
    | (go_at_call 15; clear g2; refine (toMsg_any _ _ _ _ _ _ _ _ _ _ l _ (hV.out.below hB) hll).mono ?_; rintro r w4 ⟨q, rfl, hx, hb, _⟩; obtain ⟨hc, hf⟩ := bcell hb; have hz : w.heap.size < w4.heap.size := (by have := hb.size; omega); replace hB := hB.trans (hb.mono (by omega)); replace hx := hx.below ((Below.refl _ _).alloc (Nat.le_refl _) (.cells #[.int .i64 ki, .int .i64 fr, .int .i64 to, .int .i64 tm, .int .i64 li, .int .i64 lt, .int .i64 cm, .int .i64 ok, .int .i64 hi, .slice (some ⟨q, 0, none⟩) l.length l.length] 39)); replace hB := hB.trans ((Below.refl _ _).alloc (by omega) (.cells #[.int .i64 ki, .int .i64 fr, .int .i64 to, .int .i64 tm, .int .i64 li, .int .i64 lt, .int .i64 cm, .int .i64 ok, .int .i64 hi, .slice (some ⟨q, 0, none⟩) l.length l.length] 39)))
    | (go_at_call 16; refine (implMsgFault_any _ _ _ _ _ _ _ _ _ _ l _ hx hll).mono ?_; rintro r w5 ⟨rfl, hb⟩; obtain ⟨hc, hf⟩ := bcell hb; have hz5 : w4.heap.size < w5.heap.size := (by have := hb.size; simp at this; omega); replace hB := hB.trans (hb.mono (by simp; omega)); replace hx := hx.below hb))
  · go_ret
    exact ⟨rfl, hB⟩
  · go_region_held3 (fun w' => w'.cell? ⟨w4.heap.size, 0, none⟩ = some (.int .i64 ki) ∧ w'.cell? ⟨w4.heap.size, 1, none⟩ = some (.int .i64 fr) ∧ w'.cell? ⟨w4.heap.size, 2, none⟩ = some (.int .i64 to) ∧ w'.cell? ⟨w4.heap.size, 3, none⟩ = some (.int .i64 tm) ∧ w'.cell? ⟨w4.heap.size, 4, none⟩ = some (.int .i64 li) ∧ w'.cell? ⟨w4.heap.size, 5, none⟩ = some (.int .i64 lt) ∧ w'.cell? ⟨w4.heap.size, 6, none⟩ = some (.int .i64 cm) ∧ w'.cell? ⟨w4.heap.size, 7, none⟩ = some (.int .i64 ok) ∧ w'.cell? ⟨w4.heap.size, 8, none⟩ = some (.int .i64 hi) ∧ w'.cell? ⟨w4.heap.size, 9, none⟩ = some (.slice (some ⟨q, 0, none⟩) l.length l.length) ∧ w'.cell? ⟨w.heap.size, 0, none⟩ = some (.int .i64 ki) ∧ w'.cell? ⟨w.heap.size, 1, none⟩ = some (.int .i64 fr) ∧ w'.cell? ⟨w.heap.size, 2, none⟩ = some (.int .i64 to) ∧ w'.cell? ⟨w.heap.size, 3, none⟩ = some (.int .i64 tm) ∧ w'.cell? ⟨w.heap.size, 4, none⟩ = some (.int .i64 li) ∧ w'.cell? ⟨w.heap.size, 5, none⟩ = some (.int .i64 lt) ∧ w'.cell? ⟨w.heap.size, 6, none⟩ = some (.int .i64 cm) ∧ w'.cell? ⟨w.heap.size, 7, none⟩ = some (.int .i64 ok) ∧ w'.cell? ⟨w.heap.size, 8, none⟩ = some (.int .i64 hi) ∧ w'.cell? ⟨w.heap.size, 9, none⟩ = some (.slice a l.length cap)) (simp [*, go_sem])
      (first
        | (go_at_call 15; (refine (toMsg_any _ _ _ _ _ _ _ _ _ _ l _ (hV.out.below (hB.drew)) hll).mono ?_; rintro r w6 ⟨y, rfl, hy, hb0, _⟩; have hb6 : Below w5.heap.size w5 w6 := ((Below.refl _ _).drew).trans hb0; have q1 := fun (o : Nat) => hb6.cell (p := ⟨w.heap.size, o, none⟩) (show w.heap.size < w5.heap.size by omega); have q2 := fun (o : Nat) => hb6.cell (p := ⟨w4.heap.size, o, none⟩) (show w4.heap.size < w5.heap.size by omega); have hx6 := hx.below hb6; have hz6 : w5.heap.size ≤ w6.heap.size := hb6.size))
        | (go_at_call 17; refine (eqMsg_same _ _ _ _ _ _ _ _ _ _ _ l _ hx6 hy).mono ?_; rintro r w7 ⟨rfl, hb7⟩; have q3 := fun (o : Nat) => hb7.cell (p := ⟨w.heap.size, o, none⟩) (show w.heap.size < w6.heap.size by omega); have q4 := fun (o : Nat) => hb7.cell (p := ⟨w4.heap.size, o, none⟩) (show w4.heap.size < w6.heap.size by omega)))
    all_goals go_wp2
    all_goals go_ret
    all_goals exact ⟨rfl, hB.trans ((hb6.mono (show w.heap.size ≤ w5.heap.size by omega)).trans (hb7.mono (by omega)))⟩
end Go.Proofs.Ytdobgdbceonjkac
