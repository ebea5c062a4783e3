/-
  The walk of the law FnExactEncodeMsg.
-/
import Derived.Test.YtdobgdbceonjkaeMsgArg
import Derived.Test.YtdobgdbceonjkaeMarkEnts
import Derived.Test.YtdobgdbceonjkaeSpecEncMsg
namespace Go.Proofs.Ytdobgdbceonjkae
open Go.RowKit
set_option linter.unusedVariables false

theorem Own.grown {w w' : World} {B q : Nat} {v : Value} {l : List Int} (h : Own w B v l) (hg : w.grownBy w' (some q)) (hne : v.ownBlock ≠ some q) : Own w' B v l := ⟨h.1, h.2.kept hg (.inr hne)⟩
theorem grown_cell {w w' : World} {q b o : Nat} (hg : w.grownBy w' (some q)) (hb : b < w.heap.size) (hne : b ≠ q) : w'.cell? ⟨b, o, none⟩ = w.cell? ⟨b, o, none⟩ := World.cell?_of_block (w := w) (hg.block b hb (fun e => hne (by injection e)))

set_option maxHeartbeats 16000000 in
set_option maxRecDepth 100000 in
theorem lawEncodeMsg_walk (ki fr to tm li lt cm ok hi : Int) (ev : Value) (l : List Ent) (w : World) (hv : Es w ev l) :
    Calls Try.prog 4 #[.agg #[.int .i64 ki, .int .i64 fr, .int .i64 to, .int .i64 tm, .int .i64 li, .int .i64 lt, .int .i64 cm, .int .i64 ok, .int .i64 hi, ev]] w fun r w' => r = .returned (.bool true) ∧ Below w.heap.size w w' := by
  have hL : (encMsg ki fr to tm li lt cm ok hi l).length ≤ 20000 := by
    unfold encMsg
    split
    · next hF =>
      obtain ⟨⟨a1, a2⟩, ⟨a3, a4⟩, ⟨a5, a6⟩, ⟨a7, a8⟩, ⟨a9, a10⟩, ⟨a11, a12⟩, ⟨a13, a14⟩, ⟨a15, a16⟩, ⟨a17, a18⟩, hl32, hall⟩ := msgF_ok hF
      obtain ⟨_, hlen⟩ := msgL_len ki.toNat fr.toNat to.toNat tm.toNat li.toNat lt.toNat cm.toNat ok.toNat hi.toNat l (by simp; omega) hl32 hall
      simp [frameL, wordL]; omega
    · simp
  have HI : ∀ (ev : Value) (w : World), Es w ev l → l.length ≤ 1048576 → Calls Try.prog 21 #[.agg #[.int .i64 ki, .int .i64 fr, .int .i64 to, .int .i64 tm, .int .i64 li, .int .i64 lt, .int .i64 cm, .int .i64 ok, .int .i64 hi, ev]] w fun e w' => ∃ v', e = .returned v' ∧ Own w' w.heap.size v' (encMsg ki fr to tm li lt cm ok hi l) ∧ Below w.heap.size w w' := fun ev w h h' => implEncodeMsg_any ki fr to tm li lt cm ok hi ev l w h h'
  have HS : ∀ (ev : Value) (w : World), Es w ev l → l.length ≤ 1048576 → Calls Try.prog 19 #[.agg #[.int .i64 ki, .int .i64 fr, .int .i64 to, .int .i64 tm, .int .i64 li, .int .i64 lt, .int .i64 cm, .int .i64 ok, .int .i64 hi, ev]] w fun e w' => ∃ v', e = .returned v' ∧ Own w' w.heap.size v' (encMsg ki fr to tm li lt cm ok hi l) ∧ Below w.heap.size w w' := fun ev w h h' => specEncodeMsg_any ki fr to tm li lt cm ok hi ev l w h h'
  generalize encMsg ki fr to tm li lt cm ok hi l = L at hL HI HS
  have hLm : L.length ≤ maxLen := by unfold maxLen; omega
  have hV : Hid (Es w ev l) := hv
  obtain ⟨hl, hf, a, cap, rfl, hc⟩ := hv
  clear hc hf
  have hB : Below w.heap.size w (w.alloc (.cells #[.int .i64 ki, .int .i64 fr, .int .i64 to, .int .i64 tm, .int .i64 li, .int .i64 lt, .int .i64 cm, .int .i64 ok, .int .i64 hi, .slice a l.length cap] 45)) := (Below.refl _ _).alloc (Nat.le_refl _) _
  have g1 : True := trivial
  have g2 : True := trivial
  have g3 : True := trivial
  have g4 : True := trivial
  go_enter Try.func4, Try.ntmps4
  go_wp2_with (first
    | (go_at_call 18; refine (szMsg_any _ _ _ _ _ _ _ _ _ _ l _ (hV.out.below hB)).mono ?_; rintro r w1 ⟨⟨s, rfl, hs⟩, hb⟩; obtain ⟨hc, hf⟩ := bcell hb; have hz : w.heap.size < w1.heap.size := (by have := hb.size; simp at this; omega); replace hB := hB.trans (hb.mono (by simp)))
    | (go_at_call 20; clear g1; have hll : l.length ≤ 1048576 := hs (by omega); refine (toMsg_any _ _ _ _ _ _ _ _ _ _ l _ (hV.out.below hB) hll).mono ?_; rintro r w2 ⟨p, rfl, he, hb, _⟩; obtain ⟨hc, hf⟩ := bcell hb; have hz : w.heap.size < w2.heap.size := (by have := hb.size; omega); replace hB := hB.trans (hb.mono (by omega)))
    | (go_at_call 19; refine (HS _ _ he hll).mono ?_; rintro r w3 ⟨v0, rfl, hw0, hb⟩; obtain ⟨hc, hf⟩ := bcell hb; have hz : w.heap.size < w3.heap.size := (by have := hb.size; omega); replace hB := hB.trans (hb.mono (by omega)))
    | (go_at_call 20; clear g2; have hlt0 := fun k e => (hw0.2.lt k e).2; refine (toMsg_any _ _ _ _ _ _ _ _ _ _ l _ (hV.out.below hB) hll).mono ?_; rintro r w4 ⟨q, rfl, hx, hb, hq, hq4, hfz⟩; obtain ⟨hc, hf⟩ := bcell hb; have hz : w.heap.size < w4.heap.size := (by have := hb.size; omega); replace hB := hB.trans (hb.mono (by omega)); replace hw0 := hw0.below hb; have hA := (Below.refl w4.heap.size w4).alloc (Nat.le_refl _) (.cells #[.int .i64 ki, .int .i64 fr, .int .i64 to, .int .i64 tm, .int .i64 li, .int .i64 lt, .int .i64 cm, .int .i64 ok, .int .i64 hi, .slice (some ⟨q, 0, none⟩) l.length l.length] 50); have R := hx.room hfz; replace hx := hx.below hA; replace hw0 := hw0.below hA; replace hB := hB.trans (hA.mono (by omega)); clear hfz)
    | (go_at_call 21; clear g3; refine (HI _ _ hx hll).mono ?_; rintro r w5 ⟨vg, rfl, hg0, hb⟩; have hb45 := hb; obtain ⟨hc, hf⟩ := bcell hb; have hz5 : w4.heap.size < w5.heap.size := (by have := hb.size; simp at this; omega); have hz5' : w.heap.size < w5.heap.size := (by omega); have hlt1 := fun k e => (hg0.2.lt k e).1; replace hB := hB.trans (hb.mono (by simp; omega)); replace hx := hx.below hb; replace hw0 := hw0.below hb)
    | (go_at_call 13; clear g4; refine (eqByteS_same _ _ L _ (hg0.bs hLm) (hw0.bs hLm)).mono ?_; rintro r w6 ⟨rfl, hb⟩; have hb56 := hb; obtain ⟨hc, hf⟩ := bcell hb; have hz6 : w4.heap.size < w6.heap.size := (by have := hb.size; omega); have hz6' : w.heap.size < w6.heap.size := (by omega); replace hB := hB.trans (hb.mono (by omega)); replace hx := hx.below hb; replace hw0 := hw0.below hb; replace hg0 := hg0.below hb))
  · go_ret
    exact ⟨rfl, hB⟩
  · go_region_held3 (fun w' => w'.cell? ⟨w4.heap.size, 0, none⟩ = some (.int .i64 ki) ∧ w'.cell? ⟨w4.heap.size, 1, none⟩ = some (.int .i64 fr) ∧ w'.cell? ⟨w4.heap.size, 2, none⟩ = some (.int .i64 to) ∧ w'.cell? ⟨w4.heap.size, 3, none⟩ = some (.int .i64 tm) ∧ w'.cell? ⟨w4.heap.size, 4, none⟩ = some (.int .i64 li) ∧ w'.cell? ⟨w4.heap.size, 5, none⟩ = some (.int .i64 lt) ∧ w'.cell? ⟨w4.heap.size, 6, none⟩ = some (.int .i64 cm) ∧ w'.cell? ⟨w4.heap.size, 7, none⟩ = some (.int .i64 ok) ∧ w'.cell? ⟨w4.heap.size, 8, none⟩ = some (.int .i64 hi) ∧ w'.cell? ⟨w4.heap.size, 9, none⟩ = some (.slice (some ⟨q, 0, none⟩) l.length l.length) ∧ w'.cell? ⟨w.heap.size, 0, none⟩ = some (.int .i64 ki) ∧ w'.cell? ⟨w.heap.size, 1, none⟩ = some (.int .i64 fr) ∧ w'.cell? ⟨w.heap.size, 2, none⟩ = some (.int .i64 to) ∧ w'.cell? ⟨w.heap.size, 3, none⟩ = some (.int .i64 tm) ∧ w'.cell? ⟨w.heap.size, 4, none⟩ = some (.int .i64 li) ∧ w'.cell? ⟨w.heap.size, 5, none⟩ = some (.int .i64 lt) ∧ w'.cell? ⟨w.heap.size, 6, none⟩ = some (.int .i64 cm) ∧ w'.cell? ⟨w.heap.size, 7, none⟩ = some (.int .i64 ok) ∧ w'.cell? ⟨w.heap.size, 8, none⟩ = some (.int .i64 hi) ∧ w'.cell? ⟨w.heap.size, 9, none⟩ = some (.slice a l.length cap)) (simp [*, go_sem])
      (first
        | (go_at_call 20; refine (toMsg_any _ _ _ _ _ _ _ _ _ _ l _ (hV.out.below (hB.drew)) hll).mono ?_; rintro r w7 ⟨y, rfl, hy, hb0, _⟩; have hb7 : Below w6.heap.size w6 w7 := ((Below.refl _ _).drew).trans hb0; have q1 := fun (o : Nat) => hb7.cell (p := ⟨w.heap.size, o, none⟩) (show w.heap.size < w6.heap.size by omega); have q2 := fun (o : Nat) => hb7.cell (p := ⟨w4.heap.size, o, none⟩) (show w4.heap.size < w6.heap.size by omega); have hx7 := hx.below hb7; have hz7 : w6.heap.size ≤ w7.heap.size := hb7.size)
        | (go_at_call 22; refine (eqMsg_same _ _ _ _ _ _ _ _ _ _ _ l _ hx7 hy).mono ?_; rintro r w8 ⟨rfl, hb8⟩; have q3 := fun (o : Nat) => hb8.cell (p := ⟨w.heap.size, o, none⟩) (show w.heap.size < w7.heap.size by omega); have q4 := fun (o : Nat) => hb8.cell (p := ⟨w4.heap.size, o, none⟩) (show w4.heap.size < w7.heap.size by omega)))
    have hb9 : Below w6.heap.size w6 w8 := hb7.trans (hb8.mono hz7)
    have hz8 : w6.heap.size ≤ w8.heap.size := hb9.size
    have hB8 := hB.trans (hb9.mono (show w.heap.size ≤ w6.heap.size by omega))
    have hw8 := hw0.below hb9
    have hg8 := hg0.below hb9
    have hRm : Room w8 q l.length := ((((R.below hA hq4).below hb45 (by simp; omega)).below hb56 (by omega))).below hb9 (by omega)
    have nv0 : v0.ownBlock ≠ some q := fun e => by have := hlt0 _ e; omega
    have nvg : vg.ownBlock ≠ some q := fun e => by have := hlt1 _ e; simp at this; omega
    have hlt1' : ∀ k, v0.ownBlock = some k → k < w4.heap.size := fun k e => by have := hlt0 _ e; omega
    clear hlt0 hb0 hb7 hb8 hb9 hx hx7 hy hw0 hg0 hB
    have k1 : True := trivial
    go_wp2_with (first
      | (go_at_call 23; refine (markMsg_any _ _ _ _ _ _ _ _ _ q l.length l.length _ hRm (by omega) hll).mono ?_; rintro r w9 ⟨⟨kk, rfl⟩, hgm⟩; have hw9 := hw8.grown hgm nv0; have hg9 := hg8.grown hgm nvg; have hz9 := hgm.size; have hB9 := hB8.trans ((Below.refl _ _).grown hgm (by omega) (fun k hk => by injection hk with hk; omega)); have cc9 := fun (o : Nat) => grown_cell (o := o) hgm (show w.heap.size < w8.heap.size by omega) (by omega))
      | (go_at_call 13; clear k1; refine (eqByteS_same _ _ L _ (hg9.bs hLm) (hw9.bs hLm)).mono ?_; rintro r w10 ⟨rfl, hb⟩; obtain ⟨hc, hf⟩ := bcell hb; have hz10 : w9.heap.size ≤ w10.heap.size := hb.size; have hz10' : w.heap.size < w9.heap.size := (by omega); have hw10 := hw9.below hb; have hg10 := hg9.below hb; have hB10 := hB9.trans (hb.mono (by omega)); clear hw9 hg9 hB9)
      | (go_at_call 15; refine (markByteS_any _ L 1 _ _ hg10 (by omega) (by omega)).mono ?_; rintro r w11 ⟨rfl, hm, hgm1⟩; have hbm := hg10.marked hgm1 (by simp; omega); have cc11 := fun (o : Nat) => hbm.cell (p := ⟨w.heap.size, o, none⟩) (by simp; omega); have hz11 : w10.heap.size ≤ w11.heap.size := hbm.size; have hz11' : w.heap.size < w10.heap.size := (by omega); have hB11 := hB10.trans (hbm.mono (by simp; omega)); have hw11 := hw10.far hbm (fun k e => by have := hlt1' k e; simp; omega); clear hg10 hw10 hB10)
      | (go_at_call 24; refine (heldByteS_any _ 1 L.length _ (hm.bs (by rw [marksL_len]; exact hLm)) (by omega) (by omega)).mono ?_; rintro r w12 ⟨rfl, rfl⟩)
      | (go_at_call 20; refine (toMsg_any _ _ _ _ _ _ _ _ _ _ l _ (hV.out.below hB11) hll).mono ?_; rintro r w13 ⟨y2, rfl, hy2, hb, _⟩; replace hm := hm.below hb; have hw13 := hw11.below hb; have hz13 := hb.size; have hB13 := hB11.trans (hb.mono (by omega)); clear hw11 hB11)
      | (go_at_call 21; refine (HI _ _ hy2 hll).mono ?_; rintro r w14 ⟨vh, rfl, hh, hb⟩; replace hm := hm.below hb; have hw14 := hw13.below hb; have hz14 : w13.heap.size ≤ w14.heap.size := hb.size; have hB14 := hB13.trans (hb.mono (by omega)))
      | (go_at_call 13; refine (eqByteS_same _ _ L _ (hh.bs hLm) (hw14.bs hLm)).mono ?_; rintro r w15 ⟨rfl, hb⟩; replace hm := hm.below hb; have hB15 := hB14.trans (hb.mono (by omega))))
    all_goals go_ret
    all_goals exact ⟨rfl, hB15⟩
end Go.Proofs.Ytdobgdbceonjkae
