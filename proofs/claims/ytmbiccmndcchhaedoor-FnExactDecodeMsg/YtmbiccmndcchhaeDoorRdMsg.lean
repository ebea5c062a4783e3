/-
  impl.reader: msg.
-/
import Derived.Test.YtmbiccmndcchhaeDoorRdEnts
namespace Go.Proofs.YtmbiccmndcchhaeDoor
open Go.RowKit
set_option linter.unusedVariables false
set_option linter.unusedSimpArgs false

/-- what a message reads as, and what is left -/
structure MsgR where
  fr : Nat
  to : Nat
  tm : Nat
  li : Nat
  lt : Nat
  cm : Nat
  ok : Nat
  hi : Nat
  es : List Ent
  left : RSt

def rdMsg (s : RSt) : MsgR :=
  let a1 := rdNum s
  let a2 := rdNum a1.2
  let a3 := rdNum a2.2
  let a4 := rdNum a3.2
  let a5 := rdNum a4.2
  let a6 := rdNum a5.2
  let a7 := rdNum a6.2
  let a8 := rdNum a7.2
  let e := rdEnts a8.2
  ⟨a1.1, a2.1, a3.1, a4.1, a5.1, a6.1, a7.1, a8.1, e.1, e.2⟩

def msgV (kd : Int) (r : MsgR) (ev : Value) : Value := .agg #[.int .i64 kd, .int .i64 (r.fr : Nat), .int .i64 (r.to : Nat), .int .i64 (r.tm : Nat), .int .i64 (r.li : Nat), .int .i64 (r.lt : Nat), .int .i64 (r.cm : Nat), .int .i64 (r.ok : Nat), .int .i64 (r.hi : Nat), ev]

theorem infoMsg : (Tryd.prog.info? 25).map (·.size) = some 10 := by kernel_rfl

theorem OwnE.set {w : World} {B : Nat} {v : Value} {l : List Ent} (h : OwnE w B v l) (q i : Nat) (x : Value) (hq : q < B) : OwnE (w.setCell ⟨q, i, none⟩ x) B v l :=
  h.block fun k hk => Below.heap_setCell _ _ _ _ (by have := (h.2.lt k hk).1; show k ≠ q; omega)
theorem rdEnts_len (s : RSt) : (rdEnts s).1.length ≤ 32 := by
  unfold rdEnts
  split
  · simp
  · rw [entsK_len]; omega
theorem OwnE.after {w w' : World} {B B' : Nat} {v : Value} {l : List Ent} (h : OwnE w B v l) (hb : Below B w w') (hB : B' ≤ B) (hk : ∀ k, v.ownBlock = some k → w'.heap[k]? = w.heap[k]?) : OwnE w' B' v l := (h.block hk).le hB

set_option maxHeartbeats 8000000 in
set_option maxRecDepth 100000 in
theorem msg_any (b : Nat) (kd : Int) (w : World) (A : Nat → Addr) (B D : Nat) (st : RSt) (hs : Sents w A B) (h : Rd w b A B D st) :
    Calls Tryd.prog 67 #[.pointer (some ⟨b, 0, none⟩), .int .i64 kd] w fun e w' => ∃ ev, e = .returned (msgV kd (rdMsg st) ev) ∧ OwnE w' w.heap.size ev (rdMsg st).es ∧ Sents w' A B ∧ Rd w' b A B D (rdMsg st).left ∧ w.grownBy w' (some b) := by
  have HN : ∀ w st, Sents w A B → Rd w b A B D st → Hid (Calls Tryd.prog 81 #[.pointer (some ⟨b, 0, none⟩)] w fun e w' => e = .returned (.int .i64 ((rdNum st).1 : Nat)) ∧ Sents w' A B ∧ Rd w' b A B D (rdNum st).2 ∧ w.grownBy w' (some b)) := fun w st hs h => number_s b w A B D st hs h
  have HE : ∀ w st, Sents w A B → Rd w b A B D st → Hid (Calls Tryd.prog 83 #[.pointer (some ⟨b, 0, none⟩)] w fun e w' => ∃ v, e = .returned v ∧ OwnE w' w.heap.size v (rdEnts st).1 ∧ Sents w' A B ∧ Rd w' b A B D (rdEnts st).2 ∧ w.grownBy w' (some b)) := fun w st hs h => entries_any b w A B D st hs h
  have hB0 := h.1
  have hbD := h.2.1
  have hDw := h.2.2.1
  have hle := hs.le
  have HR : Hid (Rd w b A B D st) := h
  have HS : Hid (Sents w A B) := hs
  clear h hs
  have y1 : True := trivial
  have y2 : True := trivial
  have y3 : True := trivial
  have y4 : True := trivial
  have y5 : True := trivial
  have y6 : True := trivial
  have y7 : True := trivial
  have y8 : True := trivial
  go_enter Tryd.func67, Tryd.ntmps67
  go_wp2_with (first
    | (refine gate_store 25 (.tmp 5) (.tmp 7) rfl ?_; refine wpl_store_new rfl 25 (.tmp 5) (.tmp 7) rfl #[.int .i64 0, .int .i64 0, .int .i64 0, .int .i64 0, .int .i64 0, .int .i64 0, .int .i64 0, .int .i64 0, .int .i64 0, .slice none 0 0] #[.int .i64 kd, .int .i64 0, .int .i64 0, .int .i64 0, .int .i64 0, .int .i64 0, .int .i64 0, .int .i64 0, .int .i64 0, .slice none 0 0] (show Value.pointer (some ⟨w.heap.size + 1, 0, none⟩) = _ by simp) rfl infoMsg rfl (by simp [Value.oneCell']) ?_)
    | (go_at_call 81; clear y1; refine Calls.mono (HN _ _ (HS.out.kept (((Below.refl _ _).alloc (by omega) _).alloc (by simp; omega) _)) (HR.out.below (((Below.refl _ _).alloc (by omega) _).alloc (by simp; omega) _))).out ?_; rintro e w1 ⟨rfl, hs, hr, hg⟩; obtain ⟨cc, cf⟩ := grown_cell (q := w.heap.size + 1) hg (by simp [World.setCell] <;> omega) (by omega); obtain ⟨dc, df⟩ := grown_cell (q := w.heap.size) hg (by simp [World.setCell] <;> omega) (by omega); have hG : w.grownBy w1 (some b) := grownBy_trans (grown_alloc (grown_alloc (grownBy_refl w (some b)) _) _) hg; have hz := hG.size; have hz2 : w.heap.size + 1 < w1.heap.size := (by have := hg.size; simp [World.setCell] at this; omega))
    | (go_at_call 81; clear y2; refine Calls.mono (HN _ _ (hs.kept ((Below.refl _ _).setCell (show _ ≤ w.heap.size + 1 by omega) _)) (hr.below ((Below.refl _ _).setCell (show _ ≤ w.heap.size + 1 by omega) _))).out ?_; rintro e w2 ⟨rfl, hs, hr, hg⟩; obtain ⟨cc, cf⟩ := grown_cell (q := w.heap.size + 1) hg (by simp [World.setCell] <;> omega) (by omega); obtain ⟨dc, df⟩ := grown_cell (q := w.heap.size) hg (by simp [World.setCell] <;> omega) (by omega); have hG : w.grownBy w2 (some b) := grownBy_trans (grown_setNew hG (w.heap.size + 1) _ _ (by omega)) hg; have hz := hG.size; have hz2 : w.heap.size + 1 < w2.heap.size := (by have := hg.size; simp [World.setCell] at this; omega))
    | (go_at_call 81; clear y3; refine Calls.mono (HN _ _ (hs.kept ((Below.refl _ _).setCell (show _ ≤ w.heap.size + 1 by omega) _)) (hr.below ((Below.refl _ _).setCell (show _ ≤ w.heap.size + 1 by omega) _))).out ?_; rintro e w3 ⟨rfl, hs, hr, hg⟩; obtain ⟨cc, cf⟩ := grown_cell (q := w.heap.size + 1) hg (by simp [World.setCell] <;> omega) (by omega); obtain ⟨dc, df⟩ := grown_cell (q := w.heap.size) hg (by simp [World.setCell] <;> omega) (by omega); have hG : w.grownBy w3 (some b) := grownBy_trans (grown_setNew hG (w.heap.size + 1) _ _ (by omega)) hg; have hz := hG.size; have hz2 : w.heap.size + 1 < w3.heap.size := (by have := hg.size; simp [World.setCell] at this; omega))
    | (go_at_call 81; clear y4; refine Calls.mono (HN _ _ (hs.kept ((Below.refl _ _).setCell (show _ ≤ w.heap.size + 1 by omega) _)) (hr.below ((Below.refl _ _).setCell (show _ ≤ w.heap.size + 1 by omega) _))).out ?_; rintro e w4 ⟨rfl, hs, hr, hg⟩; obtain ⟨cc, cf⟩ := grown_cell (q := w.heap.size + 1) hg (by simp [World.setCell] <;> omega) (by omega); obtain ⟨dc, df⟩ := grown_cell (q := w.heap.size) hg (by simp [World.setCell] <;> omega) (by omega); have hG : w.grownBy w4 (some b) := grownBy_trans (grown_setNew hG (w.heap.size + 1) _ _ (by omega)) hg; have hz := hG.size; have hz2 : w.heap.size + 1 < w4.heap.size := (by have := hg.size; simp [World.setCell] at this; omega))
    | (go_at_call 81; clear y5; refine Calls.mono (HN _ _ (hs.kept ((Below.refl _ _).setCell (show _ ≤ w.heap.size + 1 by omega) _)) (hr.below ((Below.refl _ _).setCell (show _ ≤ w.heap.size + 1 by omega) _))).out ?_; rintro e w5 ⟨rfl, hs, hr, hg⟩; obtain ⟨cc, cf⟩ := grown_cell (q := w.heap.size + 1) hg (by simp [World.setCell] <;> omega) (by omega); obtain ⟨dc, df⟩ := grown_cell (q := w.heap.size) hg (by simp [World.setCell] <;> omega) (by omega); have hG : w.grownBy w5 (some b) := grownBy_trans (grown_setNew hG (w.heap.size + 1) _ _ (by omega)) hg; have hz := hG.size; have hz2 : w.heap.size + 1 < w5.heap.size := (by have := hg.size; simp [World.setCell] at this; omega))
    | (go_at_call 81; clear y6; refine Calls.mono (HN _ _ (hs.kept ((Below.refl _ _).setCell (show _ ≤ w.heap.size + 1 by omega) _)) (hr.below ((Below.refl _ _).setCell (show _ ≤ w.heap.size + 1 by omega) _))).out ?_; rintro e w6 ⟨rfl, hs, hr, hg⟩; obtain ⟨cc, cf⟩ := grown_cell (q := w.heap.size + 1) hg (by simp [World.setCell] <;> omega) (by omega); obtain ⟨dc, df⟩ := grown_cell (q := w.heap.size) hg (by simp [World.setCell] <;> omega) (by omega); have hG : w.grownBy w6 (some b) := grownBy_trans (grown_setNew hG (w.heap.size + 1) _ _ (by omega)) hg; have hz := hG.size; have hz2 : w.heap.size + 1 < w6.heap.size := (by have := hg.size; simp [World.setCell] at this; omega))
    | (go_at_call 81; clear y7; refine Calls.mono (HN _ _ (hs.kept ((Below.refl _ _).setCell (show _ ≤ w.heap.size + 1 by omega) _)) (hr.below ((Below.refl _ _).setCell (show _ ≤ w.heap.size + 1 by omega) _))).out ?_; rintro e w7 ⟨rfl, hs, hr, hg⟩; obtain ⟨cc, cf⟩ := grown_cell (q := w.heap.size + 1) hg (by simp [World.setCell] <;> omega) (by omega); obtain ⟨dc, df⟩ := grown_cell (q := w.heap.size) hg (by simp [World.setCell] <;> omega) (by omega); have hG : w.grownBy w7 (some b) := grownBy_trans (grown_setNew hG (w.heap.size + 1) _ _ (by omega)) hg; have hz := hG.size; have hz2 : w.heap.size + 1 < w7.heap.size := (by have := hg.size; simp [World.setCell] at this; omega))
    | (go_at_call 81; clear y8; refine Calls.mono (HN _ _ (hs.kept ((Below.refl _ _).setCell (show _ ≤ w.heap.size + 1 by omega) _)) (hr.below ((Below.refl _ _).setCell (show _ ≤ w.heap.size + 1 by omega) _))).out ?_; rintro e w8 ⟨rfl, hs, hr, hg⟩; obtain ⟨cc, cf⟩ := grown_cell (q := w.heap.size + 1) hg (by simp [World.setCell] <;> omega) (by omega); obtain ⟨dc, df⟩ := grown_cell (q := w.heap.size) hg (by simp [World.setCell] <;> omega) (by omega); have hG : w.grownBy w8 (some b) := grownBy_trans (grown_setNew hG (w.heap.size + 1) _ _ (by omega)) hg; have hz := hG.size; have hz2 : w.heap.size + 1 < w8.heap.size := (by have := hg.size; simp [World.setCell] at this; omega))
    | (go_at_call 83; refine Calls.mono (HE _ _ (hs.kept ((Below.refl _ _).setCell (show _ ≤ w.heap.size + 1 by omega) _)) (hr.below ((Below.refl _ _).setCell (show _ ≤ w.heap.size + 1 by omega) _))).out ?_; rintro e w9 ⟨ev, rfl, hoe, hs, hr, hg⟩; obtain ⟨cc, cf⟩ := grown_cell (q := w.heap.size + 1) hg (by simp [World.setCell] <;> omega) (by omega); obtain ⟨dc, df⟩ := grown_cell (q := w.heap.size) hg (by simp [World.setCell] <;> omega) (by omega); have hG : w.grownBy w9 (some b) := grownBy_trans (grown_setNew hG (w.heap.size + 1) _ _ (by omega)) hg; have hz := hG.size; have hz3 : w.heap.size + 1 < w8.heap.size := hz2; have hz2 : w.heap.size + 1 < w9.heap.size := (by have := hg.size; simp [World.setCell] at this; omega); have HOE := hoe.le (show w.heap.size + 2 ≤ _ by simp [World.setCell]; omega); obtain ⟨ea, ec, eve⟩ := hoe.shape; have hL32 := rdEnts_len (rdNum (rdNum (rdNum (rdNum (rdNum (rdNum (rdNum (rdNum st).2).2).2).2).2).2).2).2; generalize (rdEnts (rdNum (rdNum (rdNum (rdNum (rdNum (rdNum (rdNum (rdNum st).2).2).2).2).2).2).2).2).1.length = LL at eve hL32; subst eve; have HO2 : Hid (OwnE w9 (w.heap.size + 2) (.slice ea LL ec) (rdMsg st).es) := HOE; clear HOE hoe))
  refine bodyPost_ret (v := msgV kd (rdMsg st) (.slice ea LL ec)) (by simp [results, Tryd.results67, go_sem, msgV, rdMsg, *]) rfl ⟨_, rfl, ?_, ?_, ?_, ?_⟩
  · exact OwnE.le (((((((((((HO2.out.set (w.heap.size + 1) _ _ (by omega)).set w.heap.size _ _ (by omega)).set w.heap.size _ _ (by omega)).set w.heap.size _ _ (by omega)).set w.heap.size _ _ (by omega)).set w.heap.size _ _ (by omega)).set w.heap.size _ _ (by omega)).set w.heap.size _ _ (by omega)).set w.heap.size _ _ (by omega)).set w.heap.size _ _ (by omega)).set w.heap.size _ _ (by omega)) (by omega)
  · exact hs.kept ((((((((((((Below.refl _ _).setCell (show _ ≤ w.heap.size + 1 by omega) _).setCell (show _ ≤ w.heap.size by omega) _).setCell (show _ ≤ w.heap.size by omega) _).setCell (show _ ≤ w.heap.size by omega) _).setCell (show _ ≤ w.heap.size by omega) _).setCell (show _ ≤ w.heap.size by omega) _).setCell (show _ ≤ w.heap.size by omega) _).setCell (show _ ≤ w.heap.size by omega) _).setCell (show _ ≤ w.heap.size by omega) _).setCell (show _ ≤ w.heap.size by omega) _).setCell (show _ ≤ w.heap.size by omega) _)
  · exact hr.below ((((((((((((Below.refl _ _).setCell (show _ ≤ w.heap.size + 1 by omega) _).setCell (show _ ≤ w.heap.size by omega) _).setCell (show _ ≤ w.heap.size by omega) _).setCell (show _ ≤ w.heap.size by omega) _).setCell (show _ ≤ w.heap.size by omega) _).setCell (show _ ≤ w.heap.size by omega) _).setCell (show _ ≤ w.heap.size by omega) _).setCell (show _ ≤ w.heap.size by omega) _).setCell (show _ ≤ w.heap.size by omega) _).setCell (show _ ≤ w.heap.size by omega) _).setCell (show _ ≤ w.heap.size by omega) _)
  · exact grown_setNew (grown_setNew (grown_setNew (grown_setNew (grown_setNew (grown_setNew (grown_setNew (grown_setNew (grown_setNew (grown_setNew (grown_setNew hG (w.heap.size + 1) _ _ (by omega)) w.heap.size _ _ (by omega)) w.heap.size _ _ (by omega)) w.heap.size _ _ (by omega)) w.heap.size _ _ (by omega)) w.heap.size _ _ (by omega)) w.heap.size _ _ (by omega)) w.heap.size _ _ (by omega)) w.heap.size _ _ (by omega)) w.heap.size _ _ (by omega)) w.heap.size _ _ (by omega)
end Go.Proofs.YtmbiccmndcchhaeDoor
