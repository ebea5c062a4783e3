/-
  impl.reader: cmd.
-/
import Derived.Test.YtjoflnnomebkpaaDoorRdText
namespace Go.Proofs.YtjoflnnomebkpaaDoor
open Go.RowKit
set_option linter.unusedVariables false
set_option linter.unusedSimpArgs false

/-- what a command reads as, and what is left -/
structure CmdR where
  cl : Nat
  sq : Nat
  op : Nat
  k : ByteArray
  v : ByteArray
  o : ByteArray
  left : RSt

def rdCmd (s : RSt) : CmdR :=
  let a := rdNum s
  let b := rdNum a.2
  let c := rdNum b.2
  let d := rdText c.2
  let e := rdText d.2
  let f := rdText e.2
  ⟨a.1, b.1, c.1, d.1, e.1, f.1, f.2⟩

def cmdV (r : CmdR) : Value := .agg #[.int .i64 (r.cl : Nat), .int .i64 (r.sq : Nat), .int .i64 (r.op : Nat), .string r.k, .string r.v, .string r.o]

theorem rdCmd_k (s : RSt) : (rdCmd s).k.size ≤ 64 := rdText_size _
theorem rdCmd_v (s : RSt) : (rdCmd s).v.size ≤ 64 := rdText_size _
theorem rdCmd_o (s : RSt) : (rdCmd s).o.size ≤ 64 := rdText_size _

set_option maxHeartbeats 4000000 in
set_option maxRecDepth 100000 in
theorem cmd_any (b : Nat) (w : World) (A : Nat → Addr) (B D : Nat) (st : RSt) (hs : Sents w A B) (h : Rd w b A B D st) :
    Calls Tryd.prog 139 #[.pointer (some ⟨b, 0, none⟩)] w fun e w' => e = .returned (cmdV (rdCmd st)) ∧ Rd w' b A B D (rdCmd st).left ∧ w.grownBy w' (some b) := by
  have HN : ∀ w st, Sents w A B → Rd w b A B D st → Hid (Calls Tryd.prog 132 #[.pointer (some ⟨b, 0, none⟩)] w fun e w' => e = .returned (.int .i64 ((rdNum st).1 : Nat)) ∧ Sents w' A B ∧ Rd w' b A B D (rdNum st).2 ∧ w.grownBy w' (some b)) := fun w st hs h => number_s b w A B D st hs h
  have HT : ∀ w st, Sents w A B → Rd w b A B D st → Hid (Calls Tryd.prog 141 #[.pointer (some ⟨b, 0, none⟩)] w fun e w' => e = .returned (.string (rdText st).1) ∧ Sents w' A B ∧ Rd w' b A B D (rdText st).2 ∧ w.grownBy w' (some b)) := fun w st hs h => text_s b w A B D st hs h
  have hB0 := h.1
  have hbD := h.2.1
  have hDw := h.2.2.1
  have HR : Hid (Rd w b A B D st) := h
  have HS : Hid (Sents w A B) := hs
  clear h hs
  have y1 : True := trivial
  have y2 : True := trivial
  have y3 : True := trivial
  have y4 : True := trivial
  have y5 : True := trivial
  have y6 : True := trivial
  go_enter Tryd.func139, Tryd.ntmps139
  go_wp2_with (first
    | (go_at_call 132; clear y1; refine Calls.mono (HN _ _ (HS.out.kept (((Below.refl _ _).alloc (by omega) _).alloc (by simp; omega) _)) (HR.out.below (((Below.refl _ _).alloc (by omega) _).alloc (by simp; omega) _))).out ?_; rintro e w1 ⟨rfl, hs, hr, hg⟩; obtain ⟨cc, cf⟩ := grown_cell (q := w.heap.size + 1) hg (by simp [World.setCell] <;> omega) (by omega); obtain ⟨dc, df⟩ := grown_cell (q := w.heap.size) hg (by simp [World.setCell] <;> omega) (by omega); have hG : w.grownBy w1 (some b) := grownBy_trans (grown_alloc (grown_alloc (grownBy_refl w (some b)) _) _) hg; have hz := hG.size; have hz2 : w.heap.size + 1 < w1.heap.size := (by have := hg.size; simp [World.setCell] at this; omega))
    | (go_at_call 132; clear y2; refine Calls.mono (HN _ _ (hs.kept ((Below.refl _ _).setCell (show _ ≤ w.heap.size + 1 by omega) _)) (hr.below ((Below.refl _ _).setCell (show _ ≤ w.heap.size + 1 by omega) _))).out ?_; rintro e w2 ⟨rfl, hs, hr, hg⟩; obtain ⟨cc, cf⟩ := grown_cell (q := w.heap.size + 1) hg (by simp [World.setCell] <;> omega) (by omega); obtain ⟨dc, df⟩ := grown_cell (q := w.heap.size) hg (by simp [World.setCell] <;> omega) (by omega); have hG : w.grownBy w2 (some b) := grownBy_trans (grown_setNew hG (w.heap.size + 1) _ _ (by omega)) hg; have hz := hG.size; have hz2 : w.heap.size + 1 < w2.heap.size := (by have := hg.size; simp [World.setCell] at this; omega))
    | (go_at_call 132; clear y3; refine Calls.mono (HN _ _ (hs.kept ((Below.refl _ _).setCell (show _ ≤ w.heap.size + 1 by omega) _)) (hr.below ((Below.refl _ _).setCell (show _ ≤ w.heap.size + 1 by omega) _))).out ?_; rintro e w3 ⟨rfl, hs, hr, hg⟩; obtain ⟨cc, cf⟩ := grown_cell (q := w.heap.size + 1) hg (by simp [World.setCell] <;> omega) (by omega); obtain ⟨dc, df⟩ := grown_cell (q := w.heap.size) hg (by simp [World.setCell] <;> omega) (by omega); have hG : w.grownBy w3 (some b) := grownBy_trans (grown_setNew hG (w.heap.size + 1) _ _ (by omega)) hg; have hz := hG.size; have hz2 : w.heap.size + 1 < w3.heap.size := (by have := hg.size; simp [World.setCell] at this; omega))
    | (go_at_call 141; clear y4; refine Calls.mono (HT _ _ (hs.kept ((Below.refl _ _).setCell (show _ ≤ w.heap.size + 1 by omega) _)) (hr.below ((Below.refl _ _).setCell (show _ ≤ w.heap.size + 1 by omega) _))).out ?_; rintro e w4 ⟨rfl, hs, hr, hg⟩; obtain ⟨cc, cf⟩ := grown_cell (q := w.heap.size + 1) hg (by simp [World.setCell] <;> omega) (by omega); obtain ⟨dc, df⟩ := grown_cell (q := w.heap.size) hg (by simp [World.setCell] <;> omega) (by omega); have hG : w.grownBy w4 (some b) := grownBy_trans (grown_setNew hG (w.heap.size + 1) _ _ (by omega)) hg; have hz := hG.size; have hz2 : w.heap.size + 1 < w4.heap.size := (by have := hg.size; simp [World.setCell] at this; omega))
    | (go_at_call 141; clear y5; refine Calls.mono (HT _ _ (hs.kept ((Below.refl _ _).setCell (show _ ≤ w.heap.size + 1 by omega) _)) (hr.below ((Below.refl _ _).setCell (show _ ≤ w.heap.size + 1 by omega) _))).out ?_; rintro e w5 ⟨rfl, hs, hr, hg⟩; obtain ⟨cc, cf⟩ := grown_cell (q := w.heap.size + 1) hg (by simp [World.setCell] <;> omega) (by omega); obtain ⟨dc, df⟩ := grown_cell (q := w.heap.size) hg (by simp [World.setCell] <;> omega) (by omega); have hG : w.grownBy w5 (some b) := grownBy_trans (grown_setNew hG (w.heap.size + 1) _ _ (by omega)) hg; have hz := hG.size; have hz2 : w.heap.size + 1 < w5.heap.size := (by have := hg.size; simp [World.setCell] at this; omega))
    | (go_at_call 141; clear y6; refine Calls.mono (HT _ _ (hs.kept ((Below.refl _ _).setCell (show _ ≤ w.heap.size + 1 by omega) _)) (hr.below ((Below.refl _ _).setCell (show _ ≤ w.heap.size + 1 by omega) _))).out ?_; rintro e w6 ⟨rfl, hs, hr, hg⟩; obtain ⟨cc, cf⟩ := grown_cell (q := w.heap.size + 1) hg (by simp [World.setCell] <;> omega) (by omega); obtain ⟨dc, df⟩ := grown_cell (q := w.heap.size) hg (by simp [World.setCell] <;> omega) (by omega); have hG : w.grownBy w6 (some b) := grownBy_trans (grown_setNew hG (w.heap.size + 1) _ _ (by omega)) hg; have hz := hG.size; have hz2 : w.heap.size + 1 < w6.heap.size := (by have := hg.size; simp [World.setCell] at this; omega)))
  exact bodyPost_ret (v := cmdV (rdCmd st)) (by simp [results, Tryd.results139, go_sem, cmdV, rdCmd, *]) rfl ⟨rfl, hr.below ((((((((Below.refl _ _).setCell (show _ ≤ w.heap.size + 1 by omega) _).setCell (show _ ≤ w.heap.size by omega) _).setCell (show _ ≤ w.heap.size by omega) _).setCell (show _ ≤ w.heap.size by omega) _).setCell (show _ ≤ w.heap.size by omega) _).setCell (show _ ≤ w.heap.size by omega) _).setCell (show _ ≤ w.heap.size by omega) _), grown_setNew (grown_setNew (grown_setNew (grown_setNew (grown_setNew (grown_setNew (grown_setNew hG (w.heap.size + 1) _ _ (by omega)) w.heap.size _ _ (by omega)) w.heap.size _ _ (by omega)) w.heap.size _ _ (by omega)) w.heap.size _ _ (by omega)) w.heap.size _ _ (by omega)) w.heap.size _ _ (by omega)⟩
end Go.Proofs.YtjoflnnomebkpaaDoor
