/-
  impl.reader: text, end.
-/
import Derived.Test.YtjoflnnomebkpaaDoorRd
namespace Go.Proofs.YtjoflnnomebkpaaDoor
open Go.RowKit
set_option linter.unusedVariables false

theorem elem22 : Tryd.prog.elem 22 = 5 := by rw [Program.elem, Tryd.underlying22]
theorem under22 : Tryd.prog.underlying 22 = some (.slice (Tryd.prog.elem 22)) := by rw [elem22]; exact Tryd.underlying22

theorem slice_h (a : Option Addr) (len c n : Nat) (h : n ≤ c) (wx : World) : (Instr.slice 22 (.slice a len c) none (some (.int .i64 (n : Int))) none).run Tryd.prog wx = .ok (sliced a 0 n c 1) wx := by
  rw [run_slice_h wx 22 a len c under22 .i64 (n : Int) (by omega) (by omega), elem22, size5]
  rfl
theorem slice_l (a : Option Addr) (len c n : Nat) (h : n ≤ len) (wx : World) : (Instr.slice 22 (.slice a len c) (some (.int .i64 (n : Int))) none none).run Tryd.prog wx = .ok (sliced a n len c 1) wx := by
  rw [run_slice_l wx 22 a len c under22 .i64 (n : Int) (by omega) (by omega), elem22, size5]
  rfl

theorem conv_zero (a : Option Addr) (c : Nat) (w : World) : (convert 22 9 (.slice a 0 c)).run Tryd.prog w = .ok (.string (strOfNums [])) w := by
  cases a with
  | none =>
    rw [run_convert_bytes_nil w 22 5 Tryd.underlying22 Tryd.underlying5 0 c 9 Tryd.underlying9]
    rfl
  | some a =>
    have hl : (loadCells a 0).run Tryd.prog w = .ok (([] : List Int).map (Value.int .u8)).toArray w := by
      simpa using run_loadCells_list (P := Tryd.prog) w a [] (fun j v hj => by simp at hj)
    rw [run_convert_bytes_string w 22 9 5 (some a) 0 c Tryd.underlying22 Tryd.underlying5 Tryd.underlying9, run_bytesToString w a 0 c [] hl]
    rfl

set_option maxRecDepth 100000 in
theorem conv_take {w : World} {a : Option Addr} {len c : Nat} {l : List Int} (h : Bs w (.slice a len c) l) (hc : len ≤ c) (n : Nat) (hn : n ≤ l.length) :
    (convert 22 9 (sliced a 0 n c 1)).run Tryd.prog w = .ok (.string (strOfNums (l.take n))) w := by
  by_cases h0 : n = 0
  · subst h0
    rw [List.take_zero]
    exact conv_zero (if c = 0 then a else a.map (·.add (0 * 1))) (c - 0) w
  · obtain ⟨hl, h8, a', cap, e, hcell⟩ := h
    injection e with e1 e2 e3
    subst e1 e2 e3
    obtain ⟨b, off, rfl, hj⟩ := hcell 0 (by omega)
    have hne : ¬ c = 0 := by omega
    have hs : sliced (some ⟨b, off, none⟩) 0 n c 1 = .slice (some ⟨b, off, none⟩) n c := by simp [sliced, hne, cell_add]
    rw [hs]
    refine run_convert_bytes_arg w 22 5 Tryd.underlying22 Tryd.underlying5 b off n c (l.take n) (by simp; omega) (fun i hi => ?_) 9 Tryd.underlying9
    rw [hj i (by omega)]
    simp [List.getD, hi]

theorem rdNum_none {st : RSt} (h : (rdNum st).2 = none) : (rdNum st).1 = 0 := by
  unfold rdNum at h ⊢
  split
  · rfl
  · split
    · rfl
    · next h' => simp [h'] at h

set_option maxHeartbeats 4000000 in
set_option maxRecDepth 100000 in
theorem text_any (b : Nat) (w : World) (A : Nat → Addr) (B D : Nat) (st : RSt) (hs : Sents w A B) (h : Rd w b A B D st) :
    Calls Tryd.prog 141 #[.pointer (some ⟨b, 0, none⟩)] w fun e w' => e = .returned (.string (rdText st).1) ∧ Rd w' b A B D (rdText st).2 ∧ w.grownBy w' (some b) := by
  have HN : Hid (Calls Tryd.prog 132 #[.pointer (some ⟨b, 0, none⟩)] w fun e w' => e = .returned (.int .i64 ((rdNum st).1 : Nat)) ∧ Rd w' b A B D (rdNum st).2 ∧ w.grownBy w' (some b)) := number_any b w A B D st hs h
  have hB0 := h.1
  have hbD := h.2.1
  have hn := rdNum_lt st
  have h0 := @rdNum_none st
  unfold rdText
  generalize (rdNum st).1 = n at HN hn h0
  generalize (rdNum st).2 = t at HN h0
  cases t with
  | none =>
    obtain rfl := h0 rfl
    have c0 := fun w => conv_zero none 0 w
    have e0 : strOfNums [] = ByteArray.empty := rfl
    rw [e0] at c0
    go_enter Tryd.func141, Tryd.ntmps141
    go_wp2_with (go_at_call 132; refine HN.out.mono ?_; rintro e w1 ⟨rfl, hr, hg⟩; obtain ⟨_, _, hDw, hf, q0, q1⟩ := hr; have hf0 := hf 0)
    go_ret
    refine ⟨rfl, ⟨hB0, hbD, by simpa [World.setCell] using hDw, fun i => ?_, ?_, ?_⟩, grownBy_trans hg (Rd.frame _ _)⟩
    · rw [World.frozen?_setCell]; exact hf i
    · exact World.cell?_setCell_same _ _ _ q0
    · rw [World.cell?_setCell_other _ _ _ _ (by intro h; injection h with _ h2 _; cases h2)]; exact q1
  | some l =>
    clear h0
    by_cases hlong : 64 < n ∨ l.length < n
    · simp only [if_pos hlong]
      have hl64 : 64 < (n : Int) ∨ (l.length : Int) < n := by omega
      go_enter Tryd.func141, Tryd.ntmps141
      go_wp2_with (first
        | (go_at_call 132; refine HN.out.mono ?_; rintro e w1 ⟨rfl, hr, hg⟩; have HR : Hid (Rd w1 b A B D (some l)) := hr; obtain ⟨_, _, hDw, hf, ⟨v, q0, ⟨_, _, a, c, rfl, _⟩, _⟩, q1⟩ := hr; have hs1 := hs.kept (grown_below hg hB0 hs.le))
        | (go_at_call 138; refine (refuse_any b _ A B D (some l) hs1 HR.out).mono ?_; rintro e w2 ⟨⟨v, rfl⟩, hr2, hg2⟩))
      all_goals go_ret
      all_goals exact ⟨rfl, hr2, grownBy_trans hg hg2⟩
    · simp only [if_neg hlong]
      have hl64 : (n : Int) ≤ 64 ∧ (n : Int) ≤ l.length := by omega
      go_enter Tryd.func141, Tryd.ntmps141
      go_wp2_with (first
        | (go_at_call 132; refine HN.out.mono ?_; rintro e w1 ⟨rfl, hr, hg⟩; obtain ⟨_, _, hDw, hf, ⟨v, q0, hbs, ⟨a, len, c, rfl, hlc, hD⟩⟩, q1⟩ := hr; have hf0 := hf 0; have HB : Hid (Bs w1 (.slice a len c) l) := hbs; have el : len = l.length := (by obtain ⟨_, _, _, _, e, _⟩ := hbs; injection e); subst el; clear hbs; have t1 := slice_h a l.length c n (by omega); have t2 := slice_l a l.length c n (by omega); have cv := conv_take HB.out hlc n (by omega); have dr := HB.out.drop hlc hD n (by omega); obtain ⟨a2, n2, c2, e2, _, _⟩ := dr.2; rw [e2] at t2 dr; have DR : Hid (Bs w1 (.slice a2 n2 c2) (l.drop n) ∧ Fits D (.slice a2 n2 c2) (l.drop n)) := dr; generalize sliced a 0 n c 1 = S1 at t1 cv; clear dr e2))
      go_ret
      refine ⟨rfl, ⟨hB0, hbD, by simpa [World.setCell] using hDw, fun i => ?_, ⟨_, ?_, DR.out.1.setCell q0 trivial _, DR.out.2⟩, ?_⟩, grownBy_trans hg (Rd.frame _ _)⟩
      · rw [World.frozen?_setCell]; exact hf i
      · exact World.cell?_setCell_same _ _ _ q0
      · rw [World.cell?_setCell_other _ _ _ _ (by intro h; injection h with _ h2 _; cases h2)]; exact q1

theorem grown_cell {w w' : World} {b q : Nat} (h : w.grownBy w' (some b)) (hq : q < w.heap.size) (hne : q ≠ b) : (∀ o, w'.cell? ⟨q, o, none⟩ = w.cell? ⟨q, o, none⟩) ∧ (∀ o, w'.frozen? ⟨q, o, none⟩ = w.frozen? ⟨q, o, none⟩) := by
  have hb := h.block q hq (by intro e; injection e with e; exact hne e)
  exact ⟨fun o => World.cell?_of_block (w := w) hb, fun o => by simp only [World.frozen?, hb]⟩

/-- number, with what stays -/
theorem number_s (b : Nat) (w : World) (A : Nat → Addr) (B D : Nat) (st : RSt) (hs : Sents w A B) (h : Rd w b A B D st) :
    Calls Tryd.prog 132 #[.pointer (some ⟨b, 0, none⟩)] w fun e w' => e = .returned (.int .i64 ((rdNum st).1 : Nat)) ∧ Sents w' A B ∧ Rd w' b A B D (rdNum st).2 ∧ w.grownBy w' (some b) :=
  (number_any b w A B D st hs h).mono fun e w' ⟨h1, h2, h3⟩ => ⟨h1, hs.kept (grown_below h3 h.1 hs.le), h2, h3⟩
theorem text_s (b : Nat) (w : World) (A : Nat → Addr) (B D : Nat) (st : RSt) (hs : Sents w A B) (h : Rd w b A B D st) :
    Calls Tryd.prog 141 #[.pointer (some ⟨b, 0, none⟩)] w fun e w' => e = .returned (.string (rdText st).1) ∧ Sents w' A B ∧ Rd w' b A B D (rdText st).2 ∧ w.grownBy w' (some b) :=
  (text_any b w A B D st hs h).mono fun e w' ⟨h1, h2, h3⟩ => ⟨h1, hs.kept (grown_below h3 h.1 hs.le), h2, h3⟩
theorem grown_alloc {w w' : World} {row : Option Nat} (h : w.grownBy w' row) (o : Obj) : w.grownBy (w'.alloc o) row := grownBy_trans h (World.grownBy_alloc _ _ _)
theorem grown_setNew {w w' : World} {row : Option Nat} (h : w.grownBy w' row) (q i : Nat) (v : Value) (hq : w.heap.size ≤ q) : w.grownBy (w'.setCell ⟨q, i, none⟩ v) row :=
  ⟨h.os, h.tape, h.output, by simpa [World.setCell] using h.size, fun k hk hne => (Below.heap_setCell _ _ _ _ (by show k ≠ q; omega)).trans (h.block k hk hne)⟩

/-- what end answers -/
def endV (A : Nat → Addr) (st : RSt) : Value := if st = some [] then .nilIface else refV (A 5) 0

set_option maxHeartbeats 1000000 in
theorem end_any (b : Nat) (w : World) (A : Nat → Addr) (B D : Nat) (st : RSt) (hs : Sents w A B) (h : Rd w b A B D st) :
    Calls Tryd.prog 134 #[.pointer (some ⟨b, 0, none⟩)] w fun e w' => e = .returned (endV A st) ∧ w.grownBy w' (some b) := by
  have HR : Hid (Rd w b A B D st) := h
  obtain ⟨hB, hbD, hDw, hf, h⟩ := h
  cases st with
  | none =>
    obtain ⟨h0, h1⟩ := h
    go_enter Tryd.func134, Tryd.ntmps134
    go_wp2
    go_ret
    exact ⟨rfl, grownBy_refl _ _⟩
  | some l =>
    obtain ⟨⟨v, h0, ⟨hl, _, a, c, rfl, _⟩, _⟩, h1⟩ := h
    unfold maxLen at hl
    cases l with
    | nil =>
      go_enter Tryd.func134, Tryd.ntmps134
      go_wp2
      go_ret
      exact ⟨rfl, grownBy_refl _ _⟩
    | cons x l =>
      have hp : (0 : Int) < (x :: l).length := by simp
      generalize hL : x :: l = L at *
      have hv : endV A (some L) = refV (A 5) 0 := by subst hL; rfl
      rw [hv]
      go_enter Tryd.func134, Tryd.ntmps134
      go_wp2_with (go_at_call 138; refine (refuse_any b w A B D (some L) hs HR.out).mono ?_; rintro e w1 ⟨⟨v, rfl⟩, hr, hg⟩; obtain ⟨_, _, _, _, q0, q1⟩ := hr)
      go_ret
      exact ⟨rfl, hg⟩
end Go.Proofs.YtjoflnnomebkpaaDoor
