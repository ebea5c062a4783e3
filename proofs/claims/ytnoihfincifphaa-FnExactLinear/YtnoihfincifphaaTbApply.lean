/-
  (impl.table).apply.
-/
import Derived.Test.YtnoihfincifphaaTbPut
import Derived.Test.YtnoihfincifphaaCmd
namespace Go.Proofs.Ytnoihfincifphaa
open Go.RowKit Go.Maps
set_option linter.unusedVariables false
set_option linter.unusedSimpArgs false

theorem ses_look (ss : List Se) (cl : Int) : (ss.find? fun a => (seK a).sameKey (.int .i64 cl)).elim (.agg #[.int .i64 0, .int .i64 0, .int .i64 0, .string ⟨#[]⟩]) seV = .agg #[.int .i64 (sesOf ss cl).cl, .int .i64 (sesOf ss cl).sq, .int .i64 (sesOf ss cl).cd, .string (sesOf ss cl).v] := by
  have e : (ss.find? fun a => (seK a).sameKey (.int .i64 cl)) = ss.find? fun s => s.cl == cl := by
    congr 1
    funext a
    show decide (IntKind.i64 = IntKind.i64 ∧ a.cl = cl) = (a.cl == cl)
    by_cases h : a.cl = cl <;> simp [h]
  unfold sesOf
  rw [e]
  cases ss.find? fun s => s.cl == cl <;> rfl
/-- what apply does, the fault of an ill-formed command with it -/
def applyI (ps : List Pr) (ss : List Se) (cl sq op : Int) (k v o : ByteArray) : Int × Int × ByteArray × List Pr × List Se :=
  if cmdF cl sq op k.size v.size o.size = 0 then applyC ps ss cl sq op k v o else (8, 0, tx0, ps, ss)
/-- nothing turned but the blocks of S and new ones -/
structure TchT (S : Nat → Prop) (w w' : World) : Prop where
  os : w'.os = w.os
  tape : w'.tape = w.tape
  output : w'.output = w.output
  size : w.heap.size ≤ w'.heap.size
  block : ∀ k, k < w.heap.size → ¬ S k → w'.heap[k]? = w.heap[k]?
theorem TchT.trans {S : Nat → Prop} {w w1 w2 : World} (h : TchT S w w1) (k : TchT S w1 w2) : TchT S w w2 :=
  ⟨k.os.trans h.os, k.tape.trans h.tape, k.output.trans h.output, Nat.le_trans h.size k.size, fun i hi hn => (k.block i (Nat.lt_of_lt_of_le hi h.size) hn).trans (h.block i hi hn)⟩
theorem TchT.below {S : Nat → Prop} {w w' : World} (h : Below w.heap.size w w') : TchT S w w' := ⟨h.os, h.tape, h.output, h.size, fun k hk _ => h.block k hk⟩
theorem TchT.grown {S : Nat → Prop} {b : Nat} {w w' : World} (h : w.grownBy w' (some b)) (hb : S b) : TchT S w w' := ⟨h.os, h.tape, h.output, h.size, fun k hk hn => h.block k hk (by intro e; injection e with e; subst e; exact hn hb)⟩
theorem TchT.set {S : Nat → Prop} {w w' : World} (h : TchT S w w') (b o : Nat) (x : Value) (hb : w.heap.size ≤ b) : TchT S w (w'.setCell ⟨b, o, none⟩ x) :=
  ⟨h.os, h.tape, h.output, by have := h.size; simpa [World.setCell] using this, fun k hk hn => (Below.heap_setCell _ _ _ _ (by simp only []; omega)).trans (h.block k hk hn)⟩

theorem fin3 {S : Nat → Prop} {w w1 : World} {b c q : Nat} {ps : List Pr} {ss : List Se} (hb : b < w.heap.size) (hc : c < w.heap.size) (hq : w.heap.size ≤ q) (hP : MP w1 b ps) (hS : MS w1 c ss) (hT : TchT S w w1) (x y z : Value) :
    MP (((w1.setCell ⟨q, 0, none⟩ x).setCell ⟨q, 1, none⟩ y).setCell ⟨q, 2, none⟩ z) b ps ∧ MS (((w1.setCell ⟨q, 0, none⟩ x).setCell ⟨q, 1, none⟩ y).setCell ⟨q, 2, none⟩ z) c ss ∧ TchT S w (((w1.setCell ⟨q, 0, none⟩ x).setCell ⟨q, 1, none⟩ y).setCell ⟨q, 2, none⟩ z) :=
  ⟨hP.keep (by rw [Below.heap_setCell _ _ _ _ (by simp only []; omega), Below.heap_setCell _ _ _ _ (by simp only []; omega), Below.heap_setCell _ _ _ _ (by simp only []; omega)]),
   hS.keep (by rw [Below.heap_setCell _ _ _ _ (by simp only []; omega), Below.heap_setCell _ _ _ _ (by simp only []; omega), Below.heap_setCell _ _ _ _ (by simp only []; omega)]),
   ((hT.set _ _ _ hq).set _ _ _ hq).set _ _ _ hq⟩

set_option maxHeartbeats 4000000 in
set_option maxRecDepth 100000 in
theorem apply_any (b c : Nat) (ps : List Pr) (ss : List Se) (cl sq op : Int) (k v o : ByteArray) (w : World) (hP : MP w b ps) (hS : MS w c ss) (hbc : b ≠ c) (hp : PsOk ps) (hs : SsOk ss) (hcl : (Lit.int .i64 cl).wf = true) (hk : k.size ≤ 1048576) (hv : v.size ≤ 1048576) (ho : o.size ≤ 1048576) :
    Calls Try.prog 52 #[.agg #[.map (some b), .map (some c)], .agg #[.int .i64 cl, .int .i64 sq, .int .i64 op, .string k, .string v, .string o]] w fun e w' => e = .returned (.agg #[.int .i64 (applyI ps ss cl sq op k v o).1, .int .i64 (applyI ps ss cl sq op k v o).2.1, .string (applyI ps ss cl sq op k v o).2.2.1]) ∧ MP w' b (applyI ps ss cl sq op k v o).2.2.2.1 ∧ MS w' c (applyI ps ss cl sq op k v o).2.2.2.2 ∧ TchT (fun j => j = b ∨ j = c) w w' := by
  have hbw := hP.lt
  have hcw := hS.lt
  have HP : Hid (MP w b ps) := hP
  have HS : Hid (MS w c ss) := hS
  have OP : Hid (PsOk ps) := hp
  have OS : Hid (SsOk ss) := hs
  have hkey : keyOf Try.prog 3 (.int .i64 cl) = some (.int .i64 cl) := keyOf_int_mk Try.underlying3 hcl
  have HF : Hid ((ss.find? fun a => (seK a).sameKey (.int .i64 cl)).elim (.agg #[.int .i64 0, .int .i64 0, .int .i64 0, .string ⟨#[]⟩]) seV = .agg #[.int .i64 (sesOf ss cl).cl, .int .i64 (sesOf ss cl).sq, .int .i64 (sesOf ss cl).cd, .string (sesOf ss cl).v]) := ses_look ss cl
  have HC : Hid (∀ w', Calls Try.prog 79 #[.agg #[.int .i64 cl, .int .i64 sq, .int .i64 op, .string k, .string v, .string o]] w' fun e w'' => e = .returned (.int .i64 (cmdF cl sq op k.size v.size o.size)) ∧ Below w'.heap.size w' w'') := fun w' => implCmdFault_any cl sq op k v o (by unfold maxLen; omega) (by unfold maxLen; omega) (by unfold maxLen; omega) w'
  have HY : Hid (∀ w', MP w' b ps → Calls Try.prog 80 #[.agg #[.map (some b), .map (some c)], .agg #[.int .i64 cl, .int .i64 sq, .int .i64 op, .string k, .string v, .string o]] w' fun e w'' => e = .returned (.tuple #[.int .i64 (carry ps op k v o).1, .string (carry ps op k v o).2.1]) ∧ MP w'' b (carry ps op k v o).2.2 ∧ w'.grownBy w'' (some b)) := fun w' h => carry_any b c ps cl sq op k v o w' h OP.out.rise OP.out.len hk
  have hss := hs.len
  obtain ⟨W, hW⟩ : ∃ W, W = ((((w.alloc (.cells #[.map (some b), .map (some c)] 99)).alloc (.cells #[.int .i64 cl, .int .i64 sq, .int .i64 op, .string k, .string v, .string o] 63)).alloc (.cells #[.int .i64 0, .int .i64 0, .string ⟨#[]⟩] 102)).alloc (.cells #[.int .i64 (sesOf ss cl).cl, .int .i64 (sesOf ss cl).sq, .int .i64 (sesOf ss cl).cd, .string (sesOf ss cl).v] 120)) := ⟨_, rfl⟩
  have HB0 : Hid (Below w.heap.size w W) := by
    rw [hW]; exact ((((Below.refl _ _).alloc (Nat.le_refl _) _).alloc (by simp) _).alloc (by simp; omega) _).alloc (by simp; omega) _
  have B0 : Hid (Blk W w.heap.size #[.map (some b), .map (some c)] 99) := by rw [hW]; exact (((Blk.new _ _ _).alloc _).alloc _).alloc _
  have B1 : Hid (Blk W (w.heap.size + 1) #[.int .i64 cl, .int .i64 sq, .int .i64 op, .string k, .string v, .string o] 63) := by rw [hW]; exact ((Blk.new' _ _ _ (by simp)).alloc _).alloc _
  have B2 : Hid (Blk W (w.heap.size + 1 + 1) #[.int .i64 0, .int .i64 0, .string ⟨#[]⟩] 102) := by rw [hW]; exact (Blk.new' _ _ _ (by simp)).alloc _
  have B3 : Hid (Blk W (w.heap.size + 1 + 1 + 1) #[.int .i64 (sesOf ss cl).cl, .int .i64 (sesOf ss cl).sq, .int .i64 (sesOf ss cl).cd, .string (sesOf ss cl).v] 120) := by rw [hW]; exact Blk.new' _ _ _ (by simp)
  have hWz : W.heap.size = w.heap.size + 4 := by rw [hW]; simp
  clear hP hS hp hs hcl
  have HE : Hid (applyI ps ss cl sq op k v o = if cmdF cl sq op k.size v.size o.size = 0 then (if op = 0 then (1, 0, tx0, ps, ss) else if sq < (sesOf ss cl).sq then (3, 0, tx0, ps, ss) else if (sesOf ss cl).sq = sq then (2, (sesOf ss cl).cd, (sesOf ss cl).v, ps, ss) else (0, (carry ps op k v o).1, (carry ps op k v o).2.1, (carry ps op k v o).2.2, kPut seK ⟨cl, sq, (carry ps op k v o).1, (carry ps op k v o).2.1⟩ ss)) else (8, 0, tx0, ps, ss)) := rfl
  generalize sesOf ss cl = L at *
  by_cases h0 : cmdF cl sq op k.size v.size o.size = 0
  · rw [h0] at HC
    rw [if_pos h0] at HE
    clear h0
    by_cases h1 : op = 0
    · have HE1 : Hid (applyI ps ss cl sq op k v o = (1, 0, tx0, ps, ss)) := HE.out.trans (if_pos h1)
      have hd1 : (op == 0) = true := by simpa using h1
      clear h1
      go_enter Try.func52, Try.ntmps52
      go_wp2_with (first
            | (at_lookup; refine wpl_look _ rfl _ _ 97 rfl 3 120 lawI Try.underlying97 (zeroSe _) c ss.length ss rfl (((HS.out.alloc _).alloc _).alloc _) _ _ rfl hkey _ HF.out ?_)
            | (go_at_call 79; rw [← hW]; refine (HC.out _).mono ?_; rintro e w1 ⟨rfl, hb1⟩; have BR : Hid (Blk w1 (w.heap.size + 1 + 1) _ _) := B2.out.below hb1 (by omega); have BT : Hid (Blk w1 w.heap.size _ _) := B0.out.below hb1 (by omega); have BC : Hid (Blk w1 (w.heap.size + 1) _ _) := B1.out.below hb1 (by omega); have BL : Hid (Blk w1 (w.heap.size + 1 + 1 + 1) _ _) := B3.out.below hb1 (by omega); have hz1 := hb1.size; have HB1 : Hid (Below w.heap.size w w1) := HB0.out.trans (hb1.mono (by omega)); have r0 : w1.cell? ⟨w.heap.size + 1 + 1, 0, none⟩ = some (.int .i64 0) := BR.out.cell 0; have r1 : w1.cell? ⟨w.heap.size + 1 + 1, 1, none⟩ = some (.int .i64 0) := BR.out.cell 1; have r2 : w1.cell? ⟨w.heap.size + 1 + 1, 2, none⟩ = some (.string ⟨#[]⟩) := BR.out.cell 2; have fr := BR.out.free; have y0 : w1.cell? ⟨w.heap.size, 0, none⟩ = some (.map (some b)) := BT.out.cell 0; have y1 : w1.cell? ⟨w.heap.size, 1, none⟩ = some (.map (some c)) := BT.out.cell 1; have c0 : w1.cell? ⟨w.heap.size + 1, 0, none⟩ = some (.int .i64 cl) := BC.out.cell 0; have c1 : w1.cell? ⟨w.heap.size + 1, 1, none⟩ = some (.int .i64 sq) := BC.out.cell 1; have c2 : w1.cell? ⟨w.heap.size + 1, 2, none⟩ = some (.int .i64 op) := BC.out.cell 2; have c3 : w1.cell? ⟨w.heap.size + 1, 3, none⟩ = some (.string k) := BC.out.cell 3; have c4 : w1.cell? ⟨w.heap.size + 1, 4, none⟩ = some (.string v) := BC.out.cell 4; have c5 : w1.cell? ⟨w.heap.size + 1, 5, none⟩ = some (.string o) := BC.out.cell 5; have l1 : w1.cell? ⟨w.heap.size + 1 + 1 + 1, 1, none⟩ = some (.int .i64 L.sq) := BL.out.cell 1; have l2 : w1.cell? ⟨w.heap.size + 1 + 1 + 1, 2, none⟩ = some (.int .i64 L.cd) := BL.out.cell 2; have l3 : w1.cell? ⟨w.heap.size + 1 + 1 + 1, 3, none⟩ = some (.string L.v) := BL.out.cell 3; clear hb1))
      refine bodyPost_ret (v := .agg #[.int .i64 1, .int .i64 0, .string ⟨#[]⟩]) (by simp [results, Try.results52, go_sem, *]) rfl ?_
      rw [HE1.out]
      exact ⟨rfl, fin3 hbw hcw (by omega) (HP.out.below HB1.out) (HS.out.below HB1.out) (TchT.below HB1.out) _ _ _⟩
    · have hd1 : (op == 0) = false := by simpa using h1
      have HEb : Hid (_ = _) := HE.out.trans (if_neg h1)
      by_cases h2 : sq < L.sq
      · have HE1 : Hid (applyI ps ss cl sq op k v o = (3, 0, tx0, ps, ss)) := HEb.out.trans (if_pos h2)
        clear HE HEb
        go_enter Try.func52, Try.ntmps52
        go_wp2_with (first
              | (at_lookup; refine wpl_look _ rfl _ _ 97 rfl 3 120 lawI Try.underlying97 (zeroSe _) c ss.length ss rfl (((HS.out.alloc _).alloc _).alloc _) _ _ rfl hkey _ HF.out ?_)
              | (go_at_call 79; rw [← hW]; refine (HC.out _).mono ?_; rintro e w1 ⟨rfl, hb1⟩; have BR : Hid (Blk w1 (w.heap.size + 1 + 1) _ _) := B2.out.below hb1 (by omega); have BT : Hid (Blk w1 w.heap.size _ _) := B0.out.below hb1 (by omega); have BC : Hid (Blk w1 (w.heap.size + 1) _ _) := B1.out.below hb1 (by omega); have BL : Hid (Blk w1 (w.heap.size + 1 + 1 + 1) _ _) := B3.out.below hb1 (by omega); have hz1 := hb1.size; have HB1 : Hid (Below w.heap.size w w1) := HB0.out.trans (hb1.mono (by omega)); have r0 : w1.cell? ⟨w.heap.size + 1 + 1, 0, none⟩ = some (.int .i64 0) := BR.out.cell 0; have r1 : w1.cell? ⟨w.heap.size + 1 + 1, 1, none⟩ = some (.int .i64 0) := BR.out.cell 1; have r2 : w1.cell? ⟨w.heap.size + 1 + 1, 2, none⟩ = some (.string ⟨#[]⟩) := BR.out.cell 2; have fr := BR.out.free; have y0 : w1.cell? ⟨w.heap.size, 0, none⟩ = some (.map (some b)) := BT.out.cell 0; have y1 : w1.cell? ⟨w.heap.size, 1, none⟩ = some (.map (some c)) := BT.out.cell 1; have c0 : w1.cell? ⟨w.heap.size + 1, 0, none⟩ = some (.int .i64 cl) := BC.out.cell 0; have c1 : w1.cell? ⟨w.heap.size + 1, 1, none⟩ = some (.int .i64 sq) := BC.out.cell 1; have c2 : w1.cell? ⟨w.heap.size + 1, 2, none⟩ = some (.int .i64 op) := BC.out.cell 2; have c3 : w1.cell? ⟨w.heap.size + 1, 3, none⟩ = some (.string k) := BC.out.cell 3; have c4 : w1.cell? ⟨w.heap.size + 1, 4, none⟩ = some (.string v) := BC.out.cell 4; have c5 : w1.cell? ⟨w.heap.size + 1, 5, none⟩ = some (.string o) := BC.out.cell 5; have l1 : w1.cell? ⟨w.heap.size + 1 + 1 + 1, 1, none⟩ = some (.int .i64 L.sq) := BL.out.cell 1; have l2 : w1.cell? ⟨w.heap.size + 1 + 1 + 1, 2, none⟩ = some (.int .i64 L.cd) := BL.out.cell 2; have l3 : w1.cell? ⟨w.heap.size + 1 + 1 + 1, 3, none⟩ = some (.string L.v) := BL.out.cell 3; clear hb1))
        refine bodyPost_ret (v := .agg #[.int .i64 3, .int .i64 0, .string ⟨#[]⟩]) (by simp [results, Try.results52, go_sem, *]) rfl ?_
        rw [HE1.out]
        exact ⟨rfl, fin3 hbw hcw (by omega) (HP.out.below HB1.out) (HS.out.below HB1.out) (TchT.below HB1.out) _ _ _⟩
      · have HEc : Hid (_ = _) := HEb.out.trans (if_neg h2)
        by_cases h3 : L.sq = sq
        · have HE1 : Hid (applyI ps ss cl sq op k v o = (2, L.cd, L.v, ps, ss)) := HEc.out.trans (if_pos h3)
          clear HE HEb HEc
          have hd3 : (L.sq == sq) = true := by simpa using h3
          have hd2 : decide (sq < L.sq) = false := by simpa using h2
          clear h2 h3
          go_enter Try.func52, Try.ntmps52
          go_wp2_with (first
                | (at_lookup; refine wpl_look _ rfl _ _ 97 rfl 3 120 lawI Try.underlying97 (zeroSe _) c ss.length ss rfl (((HS.out.alloc _).alloc _).alloc _) _ _ rfl hkey _ HF.out ?_)
                | (go_at_call 79; rw [← hW]; refine (HC.out _).mono ?_; rintro e w1 ⟨rfl, hb1⟩; have BR : Hid (Blk w1 (w.heap.size + 1 + 1) _ _) := B2.out.below hb1 (by omega); have BT : Hid (Blk w1 w.heap.size _ _) := B0.out.below hb1 (by omega); have BC : Hid (Blk w1 (w.heap.size + 1) _ _) := B1.out.below hb1 (by omega); have BL : Hid (Blk w1 (w.heap.size + 1 + 1 + 1) _ _) := B3.out.below hb1 (by omega); have hz1 := hb1.size; have HB1 : Hid (Below w.heap.size w w1) := HB0.out.trans (hb1.mono (by omega)); have r0 : w1.cell? ⟨w.heap.size + 1 + 1, 0, none⟩ = some (.int .i64 0) := BR.out.cell 0; have r1 : w1.cell? ⟨w.heap.size + 1 + 1, 1, none⟩ = some (.int .i64 0) := BR.out.cell 1; have r2 : w1.cell? ⟨w.heap.size + 1 + 1, 2, none⟩ = some (.string ⟨#[]⟩) := BR.out.cell 2; have fr := BR.out.free; have y0 : w1.cell? ⟨w.heap.size, 0, none⟩ = some (.map (some b)) := BT.out.cell 0; have y1 : w1.cell? ⟨w.heap.size, 1, none⟩ = some (.map (some c)) := BT.out.cell 1; have c0 : w1.cell? ⟨w.heap.size + 1, 0, none⟩ = some (.int .i64 cl) := BC.out.cell 0; have c1 : w1.cell? ⟨w.heap.size + 1, 1, none⟩ = some (.int .i64 sq) := BC.out.cell 1; have c2 : w1.cell? ⟨w.heap.size + 1, 2, none⟩ = some (.int .i64 op) := BC.out.cell 2; have c3 : w1.cell? ⟨w.heap.size + 1, 3, none⟩ = some (.string k) := BC.out.cell 3; have c4 : w1.cell? ⟨w.heap.size + 1, 4, none⟩ = some (.string v) := BC.out.cell 4; have c5 : w1.cell? ⟨w.heap.size + 1, 5, none⟩ = some (.string o) := BC.out.cell 5; have l1 : w1.cell? ⟨w.heap.size + 1 + 1 + 1, 1, none⟩ = some (.int .i64 L.sq) := BL.out.cell 1; have l2 : w1.cell? ⟨w.heap.size + 1 + 1 + 1, 2, none⟩ = some (.int .i64 L.cd) := BL.out.cell 2; have l3 : w1.cell? ⟨w.heap.size + 1 + 1 + 1, 3, none⟩ = some (.string L.v) := BL.out.cell 3; clear hb1))
          refine bodyPost_ret (v := .agg #[.int .i64 2, .int .i64 L.cd, .string L.v]) (by simp [results, Try.results52, go_sem, *]) rfl ?_
          rw [HE1.out]
          exact ⟨rfl, fin3 hbw hcw (by omega) (HP.out.below HB1.out) (HS.out.below HB1.out) (TchT.below HB1.out) _ _ _⟩
        · have HE1 : Hid (applyI ps ss cl sq op k v o = (0, (carry ps op k v o).1, (carry ps op k v o).2.1, (carry ps op k v o).2.2, kPut seK ⟨cl, sq, (carry ps op k v o).1, (carry ps op k v o).2.1⟩ ss)) := HEc.out.trans (if_neg h3)
          clear HE HEb HEc
          have hd3 : (L.sq == sq) = false := by simpa using h3
          have hd2 : decide (sq < L.sq) = false := by simpa using h2
          clear h2 h3
          generalize (carry ps op k v o).1 = R at *
          generalize (carry ps op k v o).2.1 = V at *
          generalize (carry ps op k v o).2.2 = ps' at *
          go_enter Try.func52, Try.ntmps52
          go_wp2_with (first
                | (at_lookup; refine wpl_look _ rfl _ _ 97 rfl 3 120 lawI Try.underlying97 (zeroSe _) c ss.length ss rfl (((HS.out.alloc _).alloc _).alloc _) _ _ rfl hkey _ HF.out ?_)
                | (go_at_call 79; rw [← hW]; refine (HC.out _).mono ?_; rintro e w1 ⟨rfl, hb1⟩; have BR : Hid (Blk w1 (w.heap.size + 1 + 1) _ _) := B2.out.below hb1 (by omega); have BT : Hid (Blk w1 w.heap.size _ _) := B0.out.below hb1 (by omega); have BC : Hid (Blk w1 (w.heap.size + 1) _ _) := B1.out.below hb1 (by omega); have BL : Hid (Blk w1 (w.heap.size + 1 + 1 + 1) _ _) := B3.out.below hb1 (by omega); have hz1 := hb1.size; have HB1 : Hid (Below w.heap.size w w1) := HB0.out.trans (hb1.mono (by omega)); have r0 : w1.cell? ⟨w.heap.size + 1 + 1, 0, none⟩ = some (.int .i64 0) := BR.out.cell 0; have r1 : w1.cell? ⟨w.heap.size + 1 + 1, 1, none⟩ = some (.int .i64 0) := BR.out.cell 1; have r2 : w1.cell? ⟨w.heap.size + 1 + 1, 2, none⟩ = some (.string ⟨#[]⟩) := BR.out.cell 2; have fr := BR.out.free; have y0 : w1.cell? ⟨w.heap.size, 0, none⟩ = some (.map (some b)) := BT.out.cell 0; have y1 : w1.cell? ⟨w.heap.size, 1, none⟩ = some (.map (some c)) := BT.out.cell 1; have c0 : w1.cell? ⟨w.heap.size + 1, 0, none⟩ = some (.int .i64 cl) := BC.out.cell 0; have c1 : w1.cell? ⟨w.heap.size + 1, 1, none⟩ = some (.int .i64 sq) := BC.out.cell 1; have c2 : w1.cell? ⟨w.heap.size + 1, 2, none⟩ = some (.int .i64 op) := BC.out.cell 2; have c3 : w1.cell? ⟨w.heap.size + 1, 3, none⟩ = some (.string k) := BC.out.cell 3; have c4 : w1.cell? ⟨w.heap.size + 1, 4, none⟩ = some (.string v) := BC.out.cell 4; have c5 : w1.cell? ⟨w.heap.size + 1, 5, none⟩ = some (.string o) := BC.out.cell 5; have l1 : w1.cell? ⟨w.heap.size + 1 + 1 + 1, 1, none⟩ = some (.int .i64 L.sq) := BL.out.cell 1; have l2 : w1.cell? ⟨w.heap.size + 1 + 1 + 1, 2, none⟩ = some (.int .i64 L.cd) := BL.out.cell 2; have l3 : w1.cell? ⟨w.heap.size + 1 + 1 + 1, 3, none⟩ = some (.string L.v) := BL.out.cell 3; clear hb1)
                | (go_at_call 80; refine (HY.out _ (HP.out.below HB1.out)).mono ?_; rintro e w2 ⟨rfl, hm2, hg2⟩; have hz2 := hg2.size; have HM2 : Hid (MP w2 b ps') := hm2; have HG2 : Hid (w1.grownBy w2 (some b)) := hg2; have HS2 : Hid (MS w2 c ss) := (HS.out.below HB1.out).keep (hg2.block c (by omega) (by intro e; injection e with e; exact hbc e.symm)); have BR2 : Hid (Blk w2 (w.heap.size + 1 + 1) _ _) := BR.out.keep (hg2.block _ (by omega) (by simp; omega)); have BT2 : Hid (Blk w2 w.heap.size _ _) := BT.out.keep (hg2.block _ (by omega) (by simp; omega)); have BC2 : Hid (Blk w2 (w.heap.size + 1) _ _) := BC.out.keep (hg2.block _ (by omega) (by simp; omega)); have z1 : w2.cell? ⟨w.heap.size, 1, none⟩ = some (.map (some c)) := BT2.out.cell 1; have d0 : w2.cell? ⟨w.heap.size + 1, 0, none⟩ = some (.int .i64 cl) := BC2.out.cell 0; have d1 : w2.cell? ⟨w.heap.size + 1, 1, none⟩ = some (.int .i64 sq) := BC2.out.cell 1; clear hm2 hg2)
                | (at_mapUpdate; refine wpList_mapUpdate_own _ rfl _ _ _ 97 rfl 3 120 lawI Try.underlying97 heldE c ss.length _ rfl HS2.out (by unfold maxLen; omega) _ _ _ rfl rfl hkey _ [] rfl ?_; intro w3 hown3 hgrow3; have hz3 := hgrow3.size; have HS3 : Hid (MS w3 c (kPut seK ⟨cl, sq, R, V⟩ ss)) := MS.put OS.out.rise ⟨cl, sq, R, V⟩ hown3; have HP3 : Hid (MP w3 b ps') := HM2.out.keep (hgrow3.block b (by omega) (by intro e; injection e with e; exact hbc e)); have HT3 : Hid (TchT (fun j => j = b ∨ j = c) w w3) := ((TchT.below HB1.out).trans (TchT.grown HG2.out (.inl rfl))).trans (TchT.grown hgrow3 (.inr rfl)); have BR3 : Hid (Blk w3 (w.heap.size + 1 + 1) _ _) := BR2.out.keep (hgrow3.block _ (by omega) (by simp; omega)); have s0 : w3.cell? ⟨w.heap.size + 1 + 1, 0, none⟩ = some (.int .i64 0) := BR3.out.cell 0; have s1 : w3.cell? ⟨w.heap.size + 1 + 1, 1, none⟩ = some (.int .i64 0) := BR3.out.cell 1; have s2 : w3.cell? ⟨w.heap.size + 1 + 1, 2, none⟩ = some (.string ⟨#[]⟩) := BR3.out.cell 2; have fr3 := BR3.out.free; clear hown3 hgrow3))
          refine bodyPost_ret (v := .agg #[.int .i64 0, .int .i64 R, .string V]) (by simp [results, Try.results52, go_sem, *]) rfl ?_
          rw [HE1.out]
          exact ⟨rfl, fin3 hbw hcw (by omega) HP3.out HS3.out HT3.out _ _ _⟩
  · have HE1 : Hid (applyI ps ss cl sq op k v o = (8, 0, tx0, ps, ss)) := HE.out.trans (if_neg h0)
    have hd : (cmdF cl sq op k.size v.size o.size != 0) = true := by simpa using h0
    clear h0
    generalize cmdF cl sq op k.size v.size o.size = F at *
    go_enter Try.func52, Try.ntmps52
    go_wp2_with (first
          | (at_lookup; refine wpl_look _ rfl _ _ 97 rfl 3 120 lawI Try.underlying97 (zeroSe _) c ss.length ss rfl (((HS.out.alloc _).alloc _).alloc _) _ _ rfl hkey _ HF.out ?_)
          | (go_at_call 79; rw [← hW]; refine (HC.out _).mono ?_; rintro e w1 ⟨rfl, hb1⟩; have BR : Hid (Blk w1 (w.heap.size + 1 + 1) _ _) := B2.out.below hb1 (by omega); have BT : Hid (Blk w1 w.heap.size _ _) := B0.out.below hb1 (by omega); have BC : Hid (Blk w1 (w.heap.size + 1) _ _) := B1.out.below hb1 (by omega); have BL : Hid (Blk w1 (w.heap.size + 1 + 1 + 1) _ _) := B3.out.below hb1 (by omega); have hz1 := hb1.size; have HB1 : Hid (Below w.heap.size w w1) := HB0.out.trans (hb1.mono (by omega)); have r0 : w1.cell? ⟨w.heap.size + 1 + 1, 0, none⟩ = some (.int .i64 0) := BR.out.cell 0; have r1 : w1.cell? ⟨w.heap.size + 1 + 1, 1, none⟩ = some (.int .i64 0) := BR.out.cell 1; have r2 : w1.cell? ⟨w.heap.size + 1 + 1, 2, none⟩ = some (.string ⟨#[]⟩) := BR.out.cell 2; have fr := BR.out.free; have y0 : w1.cell? ⟨w.heap.size, 0, none⟩ = some (.map (some b)) := BT.out.cell 0; have y1 : w1.cell? ⟨w.heap.size, 1, none⟩ = some (.map (some c)) := BT.out.cell 1; have c0 : w1.cell? ⟨w.heap.size + 1, 0, none⟩ = some (.int .i64 cl) := BC.out.cell 0; have c1 : w1.cell? ⟨w.heap.size + 1, 1, none⟩ = some (.int .i64 sq) := BC.out.cell 1; have c2 : w1.cell? ⟨w.heap.size + 1, 2, none⟩ = some (.int .i64 op) := BC.out.cell 2; have c3 : w1.cell? ⟨w.heap.size + 1, 3, none⟩ = some (.string k) := BC.out.cell 3; have c4 : w1.cell? ⟨w.heap.size + 1, 4, none⟩ = some (.string v) := BC.out.cell 4; have c5 : w1.cell? ⟨w.heap.size + 1, 5, none⟩ = some (.string o) := BC.out.cell 5; have l1 : w1.cell? ⟨w.heap.size + 1 + 1 + 1, 1, none⟩ = some (.int .i64 L.sq) := BL.out.cell 1; have l2 : w1.cell? ⟨w.heap.size + 1 + 1 + 1, 2, none⟩ = some (.int .i64 L.cd) := BL.out.cell 2; have l3 : w1.cell? ⟨w.heap.size + 1 + 1 + 1, 3, none⟩ = some (.string L.v) := BL.out.cell 3; clear hb1))
    refine bodyPost_ret (v := .agg #[.int .i64 8, .int .i64 0, .string ⟨#[]⟩]) (by simp [results, Try.results52, go_sem, *]) rfl ?_
    rw [HE1.out]
    exact ⟨rfl, fin3 hbw hcw (by omega) (HP.out.below HB1.out) (HS.out.below HB1.out) (TchT.below HB1.out) _ _ _⟩
end Go.Proofs.Ytnoihfincifphaa
