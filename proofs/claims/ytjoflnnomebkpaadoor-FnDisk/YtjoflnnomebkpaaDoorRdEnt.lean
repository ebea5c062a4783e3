/-
  impl.reader: entry, entries.
-/
import Derived.Test.YtjoflnnomebkpaaDoorRdCmd
import Derived.Test.YtjoflnnomebkpaaDoorEntsOwn
import Derived.Test.YtjoflnnomebkpaaDoorGate
namespace Go.Proofs.YtjoflnnomebkpaaDoor
open Go.RowKit
set_option linter.unusedVariables false
set_option linter.unusedSimpArgs false

def rdEnt (s : RSt) : Ent × RSt := (⟨(rdNum s).1, (rdCmd (rdNum s).2).cl, (rdCmd (rdNum s).2).sq, (rdCmd (rdNum s).2).op, (rdCmd (rdNum s).2).k, (rdCmd (rdNum s).2).v, (rdCmd (rdNum s).2).o⟩, (rdCmd (rdNum s).2).left)
/-- k entries, one behind another -/
def entsK (s : RSt) : Nat → List Ent × RSt
  | 0 => ([], s)
  | k + 1 => ((entsK s k).1 ++ [(rdEnt (entsK s k).2).1], (rdEnt (entsK s k).2).2)
/-- a number of entries, and they -/
def rdEnts (s : RSt) : List Ent × RSt := if 32 < (rdNum s).1 then ([], none) else entsK (rdNum s).2 (rdNum s).1

theorem rdEnt_fits (s : RSt) : (rdEnt s).1.fits :=
  ⟨Nat.le_trans (rdCmd_k _) (by decide), Nat.le_trans (rdCmd_v _) (by decide), Nat.le_trans (rdCmd_o _) (by decide)⟩
theorem entsK_len (s : RSt) (k : Nat) : (entsK s k).1.length = k := by
  induction k with
  | zero => rfl
  | succ k ih => rw [entsK, List.length_append, ih]; rfl

theorem infoEntS : (Tryd.prog.info? 92).map (·.size) = some 7 := by kernel_rfl

theorem cmd_s (b : Nat) (w : World) (A : Nat → Addr) (B D : Nat) (st : RSt) (hs : Sents w A B) (h : Rd w b A B D st) :
    Calls Tryd.prog 139 #[.pointer (some ⟨b, 0, none⟩)] w fun e w' => e = .returned (cmdV (rdCmd st)) ∧ Sents w' A B ∧ Rd w' b A B D (rdCmd st).left ∧ w.grownBy w' (some b) :=
  (cmd_any b w A B D st hs h).mono fun e w' ⟨h1, h2, h3⟩ => ⟨h1, hs.kept (grown_below h3 h.1 hs.le), h2, h3⟩

theorem there_of_blockR {w w' : World} {b o n : Nat} (hb : w'.heap[b]? = w.heap[b]?) (h : w.there b o n) : w'.there b o n := fun j hj => by
  rw [World.cell?_of_block (w := w) hb, show w'.frozen? ⟨b, o + j, none⟩ = w.frozen? ⟨b, o + j, none⟩ by simp only [World.frozen?, hb]]
  exact h j hj

set_option maxHeartbeats 4000000 in
set_option maxRecDepth 100000 in
theorem entry_any (b : Nat) (w : World) (A : Nat → Addr) (B D : Nat) (st : RSt) (hs : Sents w A B) (h : Rd w b A B D st) :
    Calls Tryd.prog 133 #[.pointer (some ⟨b, 0, none⟩)] w fun e w' => e = .returned (.agg #[.int .i64 (rdEnt st).1.t, .int .i64 (rdEnt st).1.cl, .int .i64 (rdEnt st).1.sq, .int .i64 (rdEnt st).1.op, .string (rdEnt st).1.k, .string (rdEnt st).1.v, .string (rdEnt st).1.o]) ∧ Sents w' A B ∧ Rd w' b A B D (rdEnt st).2 ∧ w.grownBy w' (some b) := by
  have HN : ∀ w st, Sents w A B → Rd w b A B D st → Hid (Calls Tryd.prog 132 #[.pointer (some ⟨b, 0, none⟩)] w fun e w' => e = .returned (.int .i64 ((rdNum st).1 : Nat)) ∧ Sents w' A B ∧ Rd w' b A B D (rdNum st).2 ∧ w.grownBy w' (some b)) := fun w st hs h => number_s b w A B D st hs h
  have HC : ∀ w st, Sents w A B → Rd w b A B D st → Hid (Calls Tryd.prog 139 #[.pointer (some ⟨b, 0, none⟩)] w fun e w' => e = .returned (cmdV (rdCmd st)) ∧ Sents w' A B ∧ Rd w' b A B D (rdCmd st).left ∧ w.grownBy w' (some b)) := fun w st hs h => cmd_s b w A B D st hs h
  have hB0 := h.1
  have hbD := h.2.1
  have hDw := h.2.2.1
  have hT0 : (w.alloc (.cells #[.int .i64 0, .int .i64 0, .int .i64 0, .int .i64 0, .string ⟨#[]⟩, .string ⟨#[]⟩, .string ⟨#[]⟩] 92)).there w.heap.size 0 7 := fun j hj => by rw [Nat.zero_add]; simp [World.cell?_alloc_new, hj]
  have hr0 : Rd (w.alloc (.cells #[.int .i64 0, .int .i64 0, .int .i64 0, .int .i64 0, .string ⟨#[]⟩, .string ⟨#[]⟩, .string ⟨#[]⟩] 92)) b A B D st := h.below ((Below.refl _ _).alloc hDw _)
  have hs0 : Sents (w.alloc (.cells #[.int .i64 0, .int .i64 0, .int .i64 0, .int .i64 0, .string ⟨#[]⟩, .string ⟨#[]⟩, .string ⟨#[]⟩] 92)) A B := hs.below ((Below.refl _ _).alloc (Nat.le_refl _) _)
  have hle := hs.le
  clear h hs
  go_enter Tryd.func133, Tryd.ntmps133
  go_wp2_with (first
    | (go_at_call 132; refine Calls.mono (HN _ _ hs0 hr0).out ?_; rintro e w1 ⟨rfl, hs1, hr1, hg1⟩)
    | (go_at_call 139; refine Calls.mono (HC _ _ hs1 hr1).out ?_; unfold cmdV; rintro e w2 ⟨rfl, hs2, hr2, hg2⟩; have hG := grownBy_trans hg1 hg2; have hT2 := there_of_blockR (hG.block w.heap.size (by simp) (by intro e; injection e with e; omega)) hT0)
    | (refine gate_store 92 (.tmp 2) (.tmp 9) rfl ?_; refine wpList_store_mid rfl 92 (.tmp 2) (.tmp 9) rfl w.heap.size 0 #[.int .i64 (rdEnt st).1.t, .int .i64 (rdEnt st).1.cl, .int .i64 (rdEnt st).1.sq, .int .i64 (rdEnt st).1.op, .string (rdEnt st).1.k, .string (rdEnt st).1.v, .string (rdEnt st).1.o] rfl rfl hT2 infoEntS (by simp [Value.oneCell']) ?_; have hra4 := World.rangeAt_setCells_same _ w.heap.size 0 [.int .i64 (rdEnt st).1.t, .int .i64 (rdEnt st).1.cl, .int .i64 (rdEnt st).1.sq, .int .i64 (rdEnt st).1.op, .string (rdEnt st).1.k, .string (rdEnt st).1.v, .string (rdEnt st).1.o] hT2; have hld := run_loadVar_mid (P := Tryd.prog) _ w.heap.size 0 92 _ _ hra4 Tryd.underlying92 rfl infoEntS; have hB4 := below_setCells (Nat.le_refl w.heap.size) [.int .i64 (rdEnt st).1.t, .int .i64 (rdEnt st).1.cl, .int .i64 (rdEnt st).1.sq, .int .i64 (rdEnt st).1.op, .string (rdEnt st).1.k, .string (rdEnt st).1.v, .string (rdEnt st).1.o] 0 _ (Below.refl w.heap.size w2); clear hra4; generalize (World.setCells _ w.heap.size 0 _) = W4 at hld hB4 ⊢))
  have hGw := grownBy_trans (grown_alloc (grownBy_refl w (some b)) (.cells #[.int .i64 0, .int .i64 0, .int .i64 0, .int .i64 0, .string ⟨#[]⟩, .string ⟨#[]⟩, .string ⟨#[]⟩] 92)) hG
  refine bodyPost_ret (v := .agg #[.int .i64 (rdEnt st).1.t, .int .i64 (rdEnt st).1.cl, .int .i64 (rdEnt st).1.sq, .int .i64 (rdEnt st).1.op, .string (rdEnt st).1.k, .string (rdEnt st).1.v, .string (rdEnt st).1.o]) ?_ rfl ⟨rfl, hs2.kept (hB4.mono hle), hr2.below (hB4.mono hDw), ⟨hB4.os.trans hGw.os, hB4.tape.trans hGw.tape, hB4.output.trans hGw.output, Nat.le_trans hGw.size hB4.size, fun k hk hne => (hB4.block k hk).trans (hGw.block k hk hne)⟩⟩
  exact results_cell Tryd.results133 rfl hld

theorem grown_then {w w1 w2 : World} {row : Option Nat} (h : w.grownBy w1 row) (hb : Below w.heap.size w1 w2) : w.grownBy w2 row :=
  ⟨hb.os.trans h.os, hb.tape.trans h.tape, hb.output.trans h.output, Nat.le_trans h.size hb.size, fun k hk hne => (hb.block k hk).trans (h.block k hk hne)⟩
end Go.Proofs.YtjoflnnomebkpaaDoor
