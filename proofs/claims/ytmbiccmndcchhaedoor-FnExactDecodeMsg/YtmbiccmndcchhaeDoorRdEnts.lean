/-
  impl.reader: entry, entries.
-/
import Derived.Test.YtmbiccmndcchhaeDoorRdCmd
import Derived.Test.YtmbiccmndcchhaeDoorEntsOwn
import Derived.Test.YtmbiccmndcchhaeDoorGate
namespace Go.Proofs.YtmbiccmndcchhaeDoor
open Go.RowKit
set_option linter.unusedVariables false
set_option linter.unusedSimpArgs false

def rdEnt (s : RSt) : Ent × RSt := (⟨(rdNum s).1, (rdCmd (rdNum s).2).cl, (rdCmd (rdNum s).2).sq, (rdCmd (rdNum s).2).op, (rdCmd (rdNum s).2).k, (rdCmd (rdNum s).2).v, (rdCmd (rdNum s).2).o⟩, (rdCmd (rdNum s).2).left)
/-- k entries, one behind another -/
def entsK (s : RSt) : Nat → List Ent × RSt
  | 0 => ([], s)
  | k + 1 => ((entsK s k).1 ++ [(rdEnt (entsK s k).2).1], (rdEnt (entsK s k).2).2)
/-- a number of entries, and they -/
def rdEnts (s : RSt) : List Ent × RSt := if 32 < (rdNum s).1 then ([], none) else entsK (rdNum s).2 (rdNum s).1

theorem rdEnt_fits (s : RSt) : (rdEnt s).1.fits :=
  ⟨Nat.le_trans (rdCmd_k _) (by decide), Nat.le_trans (rdCmd_v _) (by decide), Nat.le_trans (rdCmd_o _) (by decide)⟩
theorem entsK_len (s : RSt) (k : Nat) : (entsK s k).1.length = k := by
  induction k with
  | zero => rfl
  | succ k ih => rw [entsK, List.length_append, ih]; rfl

theorem infoEntS : (Tryd.prog.info? 52).map (·.size) = some 7 := by kernel_rfl

theorem cmd_s (b : Nat) (w : World) (A : Nat → Addr) (B D : Nat) (st : RSt) (hs : Sents w A B) (h : Rd w b A B D st) :
    Calls Tryd.prog 65 #[.pointer (some ⟨b, 0, none⟩)] w fun e w' => e = .returned (cmdV (rdCmd st)) ∧ Sents w' A B ∧ Rd w' b A B D (rdCmd st).left ∧ w.grownBy w' (some b) :=
  (cmd_any b w A B D st hs h).mono fun e w' ⟨h1, h2, h3⟩ => ⟨h1, hs.kept (grown_below h3 h.1 hs.le), h2, h3⟩

theorem there_of_blockR {w w' : World} {b o n : Nat} (hb : w'.heap[b]? = w.heap[b]?) (h : w.there b o n) : w'.there b o n := fun j hj => by
  rw [World.cell?_of_block (w := w) hb, show w'.frozen? ⟨b, o + j, none⟩ = w.frozen? ⟨b, o + j, none⟩ by simp only [World.frozen?, hb]]
  exact h j hj

set_option maxHeartbeats 4000000 in
set_option maxRecDepth 100000 in
theorem entry_any (b : Nat) (w : World) (A : Nat → Addr) (B D : Nat) (st : RSt) (hs : Sents w A B) (h : Rd w b A B D st) :
    Calls Tryd.prog 87 #[.pointer (some ⟨b, 0, none⟩)] w fun e w' => e = .returned (.agg #[.int .i64 (rdEnt st).1.t, .int .i64 (rdEnt st).1.cl, .int .i64 (rdEnt st).1.sq, .int .i64 (rdEnt st).1.op, .string (rdEnt st).1.k, .string (rdEnt st).1.v, .string (rdEnt st).1.o]) ∧ Sents w' A B ∧ Rd w' b A B D (rdEnt st).2 ∧ w.grownBy w' (some b) := by
  have HN : ∀ w st, Sents w A B → Rd w b A B D st → Hid (Calls Tryd.prog 81 #[.pointer (some ⟨b, 0, none⟩)] w fun e w' => e = .returned (.int .i64 ((rdNum st).1 : Nat)) ∧ Sents w' A B ∧ Rd w' b A B D (rdNum st).2 ∧ w.grownBy w' (some b)) := fun w st hs h => number_s b w A B D st hs h
  have HC : ∀ w st, Sents w A B → Rd w b A B D st → Hid (Calls Tryd.prog 65 #[.pointer (some ⟨b, 0, none⟩)] w fun e w' => e = .returned (cmdV (rdCmd st)) ∧ Sents w' A B ∧ Rd w' b A B D (rdCmd st).left ∧ w.grownBy w' (some b)) := fun w st hs h => cmd_s b w A B D st hs h
  have hB0 := h.1
  have hbD := h.2.1
  have hDw := h.2.2.1
  have hT0 : (w.alloc (.cells #[.int .i64 0, .int .i64 0, .int .i64 0, .int .i64 0, .string ⟨#[]⟩, .string ⟨#[]⟩, .string ⟨#[]⟩] 52)).there w.heap.size 0 7 := fun j hj => by rw [Nat.zero_add]; simp [World.cell?_alloc_new, hj]
  have hr0 : Rd (w.alloc (.cells #[.int .i64 0, .int .i64 0, .int .i64 0, .int .i64 0, .string ⟨#[]⟩, .string ⟨#[]⟩, .string ⟨#[]⟩] 52)) b A B D st := h.below ((Below.refl _ _).alloc hDw _)
  have hs0 : Sents (w.alloc (.cells #[.int .i64 0, .int .i64 0, .int .i64 0, .int .i64 0, .string ⟨#[]⟩, .string ⟨#[]⟩, .string ⟨#[]⟩] 52)) A B := hs.below ((Below.refl _ _).alloc (Nat.le_refl _) _)
  have hle := hs.le
  clear h hs
  go_enter Tryd.func87, Tryd.ntmps87
  go_wp2_with (first
    | (go_at_call 81; refine Calls.mono (HN _ _ hs0 hr0).out ?_; rintro e w1 ⟨rfl, hs1, hr1, hg1⟩)
    | (go_at_call 65; refine Calls.mono (HC _ _ hs1 hr1).out ?_; unfold cmdV; rintro e w2 ⟨rfl, hs2, hr2, hg2⟩; have hG := grownBy_trans hg1 hg2; have hT2 := there_of_blockR (hG.block w.heap.size (by simp) (by intro e; injection e with e; omega)) hT0)
    | (refine gate_store 52 (.tmp 2) (.tmp 9) rfl ?_; refine wpList_store_mid rfl 52 (.tmp 2) (.tmp 9) rfl w.heap.size 0 #[.int .i64 (rdEnt st).1.t, .int .i64 (rdEnt st).1.cl, .int .i64 (rdEnt st).1.sq, .int .i64 (rdEnt st).1.op, .string (rdEnt st).1.k, .string (rdEnt st).1.v, .string (rdEnt st).1.o] rfl rfl hT2 infoEntS (by simp [Value.oneCell']) ?_; have hra4 := World.rangeAt_setCells_same _ w.heap.size 0 [.int .i64 (rdEnt st).1.t, .int .i64 (rdEnt st).1.cl, .int .i64 (rdEnt st).1.sq, .int .i64 (rdEnt st).1.op, .string (rdEnt st).1.k, .string (rdEnt st).1.v, .string (rdEnt st).1.o] hT2; have hld := run_loadVar_mid (P := Tryd.prog) _ w.heap.size 0 52 _ _ hra4 Tryd.underlying52 rfl infoEntS; have hB4 := below_setCells (Nat.le_refl w.heap.size) [.int .i64 (rdEnt st).1.t, .int .i64 (rdEnt st).1.cl, .int .i64 (rdEnt st).1.sq, .int .i64 (rdEnt st).1.op, .string (rdEnt st).1.k, .string (rdEnt st).1.v, .string (rdEnt st).1.o] 0 _ (Below.refl w.heap.size w2); clear hra4; generalize (World.setCells _ w.heap.size 0 _) = W4 at hld hB4 ⊢))
  have hGw := grownBy_trans (grown_alloc (grownBy_refl w (some b)) (.cells #[.int .i64 0, .int .i64 0, .int .i64 0, .int .i64 0, .string ⟨#[]⟩, .string ⟨#[]⟩, .string ⟨#[]⟩] 52)) hG
  refine bodyPost_ret (v := .agg #[.int .i64 (rdEnt st).1.t, .int .i64 (rdEnt st).1.cl, .int .i64 (rdEnt st).1.sq, .int .i64 (rdEnt st).1.op, .string (rdEnt st).1.k, .string (rdEnt st).1.v, .string (rdEnt st).1.o]) ?_ rfl ⟨rfl, hs2.kept (hB4.mono hle), hr2.below (hB4.mono hDw), ⟨hB4.os.trans hGw.os, hB4.tape.trans hGw.tape, hB4.output.trans hGw.output, Nat.le_trans hGw.size hB4.size, fun k hk hne => (hB4.block k hk).trans (hGw.block k hk hne)⟩⟩
  exact results_cell Tryd.results87 rfl hld

theorem grown_then {w w1 w2 : World} {row : Option Nat} (h : w.grownBy w1 row) (hb : Below w.heap.size w1 w2) : w.grownBy w2 row :=
  ⟨hb.os.trans h.os, hb.tape.trans h.tape, hb.output.trans h.output, Nat.le_trans h.size hb.size, fun k hk hne => (hb.block k hk).trans (h.block k hk hne)⟩
theorem entAt_new (w : World) (e : Ent) : EntAt (w.alloc (.cells #[.int .i64 e.t, .int .i64 e.cl, .int .i64 e.sq, .int .i64 e.op, .string e.k, .string e.v, .string e.o] 52)) w.heap.size 0 e := by
  unfold EntAt
  simp [World.cell?_alloc_new]

set_option maxHeartbeats 4000000 in
set_option maxRecDepth 100000 in
theorem entries_any (b : Nat) (w : World) (A : Nat → Addr) (B D : Nat) (st : RSt) (hs : Sents w A B) (h : Rd w b A B D st) :
    Calls Tryd.prog 83 #[.pointer (some ⟨b, 0, none⟩)] w fun e w' => ∃ v, e = .returned v ∧ OwnE w' w.heap.size v (rdEnts st).1 ∧ Sents w' A B ∧ Rd w' b A B D (rdEnts st).2 ∧ w.grownBy w' (some b) := by
  have HN : Hid (Calls Tryd.prog 81 #[.pointer (some ⟨b, 0, none⟩)] w fun e w' => e = .returned (.int .i64 ((rdNum st).1 : Nat)) ∧ Sents w' A B ∧ Rd w' b A B D (rdNum st).2 ∧ w.grownBy w' (some b)) := number_s b w A B D st hs h
  have HE : ∀ w st, Sents w A B → Rd w b A B D st → Hid (Calls Tryd.prog 87 #[.pointer (some ⟨b, 0, none⟩)] w fun e w' => e = .returned (.agg #[.int .i64 (rdEnt st).1.t, .int .i64 (rdEnt st).1.cl, .int .i64 (rdEnt st).1.sq, .int .i64 (rdEnt st).1.op, .string (rdEnt st).1.k, .string (rdEnt st).1.v, .string (rdEnt st).1.o]) ∧ Sents w' A B ∧ Rd w' b A B D (rdEnt st).2 ∧ w.grownBy w' (some b)) := fun w st hs h => entry_any b w A B D st hs h
  have hB0 := h.1
  have hbD := h.2.1
  have hDw := h.2.2.1
  have hle := hs.le
  clear h hs
  unfold rdEnts
  by_cases h32 : 32 < (rdNum st).1
  · rw [if_pos h32]
    have h32' : (32 : Int) < (rdNum st).1 := by omega
    generalize (rdNum st).1 = n at *
    generalize (rdNum st).2 = t at *
    go_enter Tryd.func83, Tryd.ntmps83
    go_wp2_with (first
      | (go_at_call 81; refine Calls.mono HN.out ?_; rintro e w1 ⟨rfl, hs1, hr1, hg1⟩)
      | (go_at_call 68; refine (refuse_any b _ A B D t hs1 hr1).mono ?_; rintro e w2 ⟨⟨v, rfl⟩, hr2, hg2⟩))
    go_ret
    exact ⟨_, rfl, OwnE.nil _ _, hs1.kept (grown_below hg2 hB0 hs1.le), hr2, grownBy_trans hg1 hg2⟩
  · rw [if_neg h32]
    have h32' : ((rdNum st).1 : Int) ≤ 32 := by omega
    generalize (rdNum st).1 = n at *
    generalize (rdNum st).2 = t at *
    go_enter Tryd.func83, Tryd.ntmps83
    go_wp2_with (go_at_call 81; refine Calls.mono HN.out ?_; rintro e w1 ⟨rfl, hs1, hr1, hg1⟩)
    go_loopw [4, 12] (fun v i wr => ∃ k : Nat, k ≤ n ∧ i = .int .i64 k ∧ OwnE wr w.heap.size v (entsK t k).1 ∧ Sents wr A B ∧ Rd wr b A B D (entsK t k).2 ∧ w.grownBy wr (some b)) (fun _ i _ => n - (intOf i).toNat)
    case atStart => exact ⟨0, by omega, rfl, OwnE.nil _ _, hs1, hr1, hg1⟩
    case round =>
      obtain ⟨k, hk, rfl, ho, hsr, hrr, hgr⟩ := hrel
      by_cases hlt : k < n
      · have hzr := hgr.size
        have hbw : b < w.heap.size := by omega
        obtain ⟨va, vc, hve⟩ := ho.shape
        rw [entsK_len] at hve
        subst hve
        go_wp2_with (first
          | (go_at_call 87; refine Calls.mono (HE _ _ hsr hrr).out ?_; rintro e w2 ⟨rfl, hs2, hr2, hg2⟩; have hz2 := hg2.size; have hfit := rdEnt_fits (entsK t k).2; have hB2 := (Below.refl w2.heap.size w2).alloc (Nat.le_refl _) (.cells #[.int .i64 (rdEnt (entsK t k).2).1.t, .int .i64 (rdEnt (entsK t k).2).1.cl, .int .i64 (rdEnt (entsK t k).2).1.sq, .int .i64 (rdEnt (entsK t k).2).1.op, .string (rdEnt (entsK t k).2).1.k, .string (rdEnt (entsK t k).2).1.v, .string (rdEnt (entsK t k).2).1.o] 52); have ho2 := (ho.grown hg2 hbw).below hB2; have hea := entAt_new w2 (rdEnt (entsK t k).2).1)
          | (at_builtin; refine wpl_appendE rfl (.tmp 14) (.tmp 17) rfl _ hfit ho2 rfl w2.heap.size 1 hea rfl (by rw [entsK_len]; omega) (by simp; omega) ?_; intro v3 w3 ho3 hg3; have hB3 := (hB2.mono (show w.heap.size ≤ w2.heap.size by omega)).trans (growE hg3 ho2 (by simp; omega))))
        go_roundw
        case rel => exact ⟨k + 1, by omega, by go_num, ho3, hs2.kept (hB3.mono hle), hr2.below (hB3.mono hDw), grown_then (grownBy_trans hgr hg2) hB3⟩
        case measure => simp [intOf]; omega
      · have e : k = n := by omega
        subst e
        go_wp2
        go_ret
        exact ⟨_, rfl, ho, hsr, hrr, hgr⟩
end Go.Proofs.YtmbiccmndcchhaeDoor
