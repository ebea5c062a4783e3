import Derived.Test.YtafmjckpbcijoaaGreatDoorGround3
import Derived.Test.YtafmjckpbcijoaaGreatDoorGround2
/-
  impl.reader.entries.
-/
namespace Go.Proofs.YtafmjckpbcijoaaGreatDoor
open Go.RowKit
set_option linter.unusedVariables false
set_option linter.unusedSimpArgs false

theorem entAt_new (w : World) (e : Ent) : EntAt (w.alloc (.cells #[.int .i64 e.t, .int .i64 e.cl, .int .i64 e.sq, .int .i64 e.op, .string e.k, .string e.v, .string e.o] 87)) w.heap.size 0 e := by
  unfold EntAt
  simp [World.cell?_alloc_new]

set_option maxHeartbeats 4000000 in
set_option maxRecDepth 100000 in
theorem entries_any (b : Nat) (w : World) (A : Nat → Addr) (B D : Nat) (st : RSt) (hs : Sents w A B) (h : Rd w b A B D st) :
    Calls Tryz.prog 93 #[.pointer (some ⟨b, 0, none⟩)] w fun e w' => ∃ v, e = .returned v ∧ OwnE w' w.heap.size v (rdEnts st).1 ∧ Sents w' A B ∧ Rd w' b A B D (rdEnts st).2 ∧ w.grownBy w' (some b) := by
  have HN : Hid (Calls Tryz.prog 91 #[.pointer (some ⟨b, 0, none⟩)] w fun e w' => e = .returned (.int .i64 ((rdNum st).1 : Nat)) ∧ Sents w' A B ∧ Rd w' b A B D (rdNum st).2 ∧ w.grownBy w' (some b)) := number_s b w A B D st hs h
  have HE : ∀ w st, Sents w A B → Rd w b A B D st → Hid (Calls Tryz.prog 96 #[.pointer (some ⟨b, 0, none⟩)] w fun e w' => e = .returned (.agg #[.int .i64 (rdEnt st).1.t, .int .i64 (rdEnt st).1.cl, .int .i64 (rdEnt st).1.sq, .int .i64 (rdEnt st).1.op, .string (rdEnt st).1.k, .string (rdEnt st).1.v, .string (rdEnt st).1.o]) ∧ Sents w' A B ∧ Rd w' b A B D (rdEnt st).2 ∧ w.grownBy w' (some b)) := fun w st hs h => entry_any b w A B D st hs h
  have hB0 := h.1
  have hbD := h.2.1
  have hDw := h.2.2.1
  have hle := hs.le
  clear h hs
  unfold rdEnts
  by_cases h32 : 32 < (rdNum st).1
  · rw [if_pos h32]
    have h32' : (32 : Int) < (rdNum st).1 := by omega
    generalize (rdNum st).1 = n at *
    generalize (rdNum st).2 = t at *
    go_enter Tryz.func93, Tryz.ntmps93
    go_wp2_with (first
      | (go_at_call 91; refine Calls.mono HN.out ?_; rintro e w1 ⟨rfl, hs1, hr1, hg1⟩)
      | (go_at_call 82; refine (refuse_any b _ A B D t hs1 hr1).mono ?_; rintro e w2 ⟨⟨v, rfl⟩, hr2, hg2⟩))
    go_ret
    exact ⟨_, rfl, OwnE.nil _ _, hs1.kept (grown_below hg2 hB0 hs1.le), hr2, grownBy_trans hg1 hg2⟩
  · rw [if_neg h32]
    have h32' : ((rdNum st).1 : Int) ≤ 32 := by omega
    generalize (rdNum st).1 = n at *
    generalize (rdNum st).2 = t at *
    go_enter Tryz.func93, Tryz.ntmps93
    go_wp2_with (go_at_call 91; refine Calls.mono HN.out ?_; rintro e w1 ⟨rfl, hs1, hr1, hg1⟩)
    go_loopw [4, 12] (fun v i wr => ∃ k : Nat, k ≤ n ∧ i = .int .i64 k ∧ OwnE wr w.heap.size v (entsK t k).1 ∧ Sents wr A B ∧ Rd wr b A B D (entsK t k).2 ∧ w.grownBy wr (some b)) (fun _ i _ => n - (intOf i).toNat)
    case atStart => exact ⟨0, by omega, rfl, OwnE.nil _ _, hs1, hr1, hg1⟩
    case round =>
      obtain ⟨k, hk, rfl, ho, hsr, hrr, hgr⟩ := hrel
      by_cases hlt : k < n
      · have hzr := hgr.size
        have hbw : b < w.heap.size := by omega
        obtain ⟨va, vc, hve⟩ := ho.shape
        rw [entsK_len] at hve
        subst hve
        go_wp2_with (first
          | (go_at_call 96; refine Calls.mono (HE _ _ hsr hrr).out ?_; rintro e w2 ⟨rfl, hs2, hr2, hg2⟩; have hz2 := hg2.size; have hfit := rdEnt_fits (entsK t k).2; have hB2 := (Below.refl w2.heap.size w2).alloc (Nat.le_refl _) (.cells #[.int .i64 (rdEnt (entsK t k).2).1.t, .int .i64 (rdEnt (entsK t k).2).1.cl, .int .i64 (rdEnt (entsK t k).2).1.sq, .int .i64 (rdEnt (entsK t k).2).1.op, .string (rdEnt (entsK t k).2).1.k, .string (rdEnt (entsK t k).2).1.v, .string (rdEnt (entsK t k).2).1.o] 87); have ho2 := (ho.grown hg2 hbw).below hB2; have hea := entAt_new w2 (rdEnt (entsK t k).2).1)
          | (at_builtin; refine wpl_appendE rfl (.tmp 14) (.tmp 17) rfl _ hfit ho2 rfl w2.heap.size 1 hea rfl (by rw [entsK_len]; omega) (by simp; omega) ?_; intro v3 w3 ho3 hg3; have hB3 := (hB2.mono (show w.heap.size ≤ w2.heap.size by omega)).trans (growE hg3 ho2 (by simp; omega))))
        go_roundw
        case rel => exact ⟨k + 1, by omega, by go_num, ho3, hs2.kept (hB3.mono hle), hr2.below (hB3.mono hDw), grown_then (grownBy_trans hgr hg2) hB3⟩
        case measure => simp [intOf]; omega
      · have e : k = n := by omega
        subst e
        go_wp2
        go_ret
        exact ⟨_, rfl, ho, hsr, hrr, hgr⟩
end Go.Proofs.YtafmjckpbcijoaaGreatDoor

/-
  impl.reader: msg.
-/
namespace Go.Proofs.YtafmjckpbcijoaaGreatDoor
open Go.RowKit
set_option linter.unusedVariables false
set_option linter.unusedSimpArgs false

/-- what a message reads as, and what is left -/
structure MsgR where
  fr : Nat
  tq : Nat
  tm : Nat
  li : Nat
  lt : Nat
  cm : Nat
  ok : Nat
  hi : Nat
  es : List Ent
  left : RSt

def rdMsg (s : RSt) : MsgR :=
  let a1 := rdNum s
  let a2 := rdNum a1.2
  let a3 := rdNum a2.2
  let a4 := rdNum a3.2
  let a5 := rdNum a4.2
  let a6 := rdNum a5.2
  let a7 := rdNum a6.2
  let a8 := rdNum a7.2
  let e := rdEnts a8.2
  ⟨a1.1, a2.1, a3.1, a4.1, a5.1, a6.1, a7.1, a8.1, e.1, e.2⟩

def msgV (kd : Int) (r : MsgR) (ev : Value) : Value := .agg #[.int .i64 kd, .int .i64 (r.fr : Nat), .int .i64 (r.tq : Nat), .int .i64 (r.tm : Nat), .int .i64 (r.li : Nat), .int .i64 (r.lt : Nat), .int .i64 (r.cm : Nat), .int .i64 (r.ok : Nat), .int .i64 (r.hi : Nat), ev]

theorem infoMsg : (Tryz.prog.info? 27).map (·.size) = some 10 := by kernel_rfl

theorem OwnE.set {w : World} {B : Nat} {v : Value} {l : List Ent} (h : OwnE w B v l) (q i : Nat) (x : Value) (hq : q < B) : OwnE (w.setCell ⟨q, i, none⟩ x) B v l :=
  h.block fun k hk => Below.heap_setCell _ _ _ _ (by have := (h.2.lt k hk).1; show k ≠ q; omega)
theorem rdEnts_len (s : RSt) : (rdEnts s).1.length ≤ 32 := by
  unfold rdEnts
  split
  · simp
  · rw [entsK_len]; omega
theorem OwnE.after {w w' : World} {B B' : Nat} {v : Value} {l : List Ent} (h : OwnE w B v l) (hb : Below B w w') (hB : B' ≤ B) (hk : ∀ k, v.ownBlock = some k → w'.heap[k]? = w.heap[k]?) : OwnE w' B' v l := (h.block hk).le hB

set_option maxHeartbeats 8000000 in
set_option maxRecDepth 100000 in
theorem msg_any (b : Nat) (kd : Int) (w : World) (A : Nat → Addr) (B D : Nat) (st : RSt) (hs : Sents w A B) (h : Rd w b A B D st) :
    Calls Tryz.prog 81 #[.pointer (some ⟨b, 0, none⟩), .int .i64 kd] w fun e w' => ∃ ev, e = .returned (msgV kd (rdMsg st) ev) ∧ OwnE w' w.heap.size ev (rdMsg st).es ∧ Sents w' A B ∧ Rd w' b A B D (rdMsg st).left ∧ w.grownBy w' (some b) := by
  have HN : ∀ w st, Sents w A B → Rd w b A B D st → Hid (Calls Tryz.prog 91 #[.pointer (some ⟨b, 0, none⟩)] w fun e w' => e = .returned (.int .i64 ((rdNum st).1 : Nat)) ∧ Sents w' A B ∧ Rd w' b A B D (rdNum st).2 ∧ w.grownBy w' (some b)) := fun w st hs h => number_s b w A B D st hs h
  have HE : ∀ w st, Sents w A B → Rd w b A B D st → Hid (Calls Tryz.prog 93 #[.pointer (some ⟨b, 0, none⟩)] w fun e w' => ∃ v, e = .returned v ∧ OwnE w' w.heap.size v (rdEnts st).1 ∧ Sents w' A B ∧ Rd w' b A B D (rdEnts st).2 ∧ w.grownBy w' (some b)) := fun w st hs h => entries_any b w A B D st hs h
  have hB0 := h.1
  have hbD := h.2.1
  have hDw := h.2.2.1
  have hle := hs.le
  have HR : Hid (Rd w b A B D st) := h
  have HS : Hid (Sents w A B) := hs
  clear h hs
  have y1 : True := trivial
  have y2 : True := trivial
  have y3 : True := trivial
  have y4 : True := trivial
  have y5 : True := trivial
  have y6 : True := trivial
  have y7 : True := trivial
  have y8 : True := trivial
  go_enter Tryz.func81, Tryz.ntmps81
  go_wp2_with (first
    | (refine gate_store 27 (.tmp 5) (.tmp 7) rfl ?_; refine wpl_store_new rfl 27 (.tmp 5) (.tmp 7) rfl #[.int .i64 0, .int .i64 0, .int .i64 0, .int .i64 0, .int .i64 0, .int .i64 0, .int .i64 0, .int .i64 0, .int .i64 0, .slice none 0 0] #[.int .i64 kd, .int .i64 0, .int .i64 0, .int .i64 0, .int .i64 0, .int .i64 0, .int .i64 0, .int .i64 0, .int .i64 0, .slice none 0 0] (show Value.pointer (some ⟨w.heap.size + 1, 0, none⟩) = _ by simp) rfl infoMsg rfl (by simp [Value.oneCell']) ?_)
    | (go_at_call 91; clear y1; refine Calls.mono (HN _ _ (HS.out.kept (((Below.refl _ _).alloc (by omega) _).alloc (by simp; omega) _)) (HR.out.below (((Below.refl _ _).alloc (by omega) _).alloc (by simp; omega) _))).out ?_; rintro e w1 ⟨rfl, hs, hr, hg⟩; obtain ⟨cc, cf⟩ := grown_cell (q := w.heap.size + 1) hg (by simp [World.setCell] <;> omega) (by omega); obtain ⟨dc, df⟩ := grown_cell (q := w.heap.size) hg (by simp [World.setCell] <;> omega) (by omega); have hG : w.grownBy w1 (some b) := grownBy_trans (grown_alloc (grown_alloc (grownBy_refl w (some b)) _) _) hg; have hz := hG.size; have hz2 : w.heap.size + 1 < w1.heap.size := (by have := hg.size; simp [World.setCell] at this; omega))
    | (go_at_call 91; clear y2; refine Calls.mono (HN _ _ (hs.kept ((Below.refl _ _).setCell (show _ ≤ w.heap.size + 1 by omega) _)) (hr.below ((Below.refl _ _).setCell (show _ ≤ w.heap.size + 1 by omega) _))).out ?_; rintro e w2 ⟨rfl, hs, hr, hg⟩; obtain ⟨cc, cf⟩ := grown_cell (q := w.heap.size + 1) hg (by simp [World.setCell] <;> omega) (by omega); obtain ⟨dc, df⟩ := grown_cell (q := w.heap.size) hg (by simp [World.setCell] <;> omega) (by omega); have hG : w.grownBy w2 (some b) := grownBy_trans (grown_setNew hG (w.heap.size + 1) _ _ (by omega)) hg; have hz := hG.size; have hz2 : w.heap.size + 1 < w2.heap.size := (by have := hg.size; simp [World.setCell] at this; omega))
    | (go_at_call 91; clear y3; refine Calls.mono (HN _ _ (hs.kept ((Below.refl _ _).setCell (show _ ≤ w.heap.size + 1 by omega) _)) (hr.below ((Below.refl _ _).setCell (show _ ≤ w.heap.size + 1 by omega) _))).out ?_; rintro e w3 ⟨rfl, hs, hr, hg⟩; obtain ⟨cc, cf⟩ := grown_cell (q := w.heap.size + 1) hg (by simp [World.setCell] <;> omega) (by omega); obtain ⟨dc, df⟩ := grown_cell (q := w.heap.size) hg (by simp [World.setCell] <;> omega) (by omega); have hG : w.grownBy w3 (some b) := grownBy_trans (grown_setNew hG (w.heap.size + 1) _ _ (by omega)) hg; have hz := hG.size; have hz2 : w.heap.size + 1 < w3.heap.size := (by have := hg.size; simp [World.setCell] at this; omega))
    | (go_at_call 91; clear y4; refine Calls.mono (HN _ _ (hs.kept ((Below.refl _ _).setCell (show _ ≤ w.heap.size + 1 by omega) _)) (hr.below ((Below.refl _ _).setCell (show _ ≤ w.heap.size + 1 by omega) _))).out ?_; rintro e w4 ⟨rfl, hs, hr, hg⟩; obtain ⟨cc, cf⟩ := grown_cell (q := w.heap.size + 1) hg (by simp [World.setCell] <;> omega) (by omega); obtain ⟨dc, df⟩ := grown_cell (q := w.heap.size) hg (by simp [World.setCell] <;> omega) (by omega); have hG : w.grownBy w4 (some b) := grownBy_trans (grown_setNew hG (w.heap.size + 1) _ _ (by omega)) hg; have hz := hG.size; have hz2 : w.heap.size + 1 < w4.heap.size := (by have := hg.size; simp [World.setCell] at this; omega))
    | (go_at_call 91; clear y5; refine Calls.mono (HN _ _ (hs.kept ((Below.refl _ _).setCell (show _ ≤ w.heap.size + 1 by omega) _)) (hr.below ((Below.refl _ _).setCell (show _ ≤ w.heap.size + 1 by omega) _))).out ?_; rintro e w5 ⟨rfl, hs, hr, hg⟩; obtain ⟨cc, cf⟩ := grown_cell (q := w.heap.size + 1) hg (by simp [World.setCell] <;> omega) (by omega); obtain ⟨dc, df⟩ := grown_cell (q := w.heap.size) hg (by simp [World.setCell] <;> omega) (by omega); have hG : w.grownBy w5 (some b) := grownBy_trans (grown_setNew hG (w.heap.size + 1) _ _ (by omega)) hg; have hz := hG.size; have hz2 : w.heap.size + 1 < w5.heap.size := (by have := hg.size; simp [World.setCell] at this; omega))
    | (go_at_call 91; clear y6; refine Calls.mono (HN _ _ (hs.kept ((Below.refl _ _).setCell (show _ ≤ w.heap.size + 1 by omega) _)) (hr.below ((Below.refl _ _).setCell (show _ ≤ w.heap.size + 1 by omega) _))).out ?_; rintro e w6 ⟨rfl, hs, hr, hg⟩; obtain ⟨cc, cf⟩ := grown_cell (q := w.heap.size + 1) hg (by simp [World.setCell] <;> omega) (by omega); obtain ⟨dc, df⟩ := grown_cell (q := w.heap.size) hg (by simp [World.setCell] <;> omega) (by omega); have hG : w.grownBy w6 (some b) := grownBy_trans (grown_setNew hG (w.heap.size + 1) _ _ (by omega)) hg; have hz := hG.size; have hz2 : w.heap.size + 1 < w6.heap.size := (by have := hg.size; simp [World.setCell] at this; omega))
    | (go_at_call 91; clear y7; refine Calls.mono (HN _ _ (hs.kept ((Below.refl _ _).setCell (show _ ≤ w.heap.size + 1 by omega) _)) (hr.below ((Below.refl _ _).setCell (show _ ≤ w.heap.size + 1 by omega) _))).out ?_; rintro e w7 ⟨rfl, hs, hr, hg⟩; obtain ⟨cc, cf⟩ := grown_cell (q := w.heap.size + 1) hg (by simp [World.setCell] <;> omega) (by omega); obtain ⟨dc, df⟩ := grown_cell (q := w.heap.size) hg (by simp [World.setCell] <;> omega) (by omega); have hG : w.grownBy w7 (some b) := grownBy_trans (grown_setNew hG (w.heap.size + 1) _ _ (by omega)) hg; have hz := hG.size; have hz2 : w.heap.size + 1 < w7.heap.size := (by have := hg.size; simp [World.setCell] at this; omega))
    | (go_at_call 91; clear y8; refine Calls.mono (HN _ _ (hs.kept ((Below.refl _ _).setCell (show _ ≤ w.heap.size + 1 by omega) _)) (hr.below ((Below.refl _ _).setCell (show _ ≤ w.heap.size + 1 by omega) _))).out ?_; rintro e w8 ⟨rfl, hs, hr, hg⟩; obtain ⟨cc, cf⟩ := grown_cell (q := w.heap.size + 1) hg (by simp [World.setCell] <;> omega) (by omega); obtain ⟨dc, df⟩ := grown_cell (q := w.heap.size) hg (by simp [World.setCell] <;> omega) (by omega); have hG : w.grownBy w8 (some b) := grownBy_trans (grown_setNew hG (w.heap.size + 1) _ _ (by omega)) hg; have hz := hG.size; have hz2 : w.heap.size + 1 < w8.heap.size := (by have := hg.size; simp [World.setCell] at this; omega))
    | (go_at_call 93; refine Calls.mono (HE _ _ (hs.kept ((Below.refl _ _).setCell (show _ ≤ w.heap.size + 1 by omega) _)) (hr.below ((Below.refl _ _).setCell (show _ ≤ w.heap.size + 1 by omega) _))).out ?_; rintro e w9 ⟨ev, rfl, hoe, hs, hr, hg⟩; obtain ⟨cc, cf⟩ := grown_cell (q := w.heap.size + 1) hg (by simp [World.setCell] <;> omega) (by omega); obtain ⟨dc, df⟩ := grown_cell (q := w.heap.size) hg (by simp [World.setCell] <;> omega) (by omega); have hG : w.grownBy w9 (some b) := grownBy_trans (grown_setNew hG (w.heap.size + 1) _ _ (by omega)) hg; have hz := hG.size; have hz3 : w.heap.size + 1 < w8.heap.size := hz2; have hz2 : w.heap.size + 1 < w9.heap.size := (by have := hg.size; simp [World.setCell] at this; omega); have HOE := hoe.le (show w.heap.size + 2 ≤ _ by simp [World.setCell]; omega); obtain ⟨ea, ec, eve⟩ := hoe.shape; have hL32 := rdEnts_len (rdNum (rdNum (rdNum (rdNum (rdNum (rdNum (rdNum (rdNum st).2).2).2).2).2).2).2).2; generalize (rdEnts (rdNum (rdNum (rdNum (rdNum (rdNum (rdNum (rdNum (rdNum st).2).2).2).2).2).2).2).2).1.length = LL at eve hL32; subst eve; have HO2 : Hid (OwnE w9 (w.heap.size + 2) (.slice ea LL ec) (rdMsg st).es) := HOE; clear HOE hoe))
  refine bodyPost_ret (v := msgV kd (rdMsg st) (.slice ea LL ec)) (by simp [results, Tryz.results81, go_sem, msgV, rdMsg, *]) rfl ⟨_, rfl, ?_, ?_, ?_, ?_⟩
  · exact OwnE.le (((((((((((HO2.out.set (w.heap.size + 1) _ _ (by omega)).set w.heap.size _ _ (by omega)).set w.heap.size _ _ (by omega)).set w.heap.size _ _ (by omega)).set w.heap.size _ _ (by omega)).set w.heap.size _ _ (by omega)).set w.heap.size _ _ (by omega)).set w.heap.size _ _ (by omega)).set w.heap.size _ _ (by omega)).set w.heap.size _ _ (by omega)).set w.heap.size _ _ (by omega)) (by omega)
  · exact hs.kept ((((((((((((Below.refl _ _).setCell (show _ ≤ w.heap.size + 1 by omega) _).setCell (show _ ≤ w.heap.size by omega) _).setCell (show _ ≤ w.heap.size by omega) _).setCell (show _ ≤ w.heap.size by omega) _).setCell (show _ ≤ w.heap.size by omega) _).setCell (show _ ≤ w.heap.size by omega) _).setCell (show _ ≤ w.heap.size by omega) _).setCell (show _ ≤ w.heap.size by omega) _).setCell (show _ ≤ w.heap.size by omega) _).setCell (show _ ≤ w.heap.size by omega) _).setCell (show _ ≤ w.heap.size by omega) _)
  · exact hr.below ((((((((((((Below.refl _ _).setCell (show _ ≤ w.heap.size + 1 by omega) _).setCell (show _ ≤ w.heap.size by omega) _).setCell (show _ ≤ w.heap.size by omega) _).setCell (show _ ≤ w.heap.size by omega) _).setCell (show _ ≤ w.heap.size by omega) _).setCell (show _ ≤ w.heap.size by omega) _).setCell (show _ ≤ w.heap.size by omega) _).setCell (show _ ≤ w.heap.size by omega) _).setCell (show _ ≤ w.heap.size by omega) _).setCell (show _ ≤ w.heap.size by omega) _).setCell (show _ ≤ w.heap.size by omega) _)
  · exact grown_setNew (grown_setNew (grown_setNew (grown_setNew (grown_setNew (grown_setNew (grown_setNew (grown_setNew (grown_setNew (grown_setNew (grown_setNew hG (w.heap.size + 1) _ _ (by omega)) w.heap.size _ _ (by omega)) w.heap.size _ _ (by omega)) w.heap.size _ _ (by omega)) w.heap.size _ _ (by omega)) w.heap.size _ _ (by omega)) w.heap.size _ _ (by omega)) w.heap.size _ _ (by omega)) w.heap.size _ _ (by omega)) w.heap.size _ _ (by omega)) w.heap.size _ _ (by omega)
end Go.Proofs.YtafmjckpbcijoaaGreatDoor

/-
  Replies, commands, entries and messages: what is laid is read, and what is read was laid.
-/
namespace Go.Proofs.YtafmjckpbcijoaaGreatDoor
open Go.RowKit
set_option linter.unusedVariables false
set_option linter.unusedSimpArgs false

/-- a text's bytes behind its length -/
def txL (s : ByteArray) : List Int := numL s.size ++ strL s
def cmL (cl sq op : Nat) (k v o : ByteArray) : List Int := numL cl ++ (numL sq ++ (numL op ++ (txL k ++ (txL v ++ txL o))))
def rpL (cl sq st cd : Nat) (v : ByteArray) (ld : Nat) : List Int := numL cl ++ (numL sq ++ (numL st ++ (numL cd ++ (txL v ++ numL ld))))

theorem txt_lay (s : ByteArray) (r : List Int) (h : s.size ≤ 64) : rdText (some (txL s ++ r)) = (s, some r) := rdText_lay s r h

theorem rdCmd_lay (cl sq op : Nat) (k v o : ByteArray) (r : List Int) (h1 : cl < 34359738368) (h2 : sq < 34359738368) (h3 : op < 34359738368) (hk : k.size ≤ 64) (hv : v.size ≤ 64) (ho : o.size ≤ 64) :
    rdCmd (some (cmL cl sq op k v o ++ r)) = ⟨cl, sq, op, k, v, o, some r⟩ := by
  unfold rdCmd cmL
  simp only [List.append_assoc, rdNum_numL _ _ h1, rdNum_numL _ _ h2, rdNum_numL _ _ h3, txt_lay _ _ hk, txt_lay _ _ hv, txt_lay _ _ ho]
theorem rdReply_lay (cl sq st cd : Nat) (v : ByteArray) (ld : Nat) (r : List Int) (h1 : cl < 34359738368) (h2 : sq < 34359738368) (h3 : st < 34359738368) (h4 : cd < 34359738368) (h5 : ld < 34359738368) (hv : v.size ≤ 64) :
    rdReply (some (rpL cl sq st cd v ld ++ r)) = ⟨cl, sq, st, cd, v, ld, some r⟩ := by
  unfold rdReply rpL
  simp only [List.append_assoc, rdNum_numL _ _ h1, rdNum_numL _ _ h2, rdNum_numL _ _ h3, rdNum_numL _ _ h4, rdNum_numL _ _ h5, txt_lay _ _ hv]

theorem rdNum_st {s : RSt} {r : List Int} (h : (rdNum s).2 = some r) : ∃ l, s = some l := by
  cases s with
  | none => cases h
  | some l => exact ⟨l, rfl⟩
theorem rdText_st {s : RSt} {r : List Int} (h : (rdText s).2 = some r) : ∃ l, s = some l := by
  cases s with
  | none => cases h
  | some l => exact ⟨l, rfl⟩
theorem b8_right {l a b : List Int} (h8 : ∀ x ∈ l, 0 ≤ x ∧ x ≤ 255) (e : l = a ++ b) : ∀ x ∈ b, 0 ≤ x ∧ x ≤ 255 := fun x hx => h8 x (by rw [e]; exact List.mem_append_right _ hx)

theorem rdCmd_read {l : List Int} (h8 : ∀ x ∈ l, 0 ≤ x ∧ x ≤ 255) {r : List Int} (h : (rdCmd (some l)).left = some r) :
    l = cmL (rdCmd (some l)).cl (rdCmd (some l)).sq (rdCmd (some l)).op (rdCmd (some l)).k (rdCmd (some l)).v (rdCmd (some l)).o ++ r := by
  obtain ⟨l5, e5⟩ := rdText_st h
  obtain ⟨l4, e4⟩ := rdText_st e5
  obtain ⟨l3, e3⟩ := rdText_st e4
  obtain ⟨l2, e2⟩ := rdNum_st e3
  obtain ⟨l1, e1⟩ := rdNum_st e2
  change (rdText (rdText (rdText (rdNum (rdNum (rdNum (some l)).2).2).2).2).2).2 = some r at h
  show l = (numL (rdNum (some l)).1 ++ (numL (rdNum (rdNum (some l)).2).1 ++ (numL (rdNum (rdNum (rdNum (some l)).2).2).1 ++ (txL (rdText (rdNum (rdNum (rdNum (some l)).2).2).2).1 ++ (txL (rdText (rdText (rdNum (rdNum (rdNum (some l)).2).2).2).2).1 ++ (txL (rdText (rdText (rdText (rdNum (rdNum (rdNum (some l)).2).2).2).2).2).1)))))) ++ r
  simp only [List.append_assoc]
  rw [e1] at e2
  rw [e1, e2] at e3
  rw [e1, e2, e3] at e4
  rw [e1, e2, e3, e4] at e5
  rw [e1, e2, e3, e4, e5] at h ⊢
  have h80 := h8
  have r1 : l = numL (rdNum (some l)).1 ++ l1 := rdNum_read h80 e1
  have h81 := b8_right h80 r1
  have r2 : l1 = numL (rdNum (some l1)).1 ++ l2 := rdNum_read h81 e2
  have h82 := b8_right h81 r2
  have r3 : l2 = numL (rdNum (some l2)).1 ++ l3 := rdNum_read h82 e3
  have h83 := b8_right h82 r3
  have r4 : l3 = txL (rdText (some l3)).1 ++ l4 := rdText_read h83 e4
  have h84 := b8_right h83 r4
  have r5 : l4 = txL (rdText (some l4)).1 ++ l5 := rdText_read h84 e5
  have h85 := b8_right h84 r5
  have r6 : l5 = txL (rdText (some l5)).1 ++ r := rdText_read h85 h
  rw [← r6, ← r5, ← r4, ← r3, ← r2, ← r1]
theorem rdReply_read {l : List Int} (h8 : ∀ x ∈ l, 0 ≤ x ∧ x ≤ 255) {r : List Int} (h : (rdReply (some l)).left = some r) :
    l = rpL (rdReply (some l)).cl (rdReply (some l)).sq (rdReply (some l)).st (rdReply (some l)).cd (rdReply (some l)).v (rdReply (some l)).ld ++ r := by
  obtain ⟨l5, e5⟩ := rdNum_st h
  obtain ⟨l4, e4⟩ := rdText_st e5
  obtain ⟨l3, e3⟩ := rdNum_st e4
  obtain ⟨l2, e2⟩ := rdNum_st e3
  obtain ⟨l1, e1⟩ := rdNum_st e2
  change (rdNum (rdText (rdNum (rdNum (rdNum (rdNum (some l)).2).2).2).2).2).2 = some r at h
  show l = (numL (rdNum (some l)).1 ++ (numL (rdNum (rdNum (some l)).2).1 ++ (numL (rdNum (rdNum (rdNum (some l)).2).2).1 ++ (numL (rdNum (rdNum (rdNum (rdNum (some l)).2).2).2).1 ++ (txL (rdText (rdNum (rdNum (rdNum (rdNum (some l)).2).2).2).2).1 ++ (numL (rdNum (rdText (rdNum (rdNum (rdNum (rdNum (some l)).2).2).2).2).2).1)))))) ++ r
  simp only [List.append_assoc]
  rw [e1] at e2
  rw [e1, e2] at e3
  rw [e1, e2, e3] at e4
  rw [e1, e2, e3, e4] at e5
  rw [e1, e2, e3, e4, e5] at h ⊢
  have h80 := h8
  have r1 : l = numL (rdNum (some l)).1 ++ l1 := rdNum_read h80 e1
  have h81 := b8_right h80 r1
  have r2 : l1 = numL (rdNum (some l1)).1 ++ l2 := rdNum_read h81 e2
  have h82 := b8_right h81 r2
  have r3 : l2 = numL (rdNum (some l2)).1 ++ l3 := rdNum_read h82 e3
  have h83 := b8_right h82 r3
  have r4 : l3 = numL (rdNum (some l3)).1 ++ l4 := rdNum_read h83 e4
  have h84 := b8_right h83 r4
  have r5 : l4 = txL (rdText (some l4)).1 ++ l5 := rdText_read h84 e5
  have h85 := b8_right h84 r5
  have r6 : l5 = numL (rdNum (some l5)).1 ++ r := rdNum_read h85 h
  rw [← r6, ← r5, ← r4, ← r3, ← r2, ← r1]
end Go.Proofs.YtafmjckpbcijoaaGreatDoor

/-
  Entries and messages: what is laid is read, and what is read was laid.
-/
namespace Go.Proofs.YtafmjckpbcijoaaGreatDoor
open Go.RowKit
set_option linter.unusedVariables false
set_option linter.unusedSimpArgs false

def enL (e : Ent) : List Int := numL e.t.toNat ++ cmL e.cl.toNat e.sq.toNat e.op.toNat e.k e.v e.o
def esL : List Ent → List Int
  | [] => []
  | e :: l => enL e ++ esL l
theorem esL_app (a b : List Ent) : esL (a ++ b) = esL a ++ esL b := by
  induction a with
  | nil => rfl
  | cons e a ih => rw [List.cons_append, esL, ih, esL, List.append_assoc]

/-- the fields of an entry that can be laid -/
def Ent.lays (e : Ent) : Prop :=
  (0 ≤ e.t ∧ e.t < 34359738368) ∧ (0 ≤ e.cl ∧ e.cl < 34359738368) ∧ (0 ≤ e.sq ∧ e.sq < 34359738368) ∧ (0 ≤ e.op ∧ e.op < 34359738368) ∧ e.k.size ≤ 64 ∧ e.v.size ≤ 64 ∧ e.o.size ≤ 64

theorem rdEnt_lay (e : Ent) (he : e.lays) (r : List Int) : rdEnt (some (enL e ++ r)) = (e, some r) := by
  obtain ⟨h1, h2, h3, h4, hk, hv, ho⟩ := he
  unfold rdEnt enL
  simp only [List.append_assoc, rdNum_numL e.t.toNat _ (by omega), rdCmd_lay e.cl.toNat e.sq.toNat e.op.toNat e.k e.v e.o r (by omega) (by omega) (by omega) hk hv ho]
  obtain ⟨t, cl, sq, op, k, v, o⟩ := e
  simp only at h1 h2 h3 h4
  simp [Int.toNat_of_nonneg h1.1, Int.toNat_of_nonneg h2.1, Int.toNat_of_nonneg h3.1, Int.toNat_of_nonneg h4.1]

theorem entsK_lay (l : List Ent) (hl : ∀ e ∈ l, e.lays) (r : List Int) : ∀ k, k ≤ l.length → entsK (some (esL l ++ r)) k = (l.take k, some (esL (l.drop k) ++ r)) := by
  intro k
  induction k with
  | zero => intro _; simp [entsK]
  | succ k ih =>
    intro hk
    have hd : l.drop k = l[k] :: l.drop (k + 1) := List.drop_eq_getElem_cons (by omega)
    rw [entsK, ih (by omega)]
    simp only
    rw [hd, esL, List.append_assoc, rdEnt_lay _ (hl _ (List.getElem_mem _)) _]
    simp only
    rw [List.take_add_one, List.getElem?_eq_getElem (by omega)]
    rfl
theorem entsK_lay_all (l : List Ent) (hl : ∀ e ∈ l, e.lays) (r : List Int) : entsK (some (esL l ++ r)) l.length = (l, some r) := by
  rw [entsK_lay l hl r l.length (Nat.le_refl _)]
  simp [esL]

theorem rdCmd_st {s : RSt} {r : List Int} (h : (rdCmd s).left = some r) : ∃ l, s = some l := by
  cases s with
  | none => cases h
  | some l => exact ⟨l, rfl⟩
theorem rdEnt_read {l : List Int} (h8 : ∀ x ∈ l, 0 ≤ x ∧ x ≤ 255) {r : List Int} (h : (rdEnt (some l)).2 = some r) : l = enL (rdEnt (some l)).1 ++ r := by
  obtain ⟨l1, e1⟩ := rdCmd_st h
  change (rdCmd (rdNum (some l)).2).left = some r at h
  have r1 := rdNum_read h8 e1
  have h81 := b8_right h8 r1
  unfold enL rdEnt
  simp only
  rw [e1] at h ⊢
  have r2 := rdCmd_read h81 h
  simp only [Int.toNat_natCast, List.append_assoc]
  rw [← r2, ← r1]
theorem rdEnt_st {s : RSt} {r : List Int} (h : (rdEnt s).2 = some r) : ∃ l, s = some l := by
  cases s with
  | none => cases h
  | some l => exact ⟨l, rfl⟩
theorem entsK_read {l : List Int} (h8 : ∀ x ∈ l, 0 ≤ x ∧ x ≤ 255) (k : Nat) : ∀ r, (entsK (some l) k).2 = some r → l = esL (entsK (some l) k).1 ++ r := by
  induction k with
  | zero => intro r h; injection h
  | succ k ih =>
    intro r h
    obtain ⟨l1, e1⟩ := rdEnt_st h
    have r1 := ih l1 e1
    have h81 := b8_right h8 r1
    change (rdEnt (entsK (some l) k).2).2 = some r at h
    rw [entsK]
    simp only
    rw [e1] at h ⊢
    have r2 := rdEnt_read h81 h
    rw [esL_app, esL, esL, List.append_nil, List.append_assoc, ← r2, ← r1]

def mgL (r : MsgR) : List Int := numL r.fr ++ (numL r.tq ++ (numL r.tm ++ (numL r.li ++ (numL r.lt ++ (numL r.cm ++ (numL r.ok ++ (numL r.hi ++ (numL r.es.length ++ esL r.es))))))))

theorem rdMsg_lay (fr tq tm li lt cm ok hi : Nat) (es : List Ent) (r : List Int) (h1 : fr < 34359738368) (h2 : tq < 34359738368) (h3 : tm < 34359738368) (h4 : li < 34359738368) (h5 : lt < 34359738368) (h6 : cm < 34359738368) (h7 : ok < 34359738368) (h8 : hi < 34359738368)
    (hn : es.length ≤ 32) (he : ∀ e ∈ es, e.lays) (q : RSt) : rdMsg (some (mgL ⟨fr, tq, tm, li, lt, cm, ok, hi, es, q⟩ ++ r)) = ⟨fr, tq, tm, li, lt, cm, ok, hi, es, some r⟩ := by
  unfold rdMsg mgL rdEnts
  simp only [List.append_assoc, rdNum_numL _ _ h1, rdNum_numL _ _ h2, rdNum_numL _ _ h3, rdNum_numL _ _ h4, rdNum_numL _ _ h5, rdNum_numL _ _ h6, rdNum_numL _ _ h7, rdNum_numL _ _ h8, rdNum_numL es.length _ (show es.length < 34359738368 by omega)]
  rw [if_neg (by omega), entsK_lay_all es he r]

theorem rdEnts_st {s : RSt} {r : List Int} (h : (rdEnts s).2 = some r) : ∃ l, s = some l := by
  cases s with
  | none => cases h
  | some l => exact ⟨l, rfl⟩
theorem entsK_st {s : RSt} {k : Nat} {r : List Int} (h : (entsK s k).2 = some r) : ∃ l, s = some l := by
  cases s with
  | some l => exact ⟨l, rfl⟩
  | none =>
    exfalso
    induction k generalizing r with
    | zero => cases h
    | succ k ih =>
      obtain ⟨l, e⟩ := rdEnt_st h
      exact ih e
theorem rdEnts_read {l : List Int} (h8 : ∀ x ∈ l, 0 ≤ x ∧ x ≤ 255) {r : List Int} (h : (rdEnts (some l)).2 = some r) : l = numL (rdEnts (some l)).1.length ++ (esL (rdEnts (some l)).1 ++ r) := by
  unfold rdEnts at h ⊢
  by_cases h32 : 32 < (rdNum (some l)).1
  · rw [if_pos h32] at h; cases h
  · rw [if_neg h32] at h ⊢
    obtain ⟨l1, e1⟩ := entsK_st h
    have r1 := rdNum_read h8 e1
    have h81 := b8_right h8 r1
    rw [e1] at h ⊢
    have r2 := entsK_read h81 _ r h
    rw [entsK_len, ← r2, ← r1]
theorem rdMsg_read {l : List Int} (h8 : ∀ x ∈ l, 0 ≤ x ∧ x ≤ 255) {r : List Int} (h : (rdMsg (some l)).left = some r) : l = mgL (rdMsg (some l)) ++ r := by
  obtain ⟨l8, e8⟩ := rdEnts_st h
  obtain ⟨l7, e7⟩ := rdNum_st e8
  obtain ⟨l6, e6⟩ := rdNum_st e7
  obtain ⟨l5, e5⟩ := rdNum_st e6
  obtain ⟨l4, e4⟩ := rdNum_st e5
  obtain ⟨l3, e3⟩ := rdNum_st e4
  obtain ⟨l2, e2⟩ := rdNum_st e3
  obtain ⟨l1, e1⟩ := rdNum_st e2
  change (rdEnts (rdNum (rdNum (rdNum (rdNum (rdNum (rdNum (rdNum (rdNum (some l)).2).2).2).2).2).2).2).2).2 = some r at h
  show l = (numL (rdNum (some l)).1 ++ (numL (rdNum (rdNum (some l)).2).1 ++ (numL (rdNum (rdNum (rdNum (some l)).2).2).1 ++ (numL (rdNum (rdNum (rdNum (rdNum (some l)).2).2).2).1 ++ (numL (rdNum (rdNum (rdNum (rdNum (rdNum (some l)).2).2).2).2).1 ++ (numL (rdNum (rdNum (rdNum (rdNum (rdNum (rdNum (some l)).2).2).2).2).2).1 ++ (numL (rdNum (rdNum (rdNum (rdNum (rdNum (rdNum (rdNum (some l)).2).2).2).2).2).2).1 ++ (numL (rdNum (rdNum (rdNum (rdNum (rdNum (rdNum (rdNum (rdNum (some l)).2).2).2).2).2).2).2).1 ++ (numL (rdEnts (rdNum (rdNum (rdNum (rdNum (rdNum (rdNum (rdNum (rdNum (some l)).2).2).2).2).2).2).2).2).1.length ++ esL (rdEnts (rdNum (rdNum (rdNum (rdNum (rdNum (rdNum (rdNum (rdNum (some l)).2).2).2).2).2).2).2).2).1))))))))) ++ r
  simp only [List.append_assoc]
  rw [e1] at e2
  rw [e1, e2] at e3
  rw [e1, e2, e3] at e4
  rw [e1, e2, e3, e4] at e5
  rw [e1, e2, e3, e4, e5] at e6
  rw [e1, e2, e3, e4, e5, e6] at e7
  rw [e1, e2, e3, e4, e5, e6, e7] at e8
  rw [e1, e2, e3, e4, e5, e6, e7, e8] at h ⊢
  have h80 := h8
  have r1 : l = numL (rdNum (some l)).1 ++ l1 := rdNum_read h80 e1
  have h81 := b8_right h80 r1
  have r2 : l1 = numL (rdNum (some l1)).1 ++ l2 := rdNum_read h81 e2
  have h82 := b8_right h81 r2
  have r3 : l2 = numL (rdNum (some l2)).1 ++ l3 := rdNum_read h82 e3
  have h83 := b8_right h82 r3
  have r4 : l3 = numL (rdNum (some l3)).1 ++ l4 := rdNum_read h83 e4
  have h84 := b8_right h83 r4
  have r5 : l4 = numL (rdNum (some l4)).1 ++ l5 := rdNum_read h84 e5
  have h85 := b8_right h84 r5
  have r6 : l5 = numL (rdNum (some l5)).1 ++ l6 := rdNum_read h85 e6
  have h86 := b8_right h85 r6
  have r7 : l6 = numL (rdNum (some l6)).1 ++ l7 := rdNum_read h86 e7
  have h87 := b8_right h86 r7
  have r8 : l7 = numL (rdNum (some l7)).1 ++ l8 := rdNum_read h87 e8
  have h88 := b8_right h87 r8
  have r9 := rdEnts_read h88 h
  rw [← r9, ← r8, ← r7, ← r6, ← r5, ← r4, ← r3, ← r2, ← r1]
end Go.Proofs.YtafmjckpbcijoaaGreatDoor

/-
  The check sum finds one changed byte: the register's step loses nothing.
-/
namespace Go.Proofs.YtafmjckpbcijoaaGreatDoor
open Go.RowKit
set_option linter.unusedVariables false

theorem xor_can {a b c : Nat} (h : a ^^^ c = b ^^^ c) : a = b := by
  have h2 : (a ^^^ c) ^^^ c = (b ^^^ c) ^^^ c := by rw [h]
  rwa [Nat.xor_assoc, Nat.xor_self, Nat.xor_zero, Nat.xor_assoc, Nat.xor_self, Nat.xor_zero] at h2
theorem stepN_top {a : Nat} (h : a < 4294967296) : (stepN a).testBit 31 = decide (a % 2 = 1) := by
  have e : (a / 2).testBit 31 = false := Nat.testBit_lt_two_pow (by omega)
  unfold stepN
  split
  · rename_i h1
    rw [Nat.testBit_xor, e, decide_eq_true h1]
    decide
  · rename_i h1
    rw [e, decide_eq_false h1]
theorem stepN_inj {a b : Nat} (ha : a < 4294967296) (hb : b < 4294967296) (h : stepN a = stepN b) : a = b := by
  have t : decide (a % 2 = 1) = decide (b % 2 = 1) := by rw [← stepN_top ha, ← stepN_top hb, h]
  unfold stepN at h
  by_cases h1 : a % 2 = 1
  · have h2 : b % 2 = 1 := by simpa [h1] using t
    rw [if_pos h1, if_pos h2] at h
    have := xor_can h
    omega
  · have h2 : ¬ b % 2 = 1 := by simpa [h1] using t
    rw [if_neg h1, if_neg h2] at h
    omega
theorem stepsN_inj (n : Nat) {a b : Nat} (ha : a < 4294967296) (hb : b < 4294967296) (h : stepsN n a = stepsN n b) : a = b := by
  induction n with
  | zero => exact h
  | succ n ih => exact ih (stepN_inj (stepsN_lt n a ha) (stepsN_lt n b hb) h)
/-- as long as the bytes are the same, the register is -/
theorem crcSt_same (l m : List Int) (k : Nat) (h : ∀ i < k, l[i]? = m[i]?) : crcSt l k = crcSt m k := by
  induction k with
  | zero => rfl
  | succ k ih => rw [crcSt, crcSt, ih (fun i hi => h i (by omega)), h k (by omega)]
/-- one byte is another, those behind it are the same: the register is another ever after -/
theorem crcSt_diff (l m : List Int) (h8 : ∀ x ∈ l, 0 ≤ x ∧ x ≤ 255) (m8 : ∀ x ∈ m, 0 ≤ x ∧ x ≤ 255) (p : Nat) (hl : p < l.length) (hm : p < m.length)
    (hne : l[p] ≠ m[p]) (h : ∀ i, i ≠ p → l[i]? = m[i]?) (k : Nat) (hk : p < k) : crcSt l k ≠ crcSt m k := by
  induction k with
  | zero => omega
  | succ k ih =>
    have b1 := byte_at h8 k
    have b2 := byte_at m8 k
    intro e
    rw [crcSt, crcSt] at e
    have e' := stepsN_inj 8 (xor_lt _ _ (crcSt_lt l h8 k) (by omega)) (xor_lt _ _ (crcSt_lt m m8 k) (by omega)) e
    by_cases hp : p = k
    · subst hp
      rw [crcSt_same l m p (fun i hi => h i (by omega)), Nat.xor_comm, Nat.xor_comm (crcSt m p)] at e'
      have e2 := xor_can e'
      rw [List.getElem?_eq_getElem hl] at e2 b1
      rw [List.getElem?_eq_getElem hm] at e2 b2
      simp only [Option.getD_some] at e2 b1 b2
      exact hne (by omega)
    · rw [h k (by omega)] at e'
      exact ih (by omega) (xor_can e')

end Go.Proofs.YtafmjckpbcijoaaGreatDoor

/-
  One changed byte of a good frame: codes 2 and 3 (pure; FnSpoilt).
-/
namespace Go.Proofs.YtafmjckpbcijoaaGreatDoor
open Go.RowKit
set_option linter.unusedVariables false

theorem wordN_same {l m : List Int} {i : Nat} (h : ∀ k, i ≤ k → k < i + 4 → l[k]? = m[k]?) : wordN l i = wordN m i := by
  unfold wordN
  rw [h i (by omega) (by omega), h (i + 1) (by omega) (by omega), h (i + 2) (by omega) (by omega), h (i + 3) (by omega) (by omega)]
theorem getD_ne {l m : List Int} {p : Nat} (hl : p < l.length) (hm : p < m.length) (hne : l[p] ≠ m[p]) : l[p]?.getD 0 ≠ m[p]?.getD 0 := by
  rw [List.getElem?_eq_getElem hl, List.getElem?_eq_getElem hm]
  exact hne
theorem wordN_diff {l m : List Int} (h8 : ∀ x ∈ l, 0 ≤ x ∧ x ≤ 255) (m8 : ∀ x ∈ m, 0 ≤ x ∧ x ≤ 255) {i p : Nat} (hi : i ≤ p) (hp : p < i + 4)
    (hne : l[p]?.getD 0 ≠ m[p]?.getD 0) : wordN l i ≠ wordN m i := by
  have a0 := byte_at h8 i
  have a1 := byte_at h8 (i + 1)
  have a2 := byte_at h8 (i + 2)
  have a3 := byte_at h8 (i + 3)
  have b0 := byte_at m8 i
  have b1 := byte_at m8 (i + 1)
  have b2 := byte_at m8 (i + 2)
  have b3 := byte_at m8 (i + 3)
  unfold wordN
  intro e
  have hc : p = i ∨ p = i + 1 ∨ p = i + 2 ∨ p = i + 3 := by omega
  rcases hc with rfl | rfl | rfl | rfl <;> omega
/-- one byte of a good frame is another: the length is wrong if it is one of the first four, else the check sum is -/
theorem sumC_diff {l m : List Int} (h8 : ∀ x ∈ l, 0 ≤ x ∧ x ≤ 255) (m8 : ∀ x ∈ m, 0 ≤ x ∧ x ≤ 255) (hlen : m.length = l.length) {p : Nat} (hl : p < l.length) (hm : p < m.length)
    (hne : l[p] ≠ m[p]) (h : ∀ i, i ≠ p → l[i]? = m[i]?) (h0 : sumC l = 0) : sumC m = if p < 4 then 2 else 3 := by
  have hg := getD_ne hl hm hne
  unfold sumC at h0 ⊢
  by_cases c1 : 9 ≤ l.length ∧ l.length ≤ 16384
  case neg => rw [if_pos c1] at h0; cases h0
  rw [if_neg (fun h => h c1)] at h0
  by_cases c2 : wordN l 0 = (l.length : Int) - 8
  case neg => rw [if_pos c2] at h0; cases h0
  rw [if_neg (fun h => h c2)] at h0
  by_cases c3 : wordN l 4 = (crcOf (l.drop 8) : Nat)
  case neg => rw [if_pos c3] at h0; cases h0
  rw [hlen, if_neg (fun h => h c1)]
  by_cases p4 : p < 4
  · rw [if_pos p4, if_pos (fun e => wordN_diff h8 m8 (Nat.zero_le p) (by omega) hg (by rw [c2, e]))]
  · rw [if_neg p4, if_neg (fun hh => hh (by rw [← c2]; exact (wordN_same (fun k _ hk => h k (by omega))).symm))]
    rw [if_pos]
    by_cases p8 : p < 8
    · have hd : l.drop 8 = m.drop 8 := by
        apply List.ext_getElem?
        intro i
        rw [List.getElem?_drop, List.getElem?_drop]
        exact h _ (by omega)
      intro e
      exact wordN_diff (i := 4) h8 m8 (by omega) (by omega) hg (by rw [c3, e, hd])
    · intro e
      have hw : wordN l 4 = wordN m 4 := wordN_same (fun k _ hk => h k (by omega))
      rw [← hw, c3] at e
      have e1 : crcOf (l.drop 8) = crcOf (m.drop 8) := by exact_mod_cast e
      unfold crcOf at e1
      have e2 := xor_can e1
      have hL : (m.drop 8).length = (l.drop 8).length := by simp [hlen]
      rw [hL] at e2
      refine crcSt_diff (l.drop 8) (m.drop 8) (fun x hx => h8 x (List.mem_of_mem_drop hx)) (fun x hx => m8 x (List.mem_of_mem_drop hx)) (p - 8) (by simp; omega) (by simp; omega) ?_ ?_ _ (by simp; omega) e2
      · simp only [List.getElem_drop]
        have : 8 + (p - 8) = p := by omega
        simpa only [this] using hne
      · intro i hi
        rw [List.getElem?_drop, List.getElem?_drop]
        exact h _ (by omega)

end Go.Proofs.YtafmjckpbcijoaaGreatDoor

/-
  Codes and faults of a frame.
-/
namespace Go.Proofs.YtafmjckpbcijoaaGreatDoor
open Go.RowKit
set_option linter.unusedVariables false
set_option linter.unusedSimpArgs false

theorem Bs.lt {w : World} {a : Option Addr} {n c : Nat} {l : List Int} (h : Bs w (.slice a n c) l) (hp : 0 < l.length) : ∃ x, a = some x ∧ x.block < w.heap.size := by
  obtain ⟨_, _, a', c', e, hcell⟩ := h
  injection e with e1 e2 e3
  subst e1
  obtain ⟨b, off, rfl, hj⟩ := hcell 0 hp
  exact ⟨_, rfl, cell_lt (hj 0 hp)⟩

/-- the code of a frame for the kinds lo .. hi, but for its rest -/
def openC (l : List Int) (lo hi : Int) : Nat := if sumC l ≠ 0 then sumC l else if inB (l[8]?.getD 0) lo hi = false then 4 else 0
theorem openC_le (l : List Int) (lo hi : Int) : openC l lo hi ≤ 4 := by
  unfold openC sumC
  repeat' split
  all_goals omega

/-- code and fault of a frame: what is left of its body, and the fault of its value -/
def decC (l : List Int) (lo hi : Int) (left : RSt) (f : Int) : Nat × Int :=
  if openC l lo hi ≠ 0 then (openC l lo hi, 0) else if left ≠ some [] then (5, 0) else if f ≠ 0 then (6, f) else (0, 0)
theorem decC_le (l : List Int) (lo hi : Int) (left : RSt) (f : Int) : (decC l lo hi left f).1 ≤ 6 := by
  have := openC_le l lo hi
  unfold decC
  repeat' split
  all_goals simp <;> omega
theorem decC_zero {l : List Int} {lo hi : Int} {left : RSt} {f : Int} (h : (decC l lo hi left f).1 = 0) : openC l lo hi = 0 ∧ left = some [] ∧ f = 0 := by
  unfold decC at h
  split at h
  · next h' => exact absurd h h'
  · next h' =>
    split at h
    · cases h
    · next h'' =>
      split at h
      · cases h
      · next h3 => exact ⟨Decidable.not_not.1 h', Decidable.not_not.1 h'', Decidable.not_not.1 h3⟩

theorem grown_of_below {w w' : World} (h : Below w.heap.size w w') (row : Option Nat) : w.grownBy w' row := ⟨h.os, h.tape, h.output, h.size, fun k hk _ => h.block k hk⟩

end Go.Proofs.YtafmjckpbcijoaaGreatDoor

/-
  A good frame, spoilt: all three decoders' codes (pure).
-/
namespace Go.Proofs.YtafmjckpbcijoaaGreatDoor
open Go.RowKit
set_option linter.unusedVariables false
set_option linter.unusedSimpArgs false

theorem xorB_ne (c m : Int) (h0 : 0 ≤ c) (h1 : c ≤ 255) (h2 : 1 ≤ m) (h3 : m ≤ 255) : xorB c m ≠ c := by
  obtain ⟨a, rfl⟩ := Int.eq_ofNat_of_zero_le h0
  obtain ⟨b, rfl⟩ := Int.eq_ofNat_of_zero_le (show 0 ≤ m by omega)
  have e : xorB a b = ((a ^^^ b : Nat) : Int) := u8_xor_nat a b (by omega) (by omega)
  rw [e]
  intro h
  have h' : a ^^^ b = a := by exact_mod_cast h
  have h'' : b ^^^ a = 0 ^^^ a := by rw [Nat.xor_comm, h', Nat.zero_xor]
  have := xor_can h''
  omega
theorem spoil_pure {l : List Int} (h8 : ∀ x ∈ l, 0 ≤ x ∧ x ≤ 255) (h0 : sumC l = 0) (i : Nat) (hi : i < l.length) (x : Int) :
    (spoilL l i x).length = l.length ∧ (∀ y ∈ spoilL l i x, 0 ≤ y ∧ y ≤ 255) ∧ spoilL l i x ≠ l ∧ sumC (spoilL l i x) = if i < 4 then 2 else 3 := by
  have hL := sumC_len h0
  have hin : inB l.length 1 16384 = true := (inB_iff _ _ _).2 ⟨by omega, by omega⟩
  have hm : modI (i : Int) l.length = i := Int.emod_eq_of_lt (by omega) (by omega)
  have n0 := modI_ge x 255 (by omega)
  have n1 := modI_lt x 255 (by omega)
  have hc := byte_at h8 i
  have e : spoilL l i x = l.set i (xorB (l[i]?.getD 0) (1 + modI x 255)) := by
    unfold spoilL
    rw [if_pos hin, hm, Int.toNat_natCast]
  have hb := xorB_byte (l[i]?.getD 0) (1 + modI x 255) hc.1 hc.2 (by omega) (by omega)
  have hn := xorB_ne (l[i]?.getD 0) (1 + modI x 255) hc.1 hc.2 (by omega) (by omega)
  generalize xorB (l[i]?.getD 0) (1 + modI x 255) = y at *
  rw [e]
  have hne : l[i] ≠ y := fun h => hn (by rw [List.getElem?_eq_getElem hi, Option.getD_some, h])
  have hb8 : ∀ z ∈ l.set i y, 0 ≤ z ∧ z ≤ 255 := fun z hz => by
    rcases List.mem_or_eq_of_mem_set hz with h | h
    · exact h8 z h
    · rw [h]; exact hb
  refine ⟨List.length_set, hb8, fun h => ?_, ?_⟩
  · have hg : (l.set i y)[i]? = l[i]? := by rw [h]
    rw [List.getElem?_set_self hi, List.getElem?_eq_getElem hi] at hg
    injection hg with hg
    exact hne hg.symm
  · refine sumC_diff h8 hb8 List.length_set (p := i) hi (by simpa using hi) (by simpa using hne) (fun j hj => ?_) h0
    rw [List.getElem?_set_ne (fun h => hj h.symm)]
theorem decC_sum {l : List Int} (h : sumC l ≠ 0) (lo hi : Int) (left : RSt) (f : Int) : decC l lo hi left f = (sumC l, 0) := by
  have hop : openC l lo hi = sumC l := by simp [openC, h]
  rw [decC, hop, if_pos h]
end Go.Proofs.YtafmjckpbcijoaaGreatDoor

/-
  impl.decodeBody at a body of one kind.
-/
namespace Go.Proofs.YtafmjckpbcijoaaGreatDoor
open Go.RowKit
set_option linter.unusedVariables false
set_option linter.unusedSimpArgs false

theorem methF_msg (X : Value) (w : World) : (method 300 63 X "loop.example/s01586/impl.fault").run Tryz.prog w = .ok (114, X) w := by kernel_rfl

set_option maxHeartbeats 4000000 in
set_option maxRecDepth 100000 in
theorem decodeBody_msg (a : Option Addr) (len c : Nat) (l : List Int) (lo hi : Int) (w : World) (A : Nat → Addr) (B : Nat) (hs : Sents w A B) (hv : Bs w (.slice a len c) l) (hc : len ≤ c)
    (left : RSt) (f : Int) (P : Nat → World → Value → Prop)
    (hP : ∀ b w w' X, P b w X → w.grownBy w' (some b) → P b w' X)
    (hRead : ∀ b w D, Sents w A B → Rd w b A B D (some (l.drop 9)) → inB (l[8]?.getD 0) lo hi = true → Calls Tryz.prog 63 #[.int .i64 (l[8]?.getD 0), .pointer (some ⟨b, 0, none⟩)] w fun e w' => ∃ X, e = .returned (.iface 63 X) ∧ P b w' X ∧ Rd w' b A B D left ∧ w.grownBy w' (some b))
    (hFault : ∀ b w X, P b w X → Calls Tryz.prog 114 #[X] w fun e w' => e = .returned (.int .i64 f) ∧ Below w.heap.size w w') :
    Calls Tryz.prog 39 #[.slice a len c, .int .i64 lo, .int .i64 hi] w fun e w' =>
      ((decC l lo hi left f).1 = 0 → ∃ b X, w.heap.size ≤ b ∧ P b w' X ∧ e = .returned (.tuple #[.iface 63 X, .nilIface])) ∧
      ((decC l lo hi left f).1 ≠ 0 → e = .returned (.tuple #[.nilIface, refV (A (decC l lo hi left f).1) (decC l lo hi left f).2])) ∧ Below w.heap.size w w' := by
  have HO : Hid _ := openFrame_any a len c l w A B hs hv hc w.heap.size hv.lt
  have hd := fun h => (hv.drop hc hv.lt 8 h)
  have HR : ∀ b w D, Sents w A B → Rd w b A B D (some (l.drop 9)) → inB (l[8]?.getD 0) lo hi = true → Hid (Calls Tryz.prog 63 #[.int .i64 (l[8]?.getD 0), .pointer (some ⟨b, 0, none⟩)] w fun e w' => ∃ X, e = .returned (.iface 63 X) ∧ P b w' X ∧ Rd w' b A B D left ∧ w.grownBy w' (some b)) := hRead
  have HF : ∀ b w X, P b w X → Hid (Calls Tryz.prog 114 #[X] w fun e w' => e = .returned (.int .i64 f) ∧ Below w.heap.size w w') := hFault
  clear hRead hFault
  have el : len = l.length := by obtain ⟨_, _, _, _, e, _⟩ := hv; injection e
  subst el
  by_cases h1 : sumC l = 0
  · have hlen := sumC_len h1
    rw [if_pos h1] at HO
    obtain ⟨d1, a2, n2, c2, e2, hc2, _⟩ := hd (by omega)
    rw [e2] at d1 HO
    have HV : Hid (Bs w (.slice a2 n2 c2) (l.drop 8)) := d1
    have en : n2 = l.length - 8 := by
      obtain ⟨_, _, _, _, e, _⟩ := d1
      injection e with _ e _
      rw [e, List.length_drop]
    obtain ⟨hm, h8, a', c', e, hcell⟩ := d1
    injection e with e1' e2' e3'
    subst e1' e3'
    obtain ⟨b2, o2, rfl, hj⟩ := hcell 0 (by rw [List.length_drop]; omega)
    have k0 := hj 0 (by rw [List.length_drop]; omega)
    have hk8 : (l.drop 8)[0]?.getD 0 = l[8]?.getD 0 := by simp
    rw [hk8, Nat.add_zero] at k0
    have hkb := byte_at h8 0
    rw [hk8] at hkb
    clear hj hcell hd e2
    have hop : openC l lo hi = if inB (l[8]?.getD 0) lo hi = false then 4 else 0 := by simp [openC, h1]
    have HD : Hid (decC l lo hi left f = if openC l lo hi ≠ 0 then (openC l lo hi, 0) else if left ≠ some [] then (5, 0) else if f ≠ 0 then (6, f) else (0, 0)) := rfl
    generalize decC l lo hi left f = R at HD
    generalize l[8]?.getD 0 = K at *
    by_cases h4 : inB K lo hi = true
    · have hn1 : 1 ≤ n2 := by rw [en]; omega
      have hd9 := HV.out.drop hc2 HV.out.lt 1 (by rw [List.length_drop]; omega)
      rw [List.drop_drop] at hd9
      obtain ⟨a3, n3, c3, e3, hc3, hD3⟩ := hd9.2
      have t1 : ∀ wx, (Instr.slice 22 (.slice (some ⟨b2, o2, none⟩) n2 c2) (some (.int .i64 1)) none none).run Tryz.prog wx = .ok (sliced (some ⟨b2, o2, none⟩) 1 n2 c2 1) wx := slice_l _ n2 c2 1 hn1
      rw [e3] at t1 hd9
      have HB9 : Hid (Bs w (.slice a3 n3 c3) (l.drop 9)) := hd9.1
      clear e3 hd9
      have HRd : ∀ w1, Below w.heap.size w w1 → Sents (w1.alloc (.cells #[.slice a3 n3 c3, .nilIface] 105)) A B ∧ Rd (w1.alloc (.cells #[.slice a3 n3 c3, .nilIface] 105)) w1.heap.size A B (w1.heap.size + 1) (some (l.drop 9)) := fun w1 hb => by
        have hs1 := hs.below hb
        refine ⟨hs1.below ((Below.refl _ _).alloc (Nat.le_refl _) _), hs1.le, by omega, by simp, by simp, ⟨.slice a3 n3 c3, by simp, (HB9.out.below hb).below ((Below.refl _ _).alloc (Nat.le_refl _) _), ⟨_, _, _, rfl, hc3, fun hp => ?_⟩⟩, by simp⟩
        obtain ⟨x, rfl, hx⟩ := hD3 hp
        exact ⟨x, rfl, by have := hb.size; omega⟩
      clear en e2'
      have hop0 : openC l lo hi = 0 := by rw [hop, h4]; rfl
      rw [hop0] at HD
      have HE : ∀ b w D, Sents w A B → Rd w b A B D left → Hid (Calls Tryz.prog 64 #[.pointer (some ⟨b, 0, none⟩)] w fun e w' => e = .returned (endV A left) ∧ w.grownBy w' (some b)) := fun b w D hs h => end_any b w A B D left hs h
      by_cases hl : left = some []
      · have hev : endV A left = .nilIface := by rw [endV, if_pos hl]
        rw [hev] at HE
        by_cases hf : f = 0
        · have hR : R = (0, 0) := by rw [HD.out]; simp [hl, hf]
          subst hR
          subst hf
          have hM := methF_msg
          go_enter Tryz.func39, Tryz.ntmps39
          go_wp2_with (first
            | (go_at_call 62; refine Calls.mono HO.out ?_; rintro e w1 ⟨rfl, hb⟩; have k1 := (hb.cell (p := ⟨b2, o2, none⟩) (cell_lt k0)).trans k0)
            | (go_at_call 52; refine (within_any _ _ _ _).mono ?_; rw [h4]; rintro e w2 ⟨rfl, rfl⟩)
            | (go_at_call 63; refine Calls.mono (HR _ _ _ (HRd _ hb).1 (HRd _ hb).2 h4).out ?_; rintro e w3 ⟨X, rfl, hX, hrd, hg⟩; have hB3 : Below w.heap.size w w3 := (hb.trans ((Below.refl _ _).alloc hb.size _)).trans (grown_below hg hb.size (by have := hb.size; simp; omega)); have hs3 := hs.below hB3)
            | (go_at_call 64; refine Calls.mono (HE _ _ _ hs3 hrd).out ?_; rintro e w4 ⟨rfl, hg4⟩; have hB4 := hB3.trans (grown_below hg4 hb.size hB3.size); have hX4 := hP _ _ _ _ hX hg4)
            | (go_at_call 114; refine Calls.mono (HF _ _ _ hX4).out ?_; rintro e w5 ⟨rfl, hb5⟩; have hB5 := hB4.trans (hb5.mono hB4.size); have hX5 := hP _ _ _ _ hX4 (grown_of_below hb5 _); have g6 := (hs.below hB5).g6))
          go_ret2
          exact ⟨fun _ => ⟨_, X, hb.size, hX5, rfl⟩, fun h => absurd rfl h, hB5⟩
        · have hR : R = (6, f) := by rw [HD.out]; simp [hl, hf]
          subst hR
          have nf : (f != 0) = true := by simpa using hf
          have hM := methF_msg
          go_enter Tryz.func39, Tryz.ntmps39
          go_wp2_with (first
            | (go_at_call 62; refine Calls.mono HO.out ?_; rintro e w1 ⟨rfl, hb⟩; have k1 := (hb.cell (p := ⟨b2, o2, none⟩) (cell_lt k0)).trans k0)
            | (go_at_call 52; refine (within_any _ _ _ _).mono ?_; rw [h4]; rintro e w2 ⟨rfl, rfl⟩)
            | (go_at_call 63; refine Calls.mono (HR _ _ _ (HRd _ hb).1 (HRd _ hb).2 h4).out ?_; rintro e w3 ⟨X, rfl, hX, hrd, hg⟩; have hB3 : Below w.heap.size w w3 := (hb.trans ((Below.refl _ _).alloc hb.size _)).trans (grown_below hg hb.size (by have := hb.size; simp; omega)); have hs3 := hs.below hB3)
            | (go_at_call 64; refine Calls.mono (HE _ _ _ hs3 hrd).out ?_; rintro e w4 ⟨rfl, hg4⟩; have hB4 := hB3.trans (grown_below hg4 hb.size hB3.size); have hX4 := hP _ _ _ _ hX hg4)
            | (go_at_call 114; refine Calls.mono (HF _ _ _ hX4).out ?_; rintro e w5 ⟨rfl, hb5⟩; have hB5 := hB4.trans (hb5.mono hB4.size); have hX5 := hP _ _ _ _ hX4 (grown_of_below hb5 _); have g6 := (hs.below hB5).g6))
          go_quiet (fail)
          go_wp2
          go_ret2
          exact ⟨fun h => absurd h (by decide), fun _ => rfl, ⟨hB5.os, hB5.tape, hB5.output, hB5.size, hB5.block⟩⟩
      · have hev : endV A left = refV (A 5) 0 := by rw [endV, if_neg hl]
        rw [hev] at HE
        have hR : R = (5, 0) := by rw [HD.out]; simp [hl]
        subst hR
        go_enter Tryz.func39, Tryz.ntmps39
        go_wp2_with (first
          | (go_at_call 62; refine Calls.mono HO.out ?_; rintro e w1 ⟨rfl, hb⟩; have k1 := (hb.cell (p := ⟨b2, o2, none⟩) (cell_lt k0)).trans k0)
          | (go_at_call 52; refine (within_any _ _ _ _).mono ?_; rw [h4]; rintro e w2 ⟨rfl, rfl⟩)
          | (go_at_call 63; refine Calls.mono (HR _ _ _ (HRd _ hb).1 (HRd _ hb).2 h4).out ?_; rintro e w3 ⟨X, rfl, hX, hrd, hg⟩; have hB3 : Below w.heap.size w w3 := (hb.trans ((Below.refl _ _).alloc hb.size _)).trans (grown_below hg hb.size (by have := hb.size; simp; omega)); have hs3 := hs.below hB3)
          | (go_at_call 64; refine Calls.mono (HE _ _ _ hs3 hrd).out ?_; rintro e w4 ⟨rfl, hg4⟩; have hB4 := hB3.trans (grown_below hg4 hb.size hB3.size)))
        go_ret2
        exact ⟨fun h => absurd h (by decide), fun _ => rfl, hB4⟩
    · have h4' : inB K lo hi = false := by simpa using h4
      have hR : R = (4, 0) := by rw [HD.out, hop, h4']; rfl
      subst hR
      have g4 := hs.g4
      go_enter Tryz.func39, Tryz.ntmps39
      go_wp2_with (first
        | (go_at_call 62; refine Calls.mono HO.out ?_; rintro e w1 ⟨rfl, hb⟩; have k1 := (hb.cell (p := ⟨b2, o2, none⟩) (cell_lt k0)).trans k0; have g4' := (hs.below hb).g4)
        | (go_at_call 52; refine (within_any _ _ _ _).mono ?_; rw [h4']; rintro e w2 ⟨rfl, rfl⟩))
      go_quiet (fail)
      go_wp2
      go_ret2
      exact ⟨fun h => absurd h (by decide), fun _ => rfl, ⟨hb.os, hb.tape, hb.output, hb.size, hb.block⟩⟩
  · have hop : openC l lo hi = sumC l := by simp [openC, h1]
    have hR : decC l lo hi left f = (sumC l, 0) := by rw [decC, hop, if_pos h1]
    rw [hR]
    rw [if_neg h1] at HO
    go_enter Tryz.func39, Tryz.ntmps39
    go_wp2_with (go_at_call 62; refine Calls.mono HO.out ?_; rintro e w1 ⟨rfl, hb⟩)
    go_ret2
    exact ⟨fun h => absurd h h1, fun _ => rfl, hb⟩
end Go.Proofs.YtafmjckpbcijoaaGreatDoor
