/-
  spec.DecodeMsg: the entries.
-/
import Derived.Test.YtafmjckpbcijoaaGreatDoorSDecMsg
import Derived.Deep.RegionHeld3
namespace Go.Proofs.YtafmjckpbcijoaaGreatDoor
open Go.RowKit
set_option linter.unusedVariables false
set_option linter.unusedSimpArgs false

theorem entsK_none (s : RSt) (k : Nat) (h : (entsK s k).2 = none) : ∀ j, (entsK s (k + j)).2 = none := by
  intro j
  induction j with
  | zero => exact h
  | succ j ih =>
    show (rdEnt (entsK s (k + j)).2).2 = none
    rw [ih]
    rfl

theorem rdMsg_ents (l : List Int) (h : ¬ 32 < (rdNum (numsK (some (l.drop 9)) 8).2).1) : (rdMsg (some (l.drop 9))).es = (entsK (numsK (some (l.drop 9)) 9).2 (rdNum (numsK (some (l.drop 9)) 8).2).1).1 ∧ (rdMsg (some (l.drop 9))).left = (entsK (numsK (some (l.drop 9)) 9).2 (rdNum (numsK (some (l.drop 9)) 8).2).1).2 := by
  have e : rdEnts (numsK (some (l.drop 9)) 8).2 = entsK (numsK (some (l.drop 9)) 9).2 (rdNum (numsK (some (l.drop 9)) 8).2).1 := by
    unfold rdEnts
    rw [if_neg h]
    rfl
  exact ⟨congrArg Prod.fst e, congrArg Prod.snd e⟩

theorem msg5 (l : List Int) (h0 : openC l 1 6 = 0) (h : (rdMsg (some (l.drop 9))).left ≠ some []) : (∀ ev, msgAns (msgC l) (l[8]?.getD 0) (rdMsg (some (l.drop 9))) ev = .agg #[.int .i64 5, .int .i64 0, .int .i64 0, .int .i64 0, .int .i64 0, .int .i64 0, .int .i64 0, .int .i64 0, .int .i64 0, .int .i64 0, .int .i64 0, ev]) ∧ msgEs (msgC l) (rdMsg (some (l.drop 9))) = [] := by
  have e : msgC l = (5, 0) := by unfold msgC decC; rw [if_neg (fun h => h h0), if_pos h]
  rw [e]
  exact ⟨fun ev => rfl, rfl⟩
theorem msg6 (l : List Int) (h0 : openC l 1 6 = 0) (h : (rdMsg (some (l.drop 9))).left = some []) (hf : (msgF (l[8]?.getD 0) (rdMsg (some (l.drop 9))).fr (rdMsg (some (l.drop 9))).tq (rdMsg (some (l.drop 9))).tm (rdMsg (some (l.drop 9))).li (rdMsg (some (l.drop 9))).lt (rdMsg (some (l.drop 9))).cm (rdMsg (some (l.drop 9))).ok (rdMsg (some (l.drop 9))).hi (rdMsg (some (l.drop 9))).es) ≠ 0) : (∀ ev, msgAns (msgC l) (l[8]?.getD 0) (rdMsg (some (l.drop 9))) ev = .agg #[.int .i64 6, .int .i64 (msgF (l[8]?.getD 0) (rdMsg (some (l.drop 9))).fr (rdMsg (some (l.drop 9))).tq (rdMsg (some (l.drop 9))).tm (rdMsg (some (l.drop 9))).li (rdMsg (some (l.drop 9))).lt (rdMsg (some (l.drop 9))).cm (rdMsg (some (l.drop 9))).ok (rdMsg (some (l.drop 9))).hi (rdMsg (some (l.drop 9))).es), .int .i64 0, .int .i64 0, .int .i64 0, .int .i64 0, .int .i64 0, .int .i64 0, .int .i64 0, .int .i64 0, .int .i64 0, ev]) ∧ msgEs (msgC l) (rdMsg (some (l.drop 9))) = [] := by
  have e : msgC l = (6, (msgF (l[8]?.getD 0) (rdMsg (some (l.drop 9))).fr (rdMsg (some (l.drop 9))).tq (rdMsg (some (l.drop 9))).tm (rdMsg (some (l.drop 9))).li (rdMsg (some (l.drop 9))).lt (rdMsg (some (l.drop 9))).cm (rdMsg (some (l.drop 9))).ok (rdMsg (some (l.drop 9))).hi (rdMsg (some (l.drop 9))).es)) := by unfold msgC decC; rw [if_neg (fun h => h h0), if_neg (fun h' => h' h), if_pos hf]
  rw [e]
  exact ⟨fun ev => rfl, rfl⟩
theorem msg0 (l : List Int) (h0 : openC l 1 6 = 0) (h : (rdMsg (some (l.drop 9))).left = some []) (hf : (msgF (l[8]?.getD 0) (rdMsg (some (l.drop 9))).fr (rdMsg (some (l.drop 9))).tq (rdMsg (some (l.drop 9))).tm (rdMsg (some (l.drop 9))).li (rdMsg (some (l.drop 9))).lt (rdMsg (some (l.drop 9))).cm (rdMsg (some (l.drop 9))).ok (rdMsg (some (l.drop 9))).hi (rdMsg (some (l.drop 9))).es) = 0) : (∀ ev, msgAns (msgC l) (l[8]?.getD 0) (rdMsg (some (l.drop 9))) ev = .agg #[.int .i64 0, .int .i64 0, .int .i64 (l[8]?.getD 0), .int .i64 ((rdMsg (some (l.drop 9))).fr : Nat), .int .i64 ((rdMsg (some (l.drop 9))).tq : Nat), .int .i64 ((rdMsg (some (l.drop 9))).tm : Nat), .int .i64 ((rdMsg (some (l.drop 9))).li : Nat), .int .i64 ((rdMsg (some (l.drop 9))).lt : Nat), .int .i64 ((rdMsg (some (l.drop 9))).cm : Nat), .int .i64 ((rdMsg (some (l.drop 9))).ok : Nat), .int .i64 ((rdMsg (some (l.drop 9))).hi : Nat), ev]) ∧ msgEs (msgC l) (rdMsg (some (l.drop 9))) = (rdMsg (some (l.drop 9))).es := by
  have e : msgC l = (0, 0) := by unfold msgC decC; rw [if_neg (fun h => h h0), if_neg (fun h' => h' h), if_neg (fun h => h hf)]
  rw [e]
  exact ⟨fun ev => rfl, rfl⟩

set_option maxHeartbeats 8000000 in
set_option maxRecDepth 100000 in
theorem specDecMsg_few (db off : Nat) (c : Nat) (l : List Int) (w : World) (hv : Bs w (.slice (some ⟨db, off, none⟩) l.length c) l) (hc : l.length ≤ c) (h0 : openC l 1 6 = 0) (h32 : ¬ 32 < (rdNum (numsK (some (l.drop 9)) 8).2).1) :
    Calls Tryz.prog 42 #[.slice (some ⟨db, off, none⟩) l.length c] w fun e w' => ∃ ev, e = .returned (msgAns (msgC l) (l[8]?.getD 0) (rdMsg (some (l.drop 9))) ev) ∧ OwnE w' w.heap.size ev (msgEs (msgC l) (rdMsg (some (l.drop 9)))) ∧ Below w.heap.size w w' := by
  have HV : Hid (Bs w (.slice (some ⟨db, off, none⟩) l.length c) l) := hv
  have HO : Hid (∀ w', Below w.heap.size w w' → Calls Tryz.prog 68 #[.slice (some ⟨db, off, none⟩) l.length c, .int .i64 1, .int .i64 6] w' fun e w'' => e = .returned (.int .i64 (openC l 1 6 : Nat)) ∧ Below w'.heap.size w' w'') :=
    fun w' hb => l1open_any (some ⟨db, off, none⟩) l.length c l 1 6 w' (hv.below hb) hc _ hv.lt
  obtain ⟨h9, h16⟩ := openC_len h0
  rw [h0] at HO
  have HN : ∀ w' st b, SRd w' b (.slice (some ⟨db, off, none⟩) l.length c) l (b + 1) st → Hid (Calls Tryz.prog 69 #[.pointer (some ⟨b, 0, none⟩)] w' fun e w'' => e = .returned (.int .i64 ((rdNum st).1 : Nat)) ∧ SRd w'' b (.slice (some ⟨db, off, none⟩) l.length c) l (b + 1) (rdNum st).2 ∧ w'.grownBy w'' (some b)) := fun w' st b h => l1rdNum_any b w' _ l _ st (by omega) h
  clear hv
  have HE : ∀ w' st b, SRd w' b (.slice (some ⟨db, off, none⟩) l.length c) l (b + 1) st → Hid (Calls Tryz.prog 70 #[.pointer (some ⟨b, 0, none⟩)] w' fun e w'' => e = .returned (.agg #[.int .i64 (rdEnt st).1.t, .int .i64 (rdEnt st).1.cl, .int .i64 (rdEnt st).1.sq, .int .i64 (rdEnt st).1.op, .string (rdEnt st).1.k, .string (rdEnt st).1.v, .string (rdEnt st).1.o]) ∧ SRd w'' b (.slice (some ⟨db, off, none⟩) l.length c) l (b + 1) (rdEnt st).2 ∧ w'.grownBy w'' (some b)) := fun w' st b h => l1rdEntry_any b w' _ l _ st (by omega) h
  have HM := rdMsg_ents l h32
  have HM1 : Hid ((rdMsg (some (l.drop 9))).es = (entsK (numsK (some (l.drop 9)) 9).2 (rdNum (numsK (some (l.drop 9)) 8).2).1).1) := HM.1
  have HM2 : Hid ((rdMsg (some (l.drop 9))).left = (entsK (numsK (some (l.drop 9)) 9).2 (rdNum (numsK (some (l.drop 9)) 8).2).1).2) := HM.2
  clear HM
  obtain ⟨X, hX⟩ : ∃ X, X = msgAns (msgC l) (l[8]?.getD 0) (rdMsg (some (l.drop 9))) := ⟨_, rfl⟩
  obtain ⟨Y, hY⟩ : ∃ Y, Y = msgEs (msgC l) (rdMsg (some (l.drop 9))) := ⟨_, rfl⟩
  rw [← hX, ← hY]
  have H5 : Hid ((rdMsg (some (l.drop 9))).left ≠ some [] → (∀ ev, X ev = .agg #[.int .i64 5, .int .i64 0, .int .i64 0, .int .i64 0, .int .i64 0, .int .i64 0, .int .i64 0, .int .i64 0, .int .i64 0, .int .i64 0, .int .i64 0, ev]) ∧ Y = []) := by
    rw [hX, hY]; exact msg5 l h0
  have H6 : Hid ((rdMsg (some (l.drop 9))).left = some [] → (msgF (l[8]?.getD 0) (rdMsg (some (l.drop 9))).fr (rdMsg (some (l.drop 9))).tq (rdMsg (some (l.drop 9))).tm (rdMsg (some (l.drop 9))).li (rdMsg (some (l.drop 9))).lt (rdMsg (some (l.drop 9))).cm (rdMsg (some (l.drop 9))).ok (rdMsg (some (l.drop 9))).hi (rdMsg (some (l.drop 9))).es) ≠ 0 → (∀ ev, X ev = .agg #[.int .i64 6, .int .i64 (msgF (l[8]?.getD 0) (rdMsg (some (l.drop 9))).fr (rdMsg (some (l.drop 9))).tq (rdMsg (some (l.drop 9))).tm (rdMsg (some (l.drop 9))).li (rdMsg (some (l.drop 9))).lt (rdMsg (some (l.drop 9))).cm (rdMsg (some (l.drop 9))).ok (rdMsg (some (l.drop 9))).hi (rdMsg (some (l.drop 9))).es), .int .i64 0, .int .i64 0, .int .i64 0, .int .i64 0, .int .i64 0, .int .i64 0, .int .i64 0, .int .i64 0, .int .i64 0, ev]) ∧ Y = []) := by
    rw [hX, hY]; exact msg6 l h0
  have H0 : Hid ((rdMsg (some (l.drop 9))).left = some [] → (msgF (l[8]?.getD 0) (rdMsg (some (l.drop 9))).fr (rdMsg (some (l.drop 9))).tq (rdMsg (some (l.drop 9))).tm (rdMsg (some (l.drop 9))).li (rdMsg (some (l.drop 9))).lt (rdMsg (some (l.drop 9))).cm (rdMsg (some (l.drop 9))).ok (rdMsg (some (l.drop 9))).hi (rdMsg (some (l.drop 9))).es) = 0 → (∀ ev, X ev = .agg #[.int .i64 0, .int .i64 0, .int .i64 (l[8]?.getD 0), .int .i64 ((rdMsg (some (l.drop 9))).fr : Nat), .int .i64 ((rdMsg (some (l.drop 9))).tq : Nat), .int .i64 ((rdMsg (some (l.drop 9))).tm : Nat), .int .i64 ((rdMsg (some (l.drop 9))).li : Nat), .int .i64 ((rdMsg (some (l.drop 9))).lt : Nat), .int .i64 ((rdMsg (some (l.drop 9))).cm : Nat), .int .i64 ((rdMsg (some (l.drop 9))).ok : Nat), .int .i64 ((rdMsg (some (l.drop 9))).hi : Nat), ev]) ∧ Y = (rdMsg (some (l.drop 9))).es) := by
    rw [hX, hY]; exact msg0 l h0
  clear hX hY
  go_enter Tryz.func42, Tryz.ntmps42
  go_wp2_with (first
    | (go_at_call 68; refine Calls.mono (HO.out _ (Below.alloc (Below.refl _ _) (Nat.le_refl _) _)) ?_; rintro e w1 ⟨rfl, hb1⟩; have hB1 : Below w.heap.size w w1 := ((Below.refl _ _).alloc (Nat.le_refl _) _).trans (hb1.mono (by simp)); have hz1 : w.heap.size < w1.heap.size := (by have := hb1.size; simp at this; omega); have hT : w1.there w.heap.size 0 12 := there_at hb1)
    | (refine gate_store 112 (.tmp 4) (.tmp 18) rfl ?_; refine wpl_store_new rfl 112 (.tmp 4) (.tmp 18) rfl #[.slice none 0 0, .int .i64 0, .bool false] #[.slice (some ⟨db, off, none⟩) l.length c, .int .i64 9, .bool false] rfl rfl infoL1rd rfl (by simp [Value.oneCell']) ?_; have hr0 := SRd.start (w := w1) (HV.out.below hB1) hc 9 h9; have hG0 := grown_alloc (grownBy_refl w1 (some w1.heap.size)) (.cells #[.slice (some ⟨db, off, none⟩) l.length c, .int .i64 9, .bool false] 112)))
  go_loopw [5, 6] (fun v i wr => ∃ k : Nat, k ≤ 9 ∧ i = .int .i64 k ∧ OwnI wr (w1.heap.size + 1) v (numsK (some (l.drop 9)) k).1 ∧ SRd wr w1.heap.size (.slice (some ⟨db, off, none⟩) l.length c) l (w1.heap.size + 1) (numsK (some (l.drop 9)) k).2 ∧ w1.grownBy wr (some w1.heap.size) ∧ w1.heap.size < wr.heap.size) (fun _ i _ => 9 - (intOf i).toNat)
  case atStart =>
    have hO := OwnI.made (w1.alloc (.cells #[.slice (some ⟨db, off, none⟩) l.length c, .int .i64 9, .bool false] 112)) (w1.heap.size + 1) (by simp)
    exact ⟨0, by omega, rfl, by simpa [numsK] using hO, SRd.below hr0 ((Below.refl _ _).alloc (by simp) _), grown_alloc hG0 _, by simp; omega⟩
  case round =>
    obtain ⟨k, hk, rfl, ho, hr, hg, hz⟩ := hrel
    by_cases hk9 : k < 9
    · obtain ⟨va, vc, hve⟩ := ho.shape
      rw [numsK_len] at hve
      subst hve
      have hk9' : (k : Int) < 9 := by omega
      go_wp2_with (first
        | (go_at_call 69; refine Calls.mono (HN _ _ _ hr).out ?_; rintro e w2 ⟨rfl, hr2, hg2⟩; have hz2 := hg2.size; have hB2 := (Below.refl w2.heap.size w2).alloc (Nat.le_refl _) (.cells #[.int .i64 ((rdNum (numsK (some (l.drop 9)) k).2).1 : Nat)] 3); have ho2 := (ho.grown hg2 (by omega)).below hB2; have hcell : (w2.alloc (.cells #[.int .i64 ((rdNum (numsK (some (l.drop 9)) k).2).1 : Nat)] 3)).cell? ⟨w2.heap.size, 0, none⟩ = some (.int .i64 ((rdNum (numsK (some (l.drop 9)) k).2).1 : Nat)) := (by simp [World.cell?_alloc_new]))
        | (at_builtin; refine wpl_appendI rfl (.tmp 24) (.tmp 26) rfl _ ho2 rfl w2.heap.size 1 hcell rfl (by rw [numsK_len]; omega) (by simp; omega) ?_; intro v3 w3 ho3 hg3; have hB3 := (hB2.mono (show w1.heap.size + 1 ≤ w2.heap.size by omega)).trans (growI hg3 ho2 (by simp; omega))))
      go_roundw
      case rel => exact ⟨k + 1, by omega, by go_num, ho3, SRd.below hr2 hB3, grown_then (grownBy_trans hg hg2) (hB3.mono (by omega)), by have := hB3.size; omega⟩
      case measure => simp [intOf]; omega
    · have e : k = 9 := by omega
      subst e
      obtain ⟨wo, ewo⟩ : ∃ x, x = wr := ⟨wr, rfl⟩
      subst ewo
      have hr9 := hr
      have ho9 := ho
      clear hr ho hk hk9
      obtain ⟨g, vc, hve⟩ := ho9.shape' (by rw [numsK_len]; omega)
      rw [numsK_len] at hve
      subst hve
      have hgl : g < wo.heap.size := (World.ownsRow.lt ho9 g rfl).2
      have hgb : w1.heap.size + 1 ≤ g := (World.ownsRow.lt ho9 g rfl).1
      have c8 : wo.cell? ⟨g, 8, none⟩ = some (.int .i64 ((rdNum (numsK (some (l.drop 9)) 8).2).1 : Nat)) := OwnI.cell (l := (numsK (some (l.drop 9)) 9).1) (by rw [numsK_len]; exact ho9) 8 (by rw [numsK_len]; omega)
      have cg : ∀ o, (wo.alloc o).cell? ⟨g, 8, none⟩ = some (.int .i64 ((rdNum (numsK (some (l.drop 9)) 8).2).1 : Nat)) := fun o => by rw [World.cell?_alloc_lt _ _ ⟨g, 8, none⟩ hgl]; exact c8
      have hn32 : (((rdNum (numsK (some (l.drop 9)) 8).2).1 : Nat) : Int) ≤ 32 := by omega
      have HO9 : Hid (OwnI wo (w1.heap.size + 1) (.slice (some ⟨g, 0, none⟩) 9 vc) (numsK (some (l.drop 9)) 9).1) := ho9
      have hrA := SRd.below hr9 ((Below.refl _ _).alloc (show w1.heap.size + 1 ≤ wo.heap.size by omega) (.cells #[] 87))
      have hoA := OwnE.made wo wo.heap.size (Nat.le_refl _)
      clear HN ho9 hr9 hr0 hG0
      go_wp2
      go_loopw [7, 8] (fun es i wx => ∃ k : Nat, k ≤ (rdNum (numsK (some (l.drop 9)) 8).2).1 ∧ i = .int .i64 k ∧ OwnE wx wo.heap.size es (entsK (numsK (some (l.drop 9)) 9).2 k).1 ∧ SRd wx w1.heap.size (.slice (some ⟨db, off, none⟩) l.length c) l (w1.heap.size + 1) (entsK (numsK (some (l.drop 9)) 9).2 k).2 ∧ wo.grownBy wx (some w1.heap.size) ∧ wo.heap.size < wx.heap.size) (fun _ i _ => (rdNum (numsK (some (l.drop 9)) 8).2).1 - (intOf i).toNat)
      case atStart => exact ⟨0, by omega, rfl, hoA, hrA, grown_alloc (grownBy_refl _ _) _, by simp⟩
      case round =>
        obtain ⟨k, hk, rfl, ho, hr, hgx, hzx⟩ := hrel
        obtain ⟨gc, gf⟩ := grown_cell hgx hgl (by omega)
        have cx8 := (gc 8).trans c8
        have hGx := grownBy_trans hg hgx
        have hTx := there_grown hGx hz1 hT (Nat.le_refl _)
        have hBx := hB1.trans (below_grown hGx (Nat.le_of_lt hz1) (Nat.le_refl _))
        obtain ⟨ea, ec, hve⟩ := ho.shape
        rw [entsK_len] at hve
        subst hve
        rcases hst : (entsK (numsK (some (l.drop 9)) 9).2 k).2 with _ | s
        · have hln : (rdMsg (some (l.drop 9))).left ≠ some [] := by
            have h := entsK_none _ k hst ((rdNum (numsK (some (l.drop 9)) 8).2).1 - k)
            rw [show k + ((rdNum (numsK (some (l.drop 9)) 8).2).1 - k) = (rdNum (numsK (some (l.drop 9)) 8).2).1 by omega] at h
            rw [HM2.out, h]
            simp
          obtain ⟨hA, hE⟩ := H5.out hln
          rw [hst] at hr
          obtain ⟨_, _, _, _, hfz, _, p, _, k1, k2, _⟩ := hr
          simp only [Option.isNone_none] at k2
          clear hst hln H5 HM1 HM2 HO9 HE hrA hoA
          have hk' : (k : Int) ≤ ((rdNum (numsK (some (l.drop 9)) 8).2).1 : Nat) := by omega
          have HA : Hid _ := hA
          have HEm : Hid _ := hE
          clear hA hE
          generalize (rdNum (numsK (some (l.drop 9)) 8).2).1 = n at *
          go_wp2_with ((refine gate_store 43 (.tmp 2) (.tmp 59) rfl ?_; refine wpList_store_mid rfl 43 (.tmp 2) (.tmp 59) rfl w.heap.size 0 #[.int .i64 5, .int .i64 0, .int .i64 0, .int .i64 0, .int .i64 0, .int .i64 0, .int .i64 0, .int .i64 0, .int .i64 0, .int .i64 0, .int .i64 0, .slice none 0 0] rfl rfl hTx infoMAns (by simp [Value.oneCell']) ?_; have hra4 := World.rangeAt_setCells_same _ w.heap.size 0 [.int .i64 5, .int .i64 0, .int .i64 0, .int .i64 0, .int .i64 0, .int .i64 0, .int .i64 0, .int .i64 0, .int .i64 0, .int .i64 0, .int .i64 0, .slice none 0 0] hTx; have hld := run_loadVar_mid (P := Tryz.prog) _ w.heap.size 0 43 _ _ hra4 Tryz.underlying43 rfl infoMAns; have hB4 := below_setCells (Nat.le_refl _) [.int .i64 5, .int .i64 0, .int .i64 0, .int .i64 0, .int .i64 0, .int .i64 0, .int .i64 0, .int .i64 0, .int .i64 0, .int .i64 0, .int .i64 0, .slice none 0 0] 0 _ hBx; clear hra4; generalize (World.setCells _ w.heap.size 0 _) = W4 at hld hB4 ⊢))
          all_goals refine bodyPost_ret (v := .agg #[.int .i64 5, .int .i64 0, .int .i64 0, .int .i64 0, .int .i64 0, .int .i64 0, .int .i64 0, .int .i64 0, .int .i64 0, .int .i64 0, .int .i64 0, .slice none 0 0]) ?_ rfl ⟨.slice none 0 0, by rw [HA.out], by rw [HEm.out]; exact OwnE.nil _ _, hB4⟩
          all_goals exact results_cell Tryz.results42 rfl hld
        · by_cases hkn : k < (rdNum (numsK (some (l.drop 9)) 8).2).1
          · have hkn' : (k : Int) < ((rdNum (numsK (some (l.drop 9)) 8).2).1 : Nat) := by omega
            have hrR := hr
            rw [hst] at hr
            obtain ⟨_, _, _, _, hfz, _, p, _, k1, k2, _⟩ := hr
            simp only [Option.isNone_some] at k2
            clear H5 HM1 HM2 hrA hoA hst
            go_wp2_with (first
              | (go_at_call 70; refine Calls.mono (HE _ _ _ hrR).out ?_; rintro e w2 ⟨rfl, hr2, hg2⟩; have hz2 := hg2.size; have hfit := rdEnt_fits (entsK (numsK (some (l.drop 9)) 9).2 k).2; have hB2 := (Below.refl w2.heap.size w2).alloc (Nat.le_refl _) (.cells #[.int .i64 (rdEnt (entsK (numsK (some (l.drop 9)) 9).2 k).2).1.t, .int .i64 (rdEnt (entsK (numsK (some (l.drop 9)) 9).2 k).2).1.cl, .int .i64 (rdEnt (entsK (numsK (some (l.drop 9)) 9).2 k).2).1.sq, .int .i64 (rdEnt (entsK (numsK (some (l.drop 9)) 9).2 k).2).1.op, .string (rdEnt (entsK (numsK (some (l.drop 9)) 9).2 k).2).1.k, .string (rdEnt (entsK (numsK (some (l.drop 9)) 9).2 k).2).1.v, .string (rdEnt (entsK (numsK (some (l.drop 9)) 9).2 k).2).1.o] 87); have ho2 := (ho.grown hg2 (by omega)).below hB2; have hea := entAt_new w2 (rdEnt (entsK (numsK (some (l.drop 9)) 9).2 k).2).1)
              | (at_builtin; (refine wpl_appendE rfl (.tmp 46) (.tmp 48) rfl _ hfit ho2 rfl w2.heap.size 1 hea rfl (by rw [entsK_len]; omega) (by simp; omega) ?_; intro v3 w3 ho3 hg3; have hB3 := (hB2.mono (show wo.heap.size ≤ w2.heap.size by omega)).trans (growE hg3 ho2 (by simp; omega)))))
            go_roundw
            case rel =>
              (repeat apply Exists.intro)
              exact ⟨⟨k + 1, by omega, by go_num, ho3, SRd.below hr2 (hB3.mono (by omega)), grown_then (grownBy_trans hgx hg2) hB3, by have := hB3.size; omega⟩, rfl⟩
            case measure => simp [intOf]; omega
          · have e : k = (rdNum (numsK (some (l.drop 9)) 8).2).1 := by omega
            have hkk : ¬ (k : Int) < ((rdNum (numsK (some (l.drop 9)) 8).2).1 : Nat) := by omega
            cases s with
            | cons x t =>
              have hln : (rdMsg (some (l.drop 9))).left ≠ some [] := by rw [HM2.out, ← e, hst]; simp
              obtain ⟨hA, hE⟩ := H5.out hln
              rw [hst] at hr
              obtain ⟨_, _, _, _, hfz, _, p, hp, k1, k2, k3⟩ := hr
              simp only [Option.isNone_some] at k2
              have hne : ((p : Int) != l.length) = true := by
                have h := congrArg List.length (k3 _ rfl)
                rw [List.length_drop, List.length_cons] at h
                simp only [bne_iff_ne, ne_eq]
                omega
              clear hst hln H5 HM1 HM2 HO9 HE hrA hoA e k3 hp
              have HA : Hid _ := hA
              have HEm : Hid _ := hE
              clear hA hE
              generalize (rdNum (numsK (some (l.drop 9)) 8).2).1 = n at *
              go_wp2_with ((refine gate_store 43 (.tmp 2) (.tmp 59) rfl ?_; refine wpList_store_mid rfl 43 (.tmp 2) (.tmp 59) rfl w.heap.size 0 #[.int .i64 5, .int .i64 0, .int .i64 0, .int .i64 0, .int .i64 0, .int .i64 0, .int .i64 0, .int .i64 0, .int .i64 0, .int .i64 0, .int .i64 0, .slice none 0 0] rfl rfl hTx infoMAns (by simp [Value.oneCell']) ?_; have hra4 := World.rangeAt_setCells_same _ w.heap.size 0 [.int .i64 5, .int .i64 0, .int .i64 0, .int .i64 0, .int .i64 0, .int .i64 0, .int .i64 0, .int .i64 0, .int .i64 0, .int .i64 0, .int .i64 0, .slice none 0 0] hTx; have hld := run_loadVar_mid (P := Tryz.prog) _ w.heap.size 0 43 _ _ hra4 Tryz.underlying43 rfl infoMAns; have hB4 := below_setCells (Nat.le_refl _) [.int .i64 5, .int .i64 0, .int .i64 0, .int .i64 0, .int .i64 0, .int .i64 0, .int .i64 0, .int .i64 0, .int .i64 0, .int .i64 0, .int .i64 0, .slice none 0 0] 0 _ hBx; clear hra4; generalize (World.setCells _ w.heap.size 0 _) = W4 at hld hB4 ⊢))
              refine bodyPost_ret (v := .agg #[.int .i64 5, .int .i64 0, .int .i64 0, .int .i64 0, .int .i64 0, .int .i64 0, .int .i64 0, .int .i64 0, .int .i64 0, .int .i64 0, .int .i64 0, .slice none 0 0]) ?_ rfl ⟨.slice none 0 0, by rw [HA.out], by rw [HEm.out]; exact OwnE.nil _ _, hB4⟩
              exact results_cell Tryz.results42 rfl hld
            | nil =>
              have hle : (rdMsg (some (l.drop 9))).left = some [] := by rw [HM2.out, ← e]; exact hst
              have hes : (entsK (numsK (some (l.drop 9)) 9).2 k).1 = (rdMsg (some (l.drop 9))).es := by rw [HM1.out, ← e]
              rw [hst] at hr
              obtain ⟨_, _, hbs, _, hfz, _, p, hp, k1, k2, k3⟩ := hr
              simp only [Option.isNone_some] at k2
              have ep : p = l.length := by
                have h := congrArg List.length (k3 _ rfl)
                rw [List.length_drop, List.length_nil] at h
                omega
              rw [ep] at k1
              obtain ⟨_, h8, a', c', ee, hcell⟩ := hbs
              injection ee with ea' _ ec'
              subst ea'
              subst ec'
              obtain ⟨db', off', e', hj⟩ := hcell 0 (by omega)
              injection e' with e'
              injection e' with e1 e2
              subst e1 e2
              have q8 := hj 8 (by omega)
              have r8 := byte_at h8 8
              have p8 : 8 < l.length := by omega
              have p8i : (8 : Int) < (l.length : Int) := by omega
              have p8j : (0 : Int) ≤ (l.length : Int) := by omega
              have x0 : wr.cell? ⟨g, 0, none⟩ = some (.int .i64 ((rdMsg (some (l.drop 9))).fr : Nat)) := (gc 0).trans (OwnI.cell (l := (numsK (some (l.drop 9)) 9).1) (by rw [numsK_len]; exact HO9.out) 0 (by rw [numsK_len]; omega))
              have x1 : wr.cell? ⟨g, 1, none⟩ = some (.int .i64 ((rdMsg (some (l.drop 9))).tq : Nat)) := (gc 1).trans (OwnI.cell (l := (numsK (some (l.drop 9)) 9).1) (by rw [numsK_len]; exact HO9.out) 1 (by rw [numsK_len]; omega))
              have x2 : wr.cell? ⟨g, 2, none⟩ = some (.int .i64 ((rdMsg (some (l.drop 9))).tm : Nat)) := (gc 2).trans (OwnI.cell (l := (numsK (some (l.drop 9)) 9).1) (by rw [numsK_len]; exact HO9.out) 2 (by rw [numsK_len]; omega))
              have x3 : wr.cell? ⟨g, 3, none⟩ = some (.int .i64 ((rdMsg (some (l.drop 9))).li : Nat)) := (gc 3).trans (OwnI.cell (l := (numsK (some (l.drop 9)) 9).1) (by rw [numsK_len]; exact HO9.out) 3 (by rw [numsK_len]; omega))
              have x4 : wr.cell? ⟨g, 4, none⟩ = some (.int .i64 ((rdMsg (some (l.drop 9))).lt : Nat)) := (gc 4).trans (OwnI.cell (l := (numsK (some (l.drop 9)) 9).1) (by rw [numsK_len]; exact HO9.out) 4 (by rw [numsK_len]; omega))
              have x5 : wr.cell? ⟨g, 5, none⟩ = some (.int .i64 ((rdMsg (some (l.drop 9))).cm : Nat)) := (gc 5).trans (OwnI.cell (l := (numsK (some (l.drop 9)) 9).1) (by rw [numsK_len]; exact HO9.out) 5 (by rw [numsK_len]; omega))
              have x6 : wr.cell? ⟨g, 6, none⟩ = some (.int .i64 ((rdMsg (some (l.drop 9))).ok : Nat)) := (gc 6).trans (OwnI.cell (l := (numsK (some (l.drop 9)) 9).1) (by rw [numsK_len]; exact HO9.out) 6 (by rw [numsK_len]; omega))
              have x7 : wr.cell? ⟨g, 7, none⟩ = some (.int .i64 ((rdMsg (some (l.drop 9))).hi : Nat)) := (gc 7).trans (OwnI.cell (l := (numsK (some (l.drop 9)) 9).1) (by rw [numsK_len]; exact HO9.out) 7 (by rw [numsK_len]; omega))
              have z8 : ∀ o, (wr.alloc o).cell? ⟨db, off + 8, none⟩ = some (.int .u8 (l[8]?.getD 0)) := fun o => by rw [World.cell?_alloc_lt _ _ ⟨db, off + 8, none⟩ (cell_lt q8)]; exact q8
              have z0 : ∀ o, (wr.alloc o).cell? ⟨g, 0, none⟩ = some (.int .i64 ((rdMsg (some (l.drop 9))).fr : Nat)) := fun o => by rw [World.cell?_alloc_lt _ _ ⟨g, 0, none⟩ (cell_lt x0)]; exact x0
              have z1 : ∀ o, (wr.alloc o).cell? ⟨g, 1, none⟩ = some (.int .i64 ((rdMsg (some (l.drop 9))).tq : Nat)) := fun o => by rw [World.cell?_alloc_lt _ _ ⟨g, 1, none⟩ (cell_lt x1)]; exact x1
              have z2 : ∀ o, (wr.alloc o).cell? ⟨g, 2, none⟩ = some (.int .i64 ((rdMsg (some (l.drop 9))).tm : Nat)) := fun o => by rw [World.cell?_alloc_lt _ _ ⟨g, 2, none⟩ (cell_lt x2)]; exact x2
              have z3 : ∀ o, (wr.alloc o).cell? ⟨g, 3, none⟩ = some (.int .i64 ((rdMsg (some (l.drop 9))).li : Nat)) := fun o => by rw [World.cell?_alloc_lt _ _ ⟨g, 3, none⟩ (cell_lt x3)]; exact x3
              have z4 : ∀ o, (wr.alloc o).cell? ⟨g, 4, none⟩ = some (.int .i64 ((rdMsg (some (l.drop 9))).lt : Nat)) := fun o => by rw [World.cell?_alloc_lt _ _ ⟨g, 4, none⟩ (cell_lt x4)]; exact x4
              have z5 : ∀ o, (wr.alloc o).cell? ⟨g, 5, none⟩ = some (.int .i64 ((rdMsg (some (l.drop 9))).cm : Nat)) := fun o => by rw [World.cell?_alloc_lt _ _ ⟨g, 5, none⟩ (cell_lt x5)]; exact x5
              have z6 : ∀ o, (wr.alloc o).cell? ⟨g, 6, none⟩ = some (.int .i64 ((rdMsg (some (l.drop 9))).ok : Nat)) := fun o => by rw [World.cell?_alloc_lt _ _ ⟨g, 6, none⟩ (cell_lt x6)]; exact x6
              have z7 : ∀ o, (wr.alloc o).cell? ⟨g, 7, none⟩ = some (.int .i64 ((rdMsg (some (l.drop 9))).hi : Nat)) := fun o => by rw [World.cell?_alloc_lt _ _ ⟨g, 7, none⟩ (cell_lt x7)]; exact x7
              have hoR : OwnE wr wo.heap.size (.slice ea k ec) (rdMsg (some (l.drop 9))).es := by rw [← hes]; exact ho
              have HOE : Hid (OwnE wr wo.heap.size (.slice ea k ec) (rdMsg (some (l.drop 9))).es) := hoR
              have hlR := rdMsg_len (some (l.drop 9))
              have hEs : Hid (Es wr (.slice ea k ec) (rdMsg (some (l.drop 9))).es) := hoR.es (by unfold maxLen; omega)
              have HMF : ∀ w', Es w' (.slice ea k ec) (rdMsg (some (l.drop 9))).es → Hid (Calls Tryz.prog 7 #[.agg #[.int .i64 (l[8]?.getD 0), .int .i64 ((rdMsg (some (l.drop 9))).fr : Nat), .int .i64 ((rdMsg (some (l.drop 9))).tq : Nat), .int .i64 ((rdMsg (some (l.drop 9))).tm : Nat), .int .i64 ((rdMsg (some (l.drop 9))).li : Nat), .int .i64 ((rdMsg (some (l.drop 9))).lt : Nat), .int .i64 ((rdMsg (some (l.drop 9))).cm : Nat), .int .i64 ((rdMsg (some (l.drop 9))).ok : Nat), .int .i64 ((rdMsg (some (l.drop 9))).hi : Nat), .slice ea k ec]] w' fun e w'' => e = .returned (.int .i64 (msgF (l[8]?.getD 0) (rdMsg (some (l.drop 9))).fr (rdMsg (some (l.drop 9))).tq (rdMsg (some (l.drop 9))).tm (rdMsg (some (l.drop 9))).li (rdMsg (some (l.drop 9))).lt (rdMsg (some (l.drop 9))).cm (rdMsg (some (l.drop 9))).ok (rdMsg (some (l.drop 9))).hi (rdMsg (some (l.drop 9))).es)) ∧ Below w'.heap.size w' w'') := fun w' h => specMsgFault_any _ _ _ _ _ _ _ _ _ _ _ w' h (by omega)
              clear hoR ho hes hst H5 HM1 HM2 HO9 HE hrA hoA e k3 hp hj hcell h8 ep gc gf hlR
              by_cases hf : (msgF (l[8]?.getD 0) (rdMsg (some (l.drop 9))).fr (rdMsg (some (l.drop 9))).tq (rdMsg (some (l.drop 9))).tm (rdMsg (some (l.drop 9))).li (rdMsg (some (l.drop 9))).lt (rdMsg (some (l.drop 9))).cm (rdMsg (some (l.drop 9))).ok (rdMsg (some (l.drop 9))).hi (rdMsg (some (l.drop 9))).es) = 0
              · have HA : Hid _ := (H0.out hle hf).1
                have HEm : Hid _ := (H0.out hle hf).2
                simp only [hf] at HMF; clear hf
                clear hle H0 H6
                generalize (rdNum (numsK (some (l.drop 9)) 8).2).1 = n at *
                generalize (rdMsg (some (l.drop 9))).fr = y0 at *
                generalize (rdMsg (some (l.drop 9))).tq = y1 at *
                generalize (rdMsg (some (l.drop 9))).tm = y2 at *
                generalize (rdMsg (some (l.drop 9))).li = y3 at *
                generalize (rdMsg (some (l.drop 9))).lt = y4 at *
                generalize (rdMsg (some (l.drop 9))).cm = y5 at *
                generalize (rdMsg (some (l.drop 9))).ok = y6 at *
                generalize (rdMsg (some (l.drop 9))).hi = y7 at *
                generalize (l[8]?.getD 0) = kd at *
                go_wp2
                go_region_held3 (fun w' => w'.cell? ⟨db, off + 8, none⟩ = some (.int .u8 kd) ∧ w'.cell? ⟨g, 0, none⟩ = some (.int .i64 (y0 : Nat)) ∧ w'.cell? ⟨g, 1, none⟩ = some (.int .i64 (y1 : Nat)) ∧ w'.cell? ⟨g, 2, none⟩ = some (.int .i64 (y2 : Nat)) ∧ w'.cell? ⟨g, 3, none⟩ = some (.int .i64 (y3 : Nat)) ∧ w'.cell? ⟨g, 4, none⟩ = some (.int .i64 (y4 : Nat)) ∧ w'.cell? ⟨g, 5, none⟩ = some (.int .i64 (y5 : Nat)) ∧ w'.cell? ⟨g, 6, none⟩ = some (.int .i64 (y6 : Nat)) ∧ w'.cell? ⟨g, 7, none⟩ = some (.int .i64 (y7 : Nat))) (simp [*, go_sem, World.cell?_alloc_past]) (fail)
                all_goals go_wp2_with (first
                  | (go_at_call 7; refine Calls.mono (HMF _ (hEs.out.below ?hb)).out ?_; (case hb => repeat (first | exact Below.refl _ _ | refine Below.drew ?_ | refine Below.alloc ?_ (by simp) _)); rintro e w8 ⟨rfl, hb8⟩; have hM8 := fun (o : Nat) => hb8.cell (p := ⟨wr.heap.size, o, none⟩) (by simp); have hBW : Below wr.heap.size wr w8 := Below.trans ?hx (hb8.mono ?hy); (case hx => repeat (first | exact Below.refl _ _ | refine Below.drew ?_ | refine Below.alloc ?_ (by simp) _)); (case hy => simp); have hT8 := there_of_block (hBW.block w.heap.size (by omega)) hTx; have hB8 := hBx.trans (hBW.mono (by omega)))
                  | (refine gate_store 43 (.tmp 2) (.tmp 97) rfl ?_; refine wpList_store_mid rfl 43 (.tmp 2) (.tmp 97) rfl w.heap.size 0 #[.int .i64 0, .int .i64 0, .int .i64 kd, .int .i64 (y0 : Nat), .int .i64 (y1 : Nat), .int .i64 (y2 : Nat), .int .i64 (y3 : Nat), .int .i64 (y4 : Nat), .int .i64 (y5 : Nat), .int .i64 (y6 : Nat), .int .i64 (y7 : Nat), .slice ea k ec] rfl rfl hT8 infoMAns (by simp [Value.oneCell']) ?_; have hra4 := World.rangeAt_setCells_same _ w.heap.size 0 [.int .i64 0, .int .i64 0, .int .i64 kd, .int .i64 (y0 : Nat), .int .i64 (y1 : Nat), .int .i64 (y2 : Nat), .int .i64 (y3 : Nat), .int .i64 (y4 : Nat), .int .i64 (y5 : Nat), .int .i64 (y6 : Nat), .int .i64 (y7 : Nat), .slice ea k ec] hT8; have hld := run_loadVar_mid (P := Tryz.prog) _ w.heap.size 0 43 _ _ hra4 Tryz.underlying43 rfl infoMAns; have hB4 := below_setCells (Nat.le_refl _) [.int .i64 0, .int .i64 0, .int .i64 kd, .int .i64 (y0 : Nat), .int .i64 (y1 : Nat), .int .i64 (y2 : Nat), .int .i64 (y3 : Nat), .int .i64 (y4 : Nat), .int .i64 (y5 : Nat), .int .i64 (y6 : Nat), .int .i64 (y7 : Nat), .slice ea k ec] 0 _ hB8; have hfar := setCells_far w.heap.size [.int .i64 0, .int .i64 0, .int .i64 kd, .int .i64 (y0 : Nat), .int .i64 (y1 : Nat), .int .i64 (y2 : Nat), .int .i64 (y3 : Nat), .int .i64 (y4 : Nat), .int .i64 (y5 : Nat), .int .i64 (y6 : Nat), .int .i64 (y7 : Nat), .slice ea k ec] 0 w8; clear hra4; generalize (World.setCells _ w.heap.size 0 _) = W4 at hld hB4 hfar ⊢))
                all_goals refine bodyPost_ret (v := .agg #[.int .i64 0, .int .i64 0, .int .i64 kd, .int .i64 (y0 : Nat), .int .i64 (y1 : Nat), .int .i64 (y2 : Nat), .int .i64 (y3 : Nat), .int .i64 (y4 : Nat), .int .i64 (y5 : Nat), .int .i64 (y6 : Nat), .int .i64 (y7 : Nat), .slice ea k ec]) ?_ rfl ⟨.slice ea k ec, by rw [HA.out], by rw [HEm.out]; exact OwnE.le ((HOE.out.below hBW).block (fun q hq => hfar q (by have := (HOE.out.2.lt q hq).1; omega))) (by omega), hB4⟩
                all_goals exact results_cell Tryz.results42 rfl hld
              · have HA : Hid _ := (H6.out hle hf).1
                have HEm : Hid _ := (H6.out hle hf).2
                have hfn : (((msgF (l[8]?.getD 0) (rdMsg (some (l.drop 9))).fr (rdMsg (some (l.drop 9))).tq (rdMsg (some (l.drop 9))).tm (rdMsg (some (l.drop 9))).li (rdMsg (some (l.drop 9))).lt (rdMsg (some (l.drop 9))).cm (rdMsg (some (l.drop 9))).ok (rdMsg (some (l.drop 9))).hi (rdMsg (some (l.drop 9))).es)) != 0) = true := by simpa using hf
                generalize (msgF (l[8]?.getD 0) (rdMsg (some (l.drop 9))).fr (rdMsg (some (l.drop 9))).tq (rdMsg (some (l.drop 9))).tm (rdMsg (some (l.drop 9))).li (rdMsg (some (l.drop 9))).lt (rdMsg (some (l.drop 9))).cm (rdMsg (some (l.drop 9))).ok (rdMsg (some (l.drop 9))).hi (rdMsg (some (l.drop 9))).es) = f at *
                clear hle H0 H6
                generalize (rdNum (numsK (some (l.drop 9)) 8).2).1 = n at *
                generalize (rdMsg (some (l.drop 9))).fr = y0 at *
                generalize (rdMsg (some (l.drop 9))).tq = y1 at *
                generalize (rdMsg (some (l.drop 9))).tm = y2 at *
                generalize (rdMsg (some (l.drop 9))).li = y3 at *
                generalize (rdMsg (some (l.drop 9))).lt = y4 at *
                generalize (rdMsg (some (l.drop 9))).cm = y5 at *
                generalize (rdMsg (some (l.drop 9))).ok = y6 at *
                generalize (rdMsg (some (l.drop 9))).hi = y7 at *
                generalize (l[8]?.getD 0) = kd at *
                go_wp2
                go_region_held3 (fun w' => w'.cell? ⟨db, off + 8, none⟩ = some (.int .u8 kd) ∧ w'.cell? ⟨g, 0, none⟩ = some (.int .i64 (y0 : Nat)) ∧ w'.cell? ⟨g, 1, none⟩ = some (.int .i64 (y1 : Nat)) ∧ w'.cell? ⟨g, 2, none⟩ = some (.int .i64 (y2 : Nat)) ∧ w'.cell? ⟨g, 3, none⟩ = some (.int .i64 (y3 : Nat)) ∧ w'.cell? ⟨g, 4, none⟩ = some (.int .i64 (y4 : Nat)) ∧ w'.cell? ⟨g, 5, none⟩ = some (.int .i64 (y5 : Nat)) ∧ w'.cell? ⟨g, 6, none⟩ = some (.int .i64 (y6 : Nat)) ∧ w'.cell? ⟨g, 7, none⟩ = some (.int .i64 (y7 : Nat))) (simp [*, go_sem, World.cell?_alloc_past]) (fail)
                all_goals go_wp2_with (first
                  | (go_at_call 7; refine Calls.mono (HMF _ (hEs.out.below ?hb)).out ?_; (case hb => repeat (first | exact Below.refl _ _ | refine Below.drew ?_ | refine Below.alloc ?_ (by simp) _)); rintro e w8 ⟨rfl, hb8⟩; have hM8 := fun (o : Nat) => hb8.cell (p := ⟨wr.heap.size, o, none⟩) (by simp); have hBW : Below wr.heap.size wr w8 := Below.trans ?hx (hb8.mono ?hy); (case hx => repeat (first | exact Below.refl _ _ | refine Below.drew ?_ | refine Below.alloc ?_ (by simp) _)); (case hy => simp); have hT8 := there_of_block (hBW.block w.heap.size (by omega)) hTx; have hB8 := hBx.trans (hBW.mono (by omega)))
                  | (refine gate_store 43 (.tmp 2) (.tmp 95) rfl ?_; refine wpList_store_mid rfl 43 (.tmp 2) (.tmp 95) rfl w.heap.size 0 #[.int .i64 6, .int .i64 f, .int .i64 0, .int .i64 0, .int .i64 0, .int .i64 0, .int .i64 0, .int .i64 0, .int .i64 0, .int .i64 0, .int .i64 0, .slice none 0 0] rfl rfl hT8 infoMAns (by simp [Value.oneCell']) ?_; have hra4 := World.rangeAt_setCells_same _ w.heap.size 0 [.int .i64 6, .int .i64 f, .int .i64 0, .int .i64 0, .int .i64 0, .int .i64 0, .int .i64 0, .int .i64 0, .int .i64 0, .int .i64 0, .int .i64 0, .slice none 0 0] hT8; have hld := run_loadVar_mid (P := Tryz.prog) _ w.heap.size 0 43 _ _ hra4 Tryz.underlying43 rfl infoMAns; have hB4 := below_setCells (Nat.le_refl _) [.int .i64 6, .int .i64 f, .int .i64 0, .int .i64 0, .int .i64 0, .int .i64 0, .int .i64 0, .int .i64 0, .int .i64 0, .int .i64 0, .int .i64 0, .slice none 0 0] 0 _ hB8; have hfar := setCells_far w.heap.size [.int .i64 6, .int .i64 f, .int .i64 0, .int .i64 0, .int .i64 0, .int .i64 0, .int .i64 0, .int .i64 0, .int .i64 0, .int .i64 0, .int .i64 0, .slice none 0 0] 0 w8; clear hra4; generalize (World.setCells _ w.heap.size 0 _) = W4 at hld hB4 hfar ⊢))
                all_goals refine bodyPost_ret (v := .agg #[.int .i64 6, .int .i64 f, .int .i64 0, .int .i64 0, .int .i64 0, .int .i64 0, .int .i64 0, .int .i64 0, .int .i64 0, .int .i64 0, .int .i64 0, .slice none 0 0]) ?_ rfl ⟨.slice none 0 0, by rw [HA.out], by rw [HEm.out]; exact OwnE.nil _ _, hB4⟩
                all_goals exact results_cell Tryz.results42 rfl hld
end Go.Proofs.YtafmjckpbcijoaaGreatDoor
