/-
  spec.l2recordBytes.
-/
import Derived.Test.YtmbiccmndcchhagDoorSpecEntry
import Derived.Test.YtmbiccmndcchhagDoorRecSpec
namespace Go.Proofs.YtmbiccmndcchhagDoor
open Go.RowKit
set_option linter.unusedVariables false

/-- a record's body -/
def recL (r : Rec) : List Int :=
  if r.ki = 1 then 11 :: (numL r.tm.toNat ++ numL r.vo.toNat) else if r.ki = 2 then 12 :: (numL r.ix.toNat ++ entL r.e) else 13 :: numL r.ix.toNat

theorem recB_kinds {r : Rec} (h : recB r = true) :
    (r.ki = 1 ∧ r.ix = 0 ∧ r.e = Ent.zero ∧ 0 ≤ r.tm ∧ r.tm ≤ 1073741824 ∧ 0 ≤ r.vo ∧ r.vo ≤ 7 ∧ (0 < r.tm ∨ r.vo = 0)) ∨
    (r.ki = 2 ∧ r.tm = 0 ∧ r.vo = 0 ∧ 1 ≤ r.ix ∧ r.ix ≤ 4096 ∧ entB r.e = true) ∨
    (r.ki = 3 ∧ r.tm = 0 ∧ r.vo = 0 ∧ r.e = Ent.zero ∧ 0 ≤ r.ix ∧ r.ix ≤ 4096) := by
  unfold recB at h
  by_cases k1 : r.ki = 1
  · rw [if_pos k1] at h
    simp only [hardB, Bool.and_eq_true, beq_iff_eq, inB_iff, noEnt_iff, Bool.or_eq_true, decide_eq_true_eq] at h
    obtain ⟨h1, h2, ⟨h3, h4⟩, ⟨h5, h6⟩, h7⟩ := h
    exact .inl ⟨k1, h1, h2, h3, h4, h5, h6, h7⟩
  · rw [if_neg k1] at h
    by_cases hz : r.tm ≠ 0 ∨ r.vo ≠ 0
    · rw [if_pos hz] at h; cases h
    · rw [if_neg hz] at h
      have h0 : r.tm = 0 := Classical.not_not.1 (fun e => hz (.inl e))
      have h1 : r.vo = 0 := Classical.not_not.1 (fun e => hz (.inr e))
      by_cases k2 : r.ki = 2
      · rw [if_pos k2] at h
        simp only [Bool.and_eq_true, inB_iff] at h
        exact .inr (.inl ⟨k2, h0, h1, h.1.1, h.1.2, h.2⟩)
      · rw [if_neg k2] at h
        simp only [Bool.and_eq_true, beq_iff_eq, inB_iff, noEnt_iff] at h
        exact .inr (.inr ⟨h.1, h0, h1, h.2.1, h.2.2.1, h.2.2.2⟩)

set_option maxHeartbeats 4000000 in
set_option maxRecDepth 100000 in
theorem recBytes_hard (tm vo : Nat) (h1 : tm ≤ 1073741824) (h2 : vo ≤ 7) (w : World) :
    Calls Tryd.prog 64 #[.agg #[.int .i64 1, .int .i64 tm, .int .i64 vo, .int .i64 0, .int .i64 0, .int .i64 0, .int .i64 0, .int .i64 0, .string .empty, .string .empty, .string .empty]] w fun e w' =>
      ∃ v', e = .returned v' ∧ Own w' w.heap.size v' (frameL (11 :: (numL tm ++ numL vo))) ∧ Below w.heap.size w w' := by
  have n1 := numL_len9 tm (by omega)
  have n2 := numL_len9 vo (by omega)
  have p1 := numL_pos tm
  have p2 := numL_pos vo
  have hL := Own.lit (w.alloc (.cells #[.int .i64 1, .int .i64 tm, .int .i64 vo, .int .i64 0, .int .i64 0, .int .i64 0, .int .i64 0, .int .i64 0, .string .empty, .string .empty, .string .empty] 93)) [11] #[.int .u8 11] rfl (by simp) (by simp [maxLen])
  simp only [World.size_alloc, List.length_cons, List.length_nil, Nat.zero_add] at hL
  have hB0 := ((Below.refl w.heap.size w).alloc (Nat.le_refl _) (.cells #[.int .i64 1, .int .i64 tm, .int .i64 vo, .int .i64 0, .int .i64 0, .int .i64 0, .int .i64 0, .int .i64 0, .string .empty, .string .empty, .string .empty] 93)).alloc (by simp) (.cells #[.int .u8 11] 5)
  have g1 : True := trivial
  have g2 : True := trivial
  go_enter Tryd.func64, Tryd.ntmps64
  go_wp2_with (first
    | (go_at_call 86; clear g1; refine (specNum_any tm (by omega) _).mono ?_; rintro e w1 ⟨v1, rfl, ho1, hb1⟩; replace hL := hL.below hb1; have c2 : w1.cell? ⟨w.heap.size, 2, none⟩ = some (.int .i64 vo) := ((bcell hb1).1 w.heap.size 2 (by simp; omega)).trans (by simp [go_sem]); have z1 : w.heap.size + 1 < w1.heap.size := (by have := hb1.size; simp at this; omega); replace hB0 := hB0.trans (hb1.mono (by simp; omega)))
    | (at_builtin; clear g2; refine wpl_append rfl (.tmp 12) (.tmp 15) rfl hL rfl (ho1.bs (by unfold maxLen; omega)) rfl p1 (by simp; omega) (by omega) ?_; intro v2 w2 ho2 hg2; have f2 : v2.ownBlock ≠ some w.heap.size := hg2.far (by omega) (by simp [Value.ownBlock]); replace c2 : w2.cell? ⟨w.heap.size, 2, none⟩ = some (.int .i64 vo) := (hg2.cell (k := w.heap.size) (o := 2) (by omega) (by simp [Value.ownBlock])).trans c2; have hb2 := hg2.below hL (by omega); have z2 := hb2.size; replace hB0 := hB0.trans (hb2.mono (by omega)))
    | (go_at_call 86; refine (specNum_any vo (by omega) _).mono ?_; rintro e w3 ⟨v3, rfl, ho3, hb3⟩; replace ho2 := ho2.below hb3; have z3 := hb3.size; replace hB0 := hB0.trans (hb3.mono (by omega)))
    | (at_builtin; refine wpl_append rfl (.tmp 17) (.tmp 20) rfl ho2 rfl (ho3.bs (by unfold maxLen; omega)) rfl p2 (by simp; omega) (by omega) ?_; intro v4 w4 ho4 hg4; have hb4 := hg4.below ho2 (by omega); have z4 := hb4.size; replace hB0 := hB0.trans (hb4.mono (by omega)))
    | (go_at_call 88; refine (specFrame_any _ _ _ (ho4.bs (by unfold maxLen; simp; omega)) (by simp) (by simp; omega)).mono ?_; rintro e w5 ⟨v5, rfl, ho5, hb5⟩; replace hB0 := hB0.trans (hb5.mono (by omega))))
  go_ret
  exact ⟨_, rfl, by have h := ho5.le (B' := w.heap.size) (by omega); simpa using h, hB0⟩

set_option maxHeartbeats 4000000 in
set_option maxRecDepth 100000 in
theorem recBytes_cut (ix : Nat) (h1 : ix ≤ 4096) (w : World) :
    Calls Tryd.prog 64 #[.agg #[.int .i64 3, .int .i64 0, .int .i64 0, .int .i64 ix, .int .i64 0, .int .i64 0, .int .i64 0, .int .i64 0, .string .empty, .string .empty, .string .empty]] w fun e w' =>
      ∃ v', e = .returned v' ∧ Own w' w.heap.size v' (frameL (13 :: numL ix)) ∧ Below w.heap.size w w' := by
  have n1 := numL_len9 ix (by omega)
  have p1 := numL_pos ix
  have hL := Own.lit (w.alloc (.cells #[.int .i64 3, .int .i64 0, .int .i64 0, .int .i64 ix, .int .i64 0, .int .i64 0, .int .i64 0, .int .i64 0, .string .empty, .string .empty, .string .empty] 93)) [13] #[.int .u8 13] rfl (by simp) (by simp [maxLen])
  simp only [World.size_alloc, List.length_cons, List.length_nil, Nat.zero_add] at hL
  have hB0 := ((Below.refl w.heap.size w).alloc (Nat.le_refl _) (.cells #[.int .i64 3, .int .i64 0, .int .i64 0, .int .i64 ix, .int .i64 0, .int .i64 0, .int .i64 0, .int .i64 0, .string .empty, .string .empty, .string .empty] 93)).alloc (by simp) (.cells #[.int .u8 13] 5)
  go_enter Tryd.func64, Tryd.ntmps64
  go_wp2_with (first
    | (go_at_call 86; refine (specNum_any ix (by omega) _).mono ?_; rintro e w1 ⟨v1, rfl, ho1, hb1⟩; replace hL := hL.below hb1; have c0 : w1.cell? ⟨w.heap.size, 0, none⟩ = some (.int .i64 3) := ((bcell hb1).1 w.heap.size 0 (by simp; omega)).trans (by simp [go_sem]); have z1 : w.heap.size + 1 < w1.heap.size := (by have := hb1.size; simp at this; omega); replace hB0 := hB0.trans (hb1.mono (by simp; omega)))
    | (at_builtin; refine wpl_append rfl (.tmp 22) (.tmp 25) rfl hL rfl (ho1.bs (by unfold maxLen; omega)) rfl p1 (by simp; omega) (by omega) ?_; intro v2 w2 ho2 hg2; replace c0 : w2.cell? ⟨w.heap.size, 0, none⟩ = some (.int .i64 3) := (hg2.cell (k := w.heap.size) (o := 0) (by omega) (by simp [Value.ownBlock])).trans c0; have hb2 := hg2.below hL (by omega); have z2 := hb2.size; replace hB0 := hB0.trans (hb2.mono (by omega)))
    | (go_at_call 88; refine (specFrame_any _ _ _ (ho2.bs (by unfold maxLen; simp; omega)) (by simp) (by simp; omega)).mono ?_; rintro e w5 ⟨v5, rfl, ho5, hb5⟩; replace hB0 := hB0.trans (hb5.mono (by omega))))
  go_ret
  exact ⟨_, rfl, by have h := ho5.le (B' := w.heap.size) (by omega); simpa using h, hB0⟩

set_option maxHeartbeats 4000000 in
set_option maxRecDepth 100000 in
theorem recBytes_add (ix t cl sq op : Nat) (k v o : ByteArray) (h1 : ix ≤ 4096) (h0 : t < 9223372036854775808) (h2 : cl < 9223372036854775808) (h3 : sq < 9223372036854775808) (h4 : op < 9223372036854775808) (hk : k.size ≤ 64) (hv : v.size ≤ 64) (ho : o.size ≤ 64) (w : World) :
    Calls Tryd.prog 64 #[.agg #[.int .i64 2, .int .i64 0, .int .i64 0, .int .i64 ix, .int .i64 t, .int .i64 cl, .int .i64 sq, .int .i64 op, .string k, .string v, .string o]] w fun e w' =>
      ∃ v', e = .returned v' ∧ Own w' w.heap.size v' (frameL (12 :: (numL ix ++ entN t cl sq op k v o))) ∧ Below w.heap.size w w' := by
  have n1 := numL_len9 ix (by omega)
  have p1 := numL_pos ix
  obtain ⟨q1, q2⟩ := entN_len t cl sq op k v o h0 h2 h3 h4 hk hv ho
  have hL := Own.lit (w.alloc (.cells #[.int .i64 2, .int .i64 0, .int .i64 0, .int .i64 ix, .int .i64 t, .int .i64 cl, .int .i64 sq, .int .i64 op, .string k, .string v, .string o] 93)) [12] #[.int .u8 12] rfl (by simp) (by simp [maxLen])
  simp only [World.size_alloc, List.length_cons, List.length_nil, Nat.zero_add] at hL
  have hB0 := ((Below.refl w.heap.size w).alloc (Nat.le_refl _) (.cells #[.int .i64 2, .int .i64 0, .int .i64 0, .int .i64 ix, .int .i64 t, .int .i64 cl, .int .i64 sq, .int .i64 op, .string k, .string v, .string o] 93)).alloc (by simp) (.cells #[.int .u8 12] 5)
  have g2 : True := trivial
  go_enter Tryd.func64, Tryd.ntmps64
  go_wp2_with (first
    | (go_at_call 86; refine (specNum_any ix (by omega) _).mono ?_; rintro e w1 ⟨v1, rfl, ho1, hb1⟩; replace hL := hL.below hb1; have hcc := (bcell hb1).1; have c0 : w1.cell? ⟨w.heap.size, 0, none⟩ = some (.int .i64 2) := (hcc w.heap.size 0 (by simp; omega)).trans (by simp [go_sem]); have c4 : w1.cell? ⟨w.heap.size, 4, none⟩ = some (.int .i64 t) := (hcc w.heap.size 4 (by simp; omega)).trans (by simp [go_sem]); have c5 : w1.cell? ⟨w.heap.size, 5, none⟩ = some (.int .i64 cl) := (hcc w.heap.size 5 (by simp; omega)).trans (by simp [go_sem]); have c6 : w1.cell? ⟨w.heap.size, 6, none⟩ = some (.int .i64 sq) := (hcc w.heap.size 6 (by simp; omega)).trans (by simp [go_sem]); have c7 : w1.cell? ⟨w.heap.size, 7, none⟩ = some (.int .i64 op) := (hcc w.heap.size 7 (by simp; omega)).trans (by simp [go_sem]); have c8 : w1.cell? ⟨w.heap.size, 8, none⟩ = some (.string k) := (hcc w.heap.size 8 (by simp; omega)).trans (by simp [go_sem]); have c9 : w1.cell? ⟨w.heap.size, 9, none⟩ = some (.string v) := (hcc w.heap.size 9 (by simp; omega)).trans (by simp [go_sem]); have c10 : w1.cell? ⟨w.heap.size, 10, none⟩ = some (.string o) := (hcc w.heap.size 10 (by simp; omega)).trans (by simp [go_sem]); have z1 : w.heap.size + 1 < w1.heap.size := (by have := hb1.size; simp at this; omega); replace hB0 := hB0.trans (hb1.mono (by simp; omega)); clear hcc)
    | (at_builtin; clear g2; refine wpl_append rfl (.tmp 22) (.tmp 25) rfl hL rfl (ho1.bs (by unfold maxLen; omega)) rfl p1 (by simp; omega) (by omega) ?_; intro v2 w2 ho2 hg2; have hcc := fun (o : Nat) => hg2.cell (k := w.heap.size) (o := o) (by omega) (by simp [Value.ownBlock]); replace c0 : w2.cell? ⟨w.heap.size, 0, none⟩ = some (.int .i64 2) := (hcc 0).trans c0; replace c4 : w2.cell? ⟨w.heap.size, 4, none⟩ = some (.int .i64 t) := (hcc 4).trans c4; replace c5 : w2.cell? ⟨w.heap.size, 5, none⟩ = some (.int .i64 cl) := (hcc 5).trans c5; replace c6 : w2.cell? ⟨w.heap.size, 6, none⟩ = some (.int .i64 sq) := (hcc 6).trans c6; replace c7 : w2.cell? ⟨w.heap.size, 7, none⟩ = some (.int .i64 op) := (hcc 7).trans c7; replace c8 : w2.cell? ⟨w.heap.size, 8, none⟩ = some (.string k) := (hcc 8).trans c8; replace c9 : w2.cell? ⟨w.heap.size, 9, none⟩ = some (.string v) := (hcc 9).trans c9; replace c10 : w2.cell? ⟨w.heap.size, 10, none⟩ = some (.string o) := (hcc 10).trans c10; have hb2 := hg2.below hL (by omega); have z2 := hb2.size; replace hB0 := hB0.trans (hb2.mono (by omega)); clear hcc)
    | (go_at_call 87; refine (specEntryBytes_nat t cl sq op k v o _ h0 h2 h3 h4 hk hv ho).mono ?_; rintro e w3 ⟨v3, rfl, ho3, hb3⟩; replace ho2 := ho2.below hb3; have z3 := hb3.size; replace hB0 := hB0.trans (hb3.mono (by omega)))
    | (at_builtin; refine wpl_append rfl (.tmp 30) (.tmp 33) rfl ho2 rfl (ho3.bs (by unfold maxLen; omega)) rfl q1 (by simp; omega) (by omega) ?_; intro v4 w4 ho4 hg4; have hb4 := hg4.below ho2 (by omega); have z4 := hb4.size; replace hB0 := hB0.trans (hb4.mono (by omega)))
    | (go_at_call 88; refine (specFrame_any _ _ _ (ho4.bs (by unfold maxLen; simp; omega)) (by simp) (by simp; omega)).mono ?_; rintro e w5 ⟨v5, rfl, ho5, hb5⟩; replace hB0 := hB0.trans (hb5.mono (by omega))))
  go_ret
  exact ⟨_, rfl, by have h := ho5.le (B' := w.heap.size) (by omega); simpa using h, hB0⟩

theorem recL_len {r : Rec} (h : recB r = true) : 0 < (recL r).length ∧ (recL r).length ≤ 400 ∧ (frameL (recL r)).length ≤ 408 := by
  have hh : 0 < (recL r).length ∧ (recL r).length ≤ 400 := by
    rcases recB_kinds h with ⟨k1, h1, h2, h3, h4, h5, h6, h7⟩ | ⟨k2, h1, h2, h3, h4, h5⟩ | ⟨k3, h1, h2, h3, h4, h5⟩
    · have n1 := numL_len9 r.tm.toNat (by omega)
      have n2 := numL_len9 r.vo.toNat (by omega)
      unfold recL; rw [if_pos k1]; simp; omega
    · have n1 := numL_len9 r.ix.toNat (by omega)
      obtain ⟨t, cl, sq, op, k, vl, o, e, a1, a2, a3, a4, a5, a6, a7, _⟩ := entB_nat h5
      obtain ⟨q1, q2⟩ := entN_len t cl sq op k vl o a1 a2 a3 a4 a5 a6 a7
      unfold recL; rw [if_neg (by omega), if_pos k2, e]; simp [entL]; omega
    · have n1 := numL_len9 r.ix.toNat (by omega)
      unfold recL; rw [if_neg (by omega), if_neg (by omega)]; simp; omega
  refine ⟨hh.1, hh.2, ?_⟩
  simp [frameL, wordL]; omega

theorem recBytes_any (r : Rec) (h : recB r = true) (w : World) :
    Calls Tryd.prog 64 #[.agg r.cells.toArray] w fun e w' => ∃ v', e = .returned v' ∧ Own w' w.heap.size v' (frameL (recL r)) ∧ Below w.heap.size w w' := by
  rcases recB_kinds h with ⟨k1, h1, h2, h3, h4, h5, h6, h7⟩ | ⟨k2, h1, h2, h3, h4, h5⟩ | ⟨k3, h1, h2, h3, h4, h5⟩
  · obtain ⟨ki, tm, vo, ix, e⟩ := r
    simp only at k1 h1 h2 h3 h4 h5 h6
    subst k1 h1 h2
    obtain ⟨tm, rfl⟩ := Int.eq_ofNat_of_zero_le h3
    obtain ⟨vo, rfl⟩ := Int.eq_ofNat_of_zero_le h5
    exact recBytes_hard tm vo (by omega) (by omega) w
  · obtain ⟨ki, tm, vo, ix, e⟩ := r
    simp only at k2 h1 h2 h3 h4 h5
    subst k2 h1 h2
    obtain ⟨ix, rfl⟩ := Int.eq_ofNat_of_zero_le (show 0 ≤ ix by omega)
    obtain ⟨t, cl, sq, op, k, vl, o, rfl, a1, a2, a3, a4, a5, a6, a7, _⟩ := entB_nat h5
    exact recBytes_add ix t cl sq op k vl o (by omega) a1 a2 a3 a4 a5 a6 a7 w
  · obtain ⟨ki, tm, vo, ix, e⟩ := r
    simp only at k3 h1 h2 h3 h4 h5
    subst k3 h1 h2 h3
    obtain ⟨ix, rfl⟩ := Int.eq_ofNat_of_zero_le h4
    exact recBytes_cut ix (by omega) w

end Go.Proofs.YtmbiccmndcchhagDoor
