/-
  The walk of the law FnExactStepClient.
-/
import Derived.Test.YtjhkfjmgdkcipacCliArg
import Derived.Test.YtjhkfjmgdkcipacRegInv
namespace Go.Proofs.Ytjhkfjmgdkcipac
open Go.RowKit
set_option linter.unusedVariables false
set_option linter.unusedSimpArgs false

theorem sizeLCli : (Try.prog.info? 67).map (·.size) = some 13 := by kernel_rfl
theorem sizeLCev : (Try.prog.info? 69).map (·.size) = some 13 := by kernel_rfl
set_option maxHeartbeats 8000000 in
set_option maxRecDepth 100000 in
theorem lawStepClient_walk (id sv rt sq bs tg wt ccl csq cop : Int) (ck cv co : ByteArray) (kd ecl esq eop : Int) (ek ev eo : ByteArray) (rcl rsq rst rcd : Int) (rv : ByteArray) (rld : Int) (hk : ck.size ≤ maxLen) (hv : cv.size ≤ maxLen) (ho : co.size ≤ maxLen) (mk : ek.size ≤ maxLen) (mv : ev.size ≤ maxLen) (mo : eo.size ≤ maxLen) (hrv : rv.size ≤ maxLen) (w : World) :
    Calls Try.prog 7 #[.agg #[.int .i64 id, .int .i64 sv, .int .i64 rt, .int .i64 sq, .int .i64 bs, .int .i64 tg, .int .i64 wt, .int .i64 ccl, .int .i64 csq, .int .i64 cop, .string ck, .string cv, .string co], .agg #[.int .i64 kd, .int .i64 ecl, .int .i64 esq, .int .i64 eop, .string ek, .string ev, .string eo, .int .i64 rcl, .int .i64 rsq, .int .i64 rst, .int .i64 rcd, .string rv, .int .i64 rld]] w fun e w' => e = .returned (.bool true) ∧ Below w.heap.size w w' := by
  obtain ⟨zc, zs, zd, zid, zsv, zrt, zsq, zbs, ztg, zwt, zccl, zcsq, zcop, zck, zcv, zco, hV⟩ := stepV_ans id sv rt sq bs tg wt ccl csq cop ck cv co kd ecl esq eop ek ev eo rcl rsq rst rcd rv rld
  have HSp : Hid (∀ u : World, Calls Try.prog 28 #[.agg #[.int .i64 id, .int .i64 sv, .int .i64 rt, .int .i64 sq, .int .i64 bs, .int .i64 tg, .int .i64 wt, .int .i64 ccl, .int .i64 csq, .int .i64 cop, .string ck, .string cv, .string co], .agg #[.int .i64 kd, .int .i64 ecl, .int .i64 esq, .int .i64 eop, .string ek, .string ev, .string eo, .int .i64 rcl, .int .i64 rsq, .int .i64 rst, .int .i64 rcd, .string rv, .int .i64 rld]] u fun e w' => e = .returned (.agg #[.int .i64 zc, .int .i64 zs, .int .i64 zd, .int .i64 zid, .int .i64 zsv, .int .i64 zrt, .int .i64 zsq, .int .i64 zbs, .int .i64 ztg, .int .i64 zwt, .int .i64 zccl, .int .i64 zcsq, .int .i64 zcop, .string zck, .string zcv, .string zco]) ∧ Below u.heap.size u w') := fun u => by rw [← hV]; exact sStepClient_any id sv rt sq bs tg wt ccl csq cop ck cv co kd ecl esq eop ek ev eo rcl rsq rst rcd rv rld hk hv ho mk mv mo hrv u
  have HIm : Hid (∀ u : World, Calls Try.prog 29 #[.agg #[.int .i64 id, .int .i64 sv, .int .i64 rt, .int .i64 sq, .int .i64 bs, .int .i64 tg, .int .i64 wt, .int .i64 ccl, .int .i64 csq, .int .i64 cop, .string ck, .string cv, .string co], .agg #[.int .i64 kd, .int .i64 ecl, .int .i64 esq, .int .i64 eop, .string ek, .string ev, .string eo, .int .i64 rcl, .int .i64 rsq, .int .i64 rst, .int .i64 rcd, .string rv, .int .i64 rld]] u fun e w' => e = .returned (.agg #[.int .i64 zc, .int .i64 zs, .int .i64 zd, .int .i64 zid, .int .i64 zsv, .int .i64 zrt, .int .i64 zsq, .int .i64 zbs, .int .i64 ztg, .int .i64 zwt, .int .i64 zccl, .int .i64 zcsq, .int .i64 zcop, .string zck, .string zcv, .string zco]) ∧ Below u.heap.size u w') := fun u => by rw [← hV]; exact stepClient_any id sv rt sq bs tg wt ccl csq cop ck cv co kd ecl esq eop ek ev eo rcl rsq rst rcd rv rld hk hv ho mk mv mo hrv u
  clear hV
  have g1 : True := trivial
  have g2 : True := trivial
  go_enter Try.func7, Try.ntmps7
  go_wp2_with (first
    | (refine gate_ld 67 (.tmp 2) rfl ?_; clear g1; refine wpl_load_blk rfl 67 (.tmp 2) rfl (w.heap.size) rfl ((Blk.new _ _ _).alloc _) Try.underlying67 rfl sizeLCli rfl ?_)
    | (go_at_call 30; refine (szClient_any id sv rt sq bs tg wt ccl csq cop ck cv co hk hv ho 1048576 (by omega) (by omega) _).mono ?_; rintro e w1 ⟨⟨s1, rfl, hs1⟩, hb1⟩; have hz1 : w.heap.size + 1 < w1.heap.size := (by have := hb1.size; simp at this; omega); have BA := ((Blk.new w _ _).alloc _).below hb1 (by simp; omega); have BE := (Blk.new' (w.alloc _) _ _ (k := w.heap.size + 1) (by simp)).below hb1 (by simp); have HB := (((Below.refl w.heap.size w).alloc (Nat.le_refl _) _).alloc (by simp) _).trans (hb1.mono (by simp; omega)); clear hb1)
    | (refine gate_ld 69 (.tmp 3) rfl ?_; clear g2; refine wpl_load_blk rfl 69 (.tmp 3) rfl (w.heap.size + 1) rfl BE Try.underlying69 rfl sizeLCev rfl ?_)
    | (go_at_call 31; refine (szClientEvent_any kd ecl esq eop ek ev eo rcl rsq rst rcd rv rld mk mv mo hrv _ (by omega) (by omega) _).mono ?_; rintro e w2 ⟨⟨s2, rfl, hs2⟩, hb2⟩; have hz2 : w.heap.size + 1 < w2.heap.size := (by have := hb2.size; omega); replace BA := BA.below hb2 (by omega); replace BE := BE.below hb2 (by omega); replace HB := HB.trans (hb2.mono (by omega)); clear hb2))
  all_goals try (go_ret; exact ⟨rfl, HB⟩)
  refine wp_named ?_
  intro a0 ha0
  have hsz0 : a0.tmps.size = 32 := by rw [ha0]; rfl
  have e2 : a0.eval (.tmp 2) = .pointer (some ⟨w.heap.size, 0, none⟩) := by rw [ha0]; rfl
  have e3 : a0.eval (.tmp 3) = .pointer (some ⟨w.heap.size + 1, 0, none⟩) := by rw [ha0]; rfl
  refine wp_region_inv (by kernel_rfl) (fun L a w' => ∃ x : Nat → Value, a = frame a0 [18, 19, 20, 21, 22, 6] x ∧ Below w2.heap.size w2 w' ∧ (L.getD 0 false = true → x 18 = .agg #[.int .i64 id, .int .i64 sv, .int .i64 rt, .int .i64 sq, .int .i64 bs, .int .i64 tg, .int .i64 wt, .int .i64 ccl, .int .i64 csq, .int .i64 cop, .string ck, .string cv, .string co]) ∧ (L.getD 1 false = true → x 19 = .agg #[.int .i64 id, .int .i64 sv, .int .i64 rt, .int .i64 sq, .int .i64 bs, .int .i64 tg, .int .i64 wt, .int .i64 ccl, .int .i64 csq, .int .i64 cop, .string ck, .string cv, .string co]) ∧ (L.getD 2 false = true → x 20 = .agg #[.int .i64 kd, .int .i64 ecl, .int .i64 esq, .int .i64 eop, .string ek, .string ev, .string eo, .int .i64 rcl, .int .i64 rsq, .int .i64 rst, .int .i64 rcd, .string rv, .int .i64 rld]) ∧ (L.getD 3 false = true → x 21 = .agg #[.int .i64 kd, .int .i64 ecl, .int .i64 esq, .int .i64 eop, .string ek, .string ev, .string eo, .int .i64 rcl, .int .i64 rsq, .int .i64 rst, .int .i64 rcd, .string rv, .int .i64 rld]) ∧ (L.getD 4 false = true → x 22 = .agg #[.int .i64 zc, .int .i64 zs, .int .i64 zd, .int .i64 zid, .int .i64 zsv, .int .i64 zrt, .int .i64 zsq, .int .i64 zbs, .int .i64 ztg, .int .i64 zwt, .int .i64 zccl, .int .i64 zcsq, .int .i64 zcop, .string zck, .string zcv, .string zco]) ∧ (L.getD 5 false = true → ∃ p C, x 6 = .pointer (some ⟨p, 0, none⟩) ∧ w2.heap.size ≤ p ∧ Blk w' p C 60 ∧ C.size = 16 ∧ (L.getD 6 false = true → C = #[.int .i64 zc, .int .i64 zs, .int .i64 zd, .int .i64 zid, .int .i64 zsv, .int .i64 zrt, .int .i64 zsq, .int .i64 zbs, .int .i64 ztg, .int .i64 zwt, .int .i64 zccl, .int .i64 zcsq, .int .i64 zcop, .string zck, .string zcv, .string zco])) ∧ (L.getD 6 false = true → L.getD 5 false = true)) ?_ ?_ ?_
  · exact ⟨_, frame_self a0 [18, 19, 20, 21, 22, 6], (Below.refl _ _).drew, fun h => (noBit h).elim, fun h => (noBit h).elim, fun h => (noBit h).elim, fun h => (noBit h).elim, fun h => (noBit h).elim, fun h => (noBit h).elim, fun h => (noBit h).elim⟩
  · rintro L a w' i hsL hi ⟨x, rfl, hB, h0, h1, h2, h3, h4, h5, h6⟩
    have hiL : i < 7 := (ready_mem hsL hi).1
    have hL : L.size = 7 := hsL
    have hw' : w2.heap.size ≤ w'.heap.size := hB.size
    rcases (show i = 0 ∨ i = 1 ∨ i = 2 ∨ i = 3 ∨ i = 4 ∨ i = 5 ∨ i = 6 by omega) with rfl | rfl | rfl | rfl | rfl | rfl | rfl
    · skip
      refine wpOp_plain rfl rfl (wp_load_blk 67 (.tmp 2) rfl (w.heap.size) ((frame_eval _ _ _ 2 rfl).trans e2) (BA.below hB (by omega)) Try.underlying67 rfl sizeLCli rfl ?_)
      exact ⟨_, frame_put _ _ _ 18 _ rfl, hB, fun h => upd_same _ _ _, fun h => by rw [upd_ne _ _ _ _ (by decide)]; exact (h1 (keepBit h (by omega) (by decide))), fun h => by rw [upd_ne _ _ _ _ (by decide)]; exact (h2 (keepBit h (by omega) (by decide))), fun h => by rw [upd_ne _ _ _ _ (by decide)]; exact (h3 (keepBit h (by omega) (by decide))), fun h => by rw [upd_ne _ _ _ _ (by decide)]; exact (h4 (keepBit h (by omega) (by decide))), fun h => by obtain ⟨p, C, ep, hp, hP, hC, hR⟩ := h5 (keepBit h (by omega) (by decide)); exact ⟨p, C, (upd_ne _ _ _ _ (by decide)).trans ep, hp, hP, hC, fun hq6 => (hR (keepBit hq6 (by omega) (by decide)))⟩, fun h => setBit (h6 (keepBit h (by omega) (by decide))) (by omega)⟩
    · have d0 := h0 (ready_needs hi (by decide))
      have ev18 := (frame_eval_in a0 [18, 19, 20, 21, 22, 6] x 18 rfl (by omega)).trans d0
      refine wpOp_plain rfl rfl (wp_call_go (N := 32) rfl (fun _ _ => by go_simp) #[.agg #[.int .i64 id, .int .i64 sv, .int .i64 rt, .int .i64 sq, .int .i64 bs, .int .i64 tg, .int .i64 wt, .int .i64 ccl, .int .i64 csq, .int .i64 cop, .string ck, .string cv, .string co]] (by simp only [List.map_toArray, List.map_cons, List.map_nil, ev18]) ?_)
      refine Calls.mono (toClient_any id sv rt sq bs tg wt ccl csq cop ck cv co _) ?_
      rintro e w2 ⟨rfl, hb⟩
      refine ⟨_, rfl, ?_⟩
      exact ⟨_, frame_put _ _ _ 19 _ rfl, hB.trans (hb.mono hw'), fun h => by rw [upd_ne _ _ _ _ (by decide)]; exact (h0 (keepBit h (by omega) (by decide))), fun h => upd_same _ _ _, fun h => by rw [upd_ne _ _ _ _ (by decide)]; exact (h2 (keepBit h (by omega) (by decide))), fun h => by rw [upd_ne _ _ _ _ (by decide)]; exact (h3 (keepBit h (by omega) (by decide))), fun h => by rw [upd_ne _ _ _ _ (by decide)]; exact (h4 (keepBit h (by omega) (by decide))), fun h => by obtain ⟨p, C, ep, hp, hP, hC, hR⟩ := h5 (keepBit h (by omega) (by decide)); exact ⟨p, C, (upd_ne _ _ _ _ (by decide)).trans ep, hp, hP.below hb hP.lt, hC, fun hq6 => (hR (keepBit hq6 (by omega) (by decide)))⟩, fun h => setBit (h6 (keepBit h (by omega) (by decide))) (by omega)⟩
    · skip
      refine wpOp_plain rfl rfl (wp_load_blk 69 (.tmp 3) rfl (w.heap.size + 1) ((frame_eval _ _ _ 3 rfl).trans e3) (BE.below hB (by omega)) Try.underlying69 rfl sizeLCev rfl ?_)
      exact ⟨_, frame_put _ _ _ 20 _ rfl, hB, fun h => by rw [upd_ne _ _ _ _ (by decide)]; exact (h0 (keepBit h (by omega) (by decide))), fun h => by rw [upd_ne _ _ _ _ (by decide)]; exact (h1 (keepBit h (by omega) (by decide))), fun h => upd_same _ _ _, fun h => by rw [upd_ne _ _ _ _ (by decide)]; exact (h3 (keepBit h (by omega) (by decide))), fun h => by rw [upd_ne _ _ _ _ (by decide)]; exact (h4 (keepBit h (by omega) (by decide))), fun h => by obtain ⟨p, C, ep, hp, hP, hC, hR⟩ := h5 (keepBit h (by omega) (by decide)); exact ⟨p, C, (upd_ne _ _ _ _ (by decide)).trans ep, hp, hP, hC, fun hq6 => (hR (keepBit hq6 (by omega) (by decide)))⟩, fun h => setBit (h6 (keepBit h (by omega) (by decide))) (by omega)⟩
    · have d2 := h2 (ready_needs hi (by decide))
      have ev20 := (frame_eval_in a0 [18, 19, 20, 21, 22, 6] x 20 rfl (by omega)).trans d2
      refine wpOp_plain rfl rfl (wp_call_go (N := 33) rfl (fun _ _ => by go_simp) #[.agg #[.int .i64 kd, .int .i64 ecl, .int .i64 esq, .int .i64 eop, .string ek, .string ev, .string eo, .int .i64 rcl, .int .i64 rsq, .int .i64 rst, .int .i64 rcd, .string rv, .int .i64 rld]] (by simp only [List.map_toArray, List.map_cons, List.map_nil, ev20]) ?_)
      refine Calls.mono (toClientEvent_any kd ecl esq eop ek ev eo rcl rsq rst rcd rv rld _) ?_
      rintro e w2 ⟨rfl, hb⟩
      refine ⟨_, rfl, ?_⟩
      exact ⟨_, frame_put _ _ _ 21 _ rfl, hB.trans (hb.mono hw'), fun h => by rw [upd_ne _ _ _ _ (by decide)]; exact (h0 (keepBit h (by omega) (by decide))), fun h => by rw [upd_ne _ _ _ _ (by decide)]; exact (h1 (keepBit h (by omega) (by decide))), fun h => by rw [upd_ne _ _ _ _ (by decide)]; exact (h2 (keepBit h (by omega) (by decide))), fun h => upd_same _ _ _, fun h => by rw [upd_ne _ _ _ _ (by decide)]; exact (h4 (keepBit h (by omega) (by decide))), fun h => by obtain ⟨p, C, ep, hp, hP, hC, hR⟩ := h5 (keepBit h (by omega) (by decide)); exact ⟨p, C, (upd_ne _ _ _ _ (by decide)).trans ep, hp, hP.below hb hP.lt, hC, fun hq6 => (hR (keepBit hq6 (by omega) (by decide)))⟩, fun h => setBit (h6 (keepBit h (by omega) (by decide))) (by omega)⟩
    · have d1 := h1 (ready_needs hi (by decide))
      have d3 := h3 (ready_needs hi (by decide))
      have ev19 := (frame_eval_in a0 [18, 19, 20, 21, 22, 6] x 19 rfl (by omega)).trans d1
      have ev21 := (frame_eval_in a0 [18, 19, 20, 21, 22, 6] x 21 rfl (by omega)).trans d3
      refine wpOp_plain rfl rfl (wp_call_go (N := 28) rfl (fun _ _ => by go_simp) #[.agg #[.int .i64 id, .int .i64 sv, .int .i64 rt, .int .i64 sq, .int .i64 bs, .int .i64 tg, .int .i64 wt, .int .i64 ccl, .int .i64 csq, .int .i64 cop, .string ck, .string cv, .string co], .agg #[.int .i64 kd, .int .i64 ecl, .int .i64 esq, .int .i64 eop, .string ek, .string ev, .string eo, .int .i64 rcl, .int .i64 rsq, .int .i64 rst, .int .i64 rcd, .string rv, .int .i64 rld]] (by simp only [List.map_toArray, List.map_cons, List.map_nil, ev19, ev21]) ?_)
      refine Calls.mono (HSp.out _) ?_
      rintro e w2 ⟨rfl, hb⟩
      refine ⟨_, rfl, ?_⟩
      exact ⟨_, frame_put _ _ _ 22 _ rfl, hB.trans (hb.mono hw'), fun h => by rw [upd_ne _ _ _ _ (by decide)]; exact (h0 (keepBit h (by omega) (by decide))), fun h => by rw [upd_ne _ _ _ _ (by decide)]; exact (h1 (keepBit h (by omega) (by decide))), fun h => by rw [upd_ne _ _ _ _ (by decide)]; exact (h2 (keepBit h (by omega) (by decide))), fun h => by rw [upd_ne _ _ _ _ (by decide)]; exact (h3 (keepBit h (by omega) (by decide))), fun h => upd_same _ _ _, fun h => by obtain ⟨p, C, ep, hp, hP, hC, hR⟩ := h5 (keepBit h (by omega) (by decide)); exact ⟨p, C, (upd_ne _ _ _ _ (by decide)).trans ep, hp, hP.below hb hP.lt, hC, fun hq6 => (hR (keepBit hq6 (by omega) (by decide)))⟩, fun h => setBit (h6 (keepBit h (by omega) (by decide))) (by omega)⟩
    · skip
      refine wpOp_plain rfl rfl (wp_alloc_go 60 #[.int .i64 0, .int .i64 0, .int .i64 0, .int .i64 0, .int .i64 0, .int .i64 0, .int .i64 0, .int .i64 0, .int .i64 0, .int .i64 0, .int .i64 0, .int .i64 0, .int .i64 0, .string ⟨#[]⟩, .string ⟨#[]⟩, .string ⟨#[]⟩] rfl (fun _ => by go_simp) ?_)
      have hb : Below w'.heap.size w' (w'.alloc (.cells #[.int .i64 0, .int .i64 0, .int .i64 0, .int .i64 0, .int .i64 0, .int .i64 0, .int .i64 0, .int .i64 0, .int .i64 0, .int .i64 0, .int .i64 0, .int .i64 0, .int .i64 0, .string ⟨#[]⟩, .string ⟨#[]⟩, .string ⟨#[]⟩] 60)) := (Below.refl _ _).alloc (Nat.le_refl _) _
      exact ⟨_, frame_put _ _ _ 6 _ rfl, hB.alloc hw' _, fun h => by rw [upd_ne _ _ _ _ (by decide)]; exact (h0 (keepBit h (by omega) (by decide))), fun h => by rw [upd_ne _ _ _ _ (by decide)]; exact (h1 (keepBit h (by omega) (by decide))), fun h => by rw [upd_ne _ _ _ _ (by decide)]; exact (h2 (keepBit h (by omega) (by decide))), fun h => by rw [upd_ne _ _ _ _ (by decide)]; exact (h3 (keepBit h (by omega) (by decide))), fun h => by rw [upd_ne _ _ _ _ (by decide)]; exact (h4 (keepBit h (by omega) (by decide))), fun h => ⟨_, _, upd_same _ _ _, hw', Blk.new _ _ _, rfl, fun hq6 => (readyBit hsL hi (h6 (keepBit hq6 (by omega) (by decide)))).elim⟩, fun h => setSelf (by omega)⟩
    · have d4 := h4 (ready_needs hi (by decide))
      have d5 := h5 (ready_needs hi (by decide))
      obtain ⟨p, C, ep, hp, hP, hC, hR⟩ := d5
      have evp := (frame_eval_in a0 [18, 19, 20, 21, 22, 6] x 6 rfl (by omega)).trans ep
      have evs := (frame_eval_in a0 [18, 19, 20, 21, 22, 6] x 22 rfl (by omega)).trans d4
      refine wpOp_plain rfl rfl (wp_store_blk 60 (.tmp 6) (.tmp 22) rfl p evp evs hP sizeCliA rfl hC (by simp [Value.oneCell']) ?_)
      exact ⟨_, rfl, below_row hB hp _, fun h => (h0 (keepBit h (by omega) (by decide))), fun h => (h1 (keepBit h (by omega) (by decide))), fun h => (h2 (keepBit h (by omega) (by decide))), fun h => (h3 (keepBit h (by omega) (by decide))), fun h => (h4 (keepBit h (by omega) (by decide))), fun h => ⟨p, _, ep, hp, hP.row _, rfl, fun _ => rfl⟩, fun h => setBit (ready_needs hi (by decide)) (by omega)⟩
  · rintro L a w' hsL hr ⟨x, rfl, hB, h0, h1, h2, h3, h4, h5, h6⟩
    have hall := ready_nil hsL hr (by decide)
    replace h0 := h0 (hall 0 (by decide))
    replace h1 := h1 (hall 1 (by decide))
    replace h2 := h2 (hall 2 (by decide))
    replace h3 := h3 (hall 3 (by decide))
    replace h4 := h4 (hall 4 (by decide))
    replace h5 := h5 (hall 5 (by decide))
    replace h6 := h6 (hall 6 (by decide))
    obtain ⟨p, C, ep, hp, hP, hC, hR⟩ := h5
    replace hR := hR (hall 6 (by decide))
    rw [ha0]
    simp only [frame, List.zipIdx_cons, List.zipIdx_nil, List.map_cons, List.map_nil, List.contains_cons, List.contains_nil, Nat.reduceBEq, Nat.reduceAdd, Bool.or_false, Bool.false_or, Bool.or_true, Bool.true_or, Bool.false_eq_true, if_false, if_true, h0, h1, h2, h3, h4, ep]
    subst hR
    replace BA := BA.below hB (by omega)
    replace BE := BE.below hB (by omega)
    replace HB := HB.trans (hB.mono (by omega))
    have hz3 := hB.size
    have hpl := hP.lt
    have hpw : w.heap.size + 1 < p := by omega
    clear h0 h1 h2 h3 h4 h6 hall hr hsL ep hB ha0 hsz0 e2 e3 hC hp
    clear x L a0
    obtain ⟨p1, hp1⟩ : ∃ q, q = p := ⟨_, rfl⟩
    subst hp1
    obtain ⟨w3, hw3⟩ : ∃ q, q = w' := ⟨_, rfl⟩
    subst hw3
    have PW := hP
    clear hP
    go_wp2
    refine wp_named ?_
    intro a0 ha0
    have hsz0 : a0.tmps.size = 32 := by rw [ha0]; rfl
    have e2 : a0.eval (.tmp 2) = .pointer (some ⟨w.heap.size, 0, none⟩) := by rw [ha0]; rfl
    have e3 : a0.eval (.tmp 3) = .pointer (some ⟨w.heap.size + 1, 0, none⟩) := by rw [ha0]; rfl
    refine wp_region_inv (by kernel_rfl) (fun L a w' => ∃ x : Nat → Value, a = frame a0 [23, 24, 25, 26, 27, 7] x ∧ Below w3.heap.size w3 w' ∧ (L.getD 0 false = true → x 23 = .agg #[.int .i64 id, .int .i64 sv, .int .i64 rt, .int .i64 sq, .int .i64 bs, .int .i64 tg, .int .i64 wt, .int .i64 ccl, .int .i64 csq, .int .i64 cop, .string ck, .string cv, .string co]) ∧ (L.getD 1 false = true → x 24 = .agg #[.int .i64 id, .int .i64 sv, .int .i64 rt, .int .i64 sq, .int .i64 bs, .int .i64 tg, .int .i64 wt, .int .i64 ccl, .int .i64 csq, .int .i64 cop, .string ck, .string cv, .string co]) ∧ (L.getD 2 false = true → x 25 = .agg #[.int .i64 kd, .int .i64 ecl, .int .i64 esq, .int .i64 eop, .string ek, .string ev, .string eo, .int .i64 rcl, .int .i64 rsq, .int .i64 rst, .int .i64 rcd, .string rv, .int .i64 rld]) ∧ (L.getD 3 false = true → x 26 = .agg #[.int .i64 kd, .int .i64 ecl, .int .i64 esq, .int .i64 eop, .string ek, .string ev, .string eo, .int .i64 rcl, .int .i64 rsq, .int .i64 rst, .int .i64 rcd, .string rv, .int .i64 rld]) ∧ (L.getD 4 false = true → x 27 = .agg #[.int .i64 zc, .int .i64 zs, .int .i64 zd, .int .i64 zid, .int .i64 zsv, .int .i64 zrt, .int .i64 zsq, .int .i64 zbs, .int .i64 ztg, .int .i64 zwt, .int .i64 zccl, .int .i64 zcsq, .int .i64 zcop, .string zck, .string zcv, .string zco]) ∧ (L.getD 5 false = true → ∃ p C, x 7 = .pointer (some ⟨p, 0, none⟩) ∧ w3.heap.size ≤ p ∧ Blk w' p C 60 ∧ C.size = 16 ∧ (L.getD 6 false = true → C = #[.int .i64 zc, .int .i64 zs, .int .i64 zd, .int .i64 zid, .int .i64 zsv, .int .i64 zrt, .int .i64 zsq, .int .i64 zbs, .int .i64 ztg, .int .i64 zwt, .int .i64 zccl, .int .i64 zcsq, .int .i64 zcop, .string zck, .string zcv, .string zco])) ∧ (L.getD 6 false = true → L.getD 5 false = true)) ?_ ?_ ?_
    · exact ⟨_, frame_self a0 [23, 24, 25, 26, 27, 7], (Below.refl _ _).drew, fun h => (noBit h).elim, fun h => (noBit h).elim, fun h => (noBit h).elim, fun h => (noBit h).elim, fun h => (noBit h).elim, fun h => (noBit h).elim, fun h => (noBit h).elim⟩
    · rintro L a w' i hsL hi ⟨x, rfl, hB, h0, h1, h2, h3, h4, h5, h6⟩
      have hiL : i < 7 := (ready_mem hsL hi).1
      have hL : L.size = 7 := hsL
      have hw' : w3.heap.size ≤ w'.heap.size := hB.size
      rcases (show i = 0 ∨ i = 1 ∨ i = 2 ∨ i = 3 ∨ i = 4 ∨ i = 5 ∨ i = 6 by omega) with rfl | rfl | rfl | rfl | rfl | rfl | rfl
      · skip
        refine wpOp_plain rfl rfl (wp_load_blk 67 (.tmp 2) rfl (w.heap.size) ((frame_eval _ _ _ 2 rfl).trans e2) (BA.below hB (by omega)) Try.underlying67 rfl sizeLCli rfl ?_)
        exact ⟨_, frame_put _ _ _ 23 _ rfl, hB, fun h => upd_same _ _ _, fun h => by rw [upd_ne _ _ _ _ (by decide)]; exact (h1 (keepBit h (by omega) (by decide))), fun h => by rw [upd_ne _ _ _ _ (by decide)]; exact (h2 (keepBit h (by omega) (by decide))), fun h => by rw [upd_ne _ _ _ _ (by decide)]; exact (h3 (keepBit h (by omega) (by decide))), fun h => by rw [upd_ne _ _ _ _ (by decide)]; exact (h4 (keepBit h (by omega) (by decide))), fun h => by obtain ⟨p, C, ep, hp, hP, hC, hR⟩ := h5 (keepBit h (by omega) (by decide)); exact ⟨p, C, (upd_ne _ _ _ _ (by decide)).trans ep, hp, hP, hC, fun hq6 => (hR (keepBit hq6 (by omega) (by decide)))⟩, fun h => setBit (h6 (keepBit h (by omega) (by decide))) (by omega)⟩
      · have d0 := h0 (ready_needs hi (by decide))
        have ev23 := (frame_eval_in a0 [23, 24, 25, 26, 27, 7] x 23 rfl (by omega)).trans d0
        refine wpOp_plain rfl rfl (wp_call_go (N := 32) rfl (fun _ _ => by go_simp) #[.agg #[.int .i64 id, .int .i64 sv, .int .i64 rt, .int .i64 sq, .int .i64 bs, .int .i64 tg, .int .i64 wt, .int .i64 ccl, .int .i64 csq, .int .i64 cop, .string ck, .string cv, .string co]] (by simp only [List.map_toArray, List.map_cons, List.map_nil, ev23]) ?_)
        refine Calls.mono (toClient_any id sv rt sq bs tg wt ccl csq cop ck cv co _) ?_
        rintro e w2 ⟨rfl, hb⟩
        refine ⟨_, rfl, ?_⟩
        exact ⟨_, frame_put _ _ _ 24 _ rfl, hB.trans (hb.mono hw'), fun h => by rw [upd_ne _ _ _ _ (by decide)]; exact (h0 (keepBit h (by omega) (by decide))), fun h => upd_same _ _ _, fun h => by rw [upd_ne _ _ _ _ (by decide)]; exact (h2 (keepBit h (by omega) (by decide))), fun h => by rw [upd_ne _ _ _ _ (by decide)]; exact (h3 (keepBit h (by omega) (by decide))), fun h => by rw [upd_ne _ _ _ _ (by decide)]; exact (h4 (keepBit h (by omega) (by decide))), fun h => by obtain ⟨p, C, ep, hp, hP, hC, hR⟩ := h5 (keepBit h (by omega) (by decide)); exact ⟨p, C, (upd_ne _ _ _ _ (by decide)).trans ep, hp, hP.below hb hP.lt, hC, fun hq6 => (hR (keepBit hq6 (by omega) (by decide)))⟩, fun h => setBit (h6 (keepBit h (by omega) (by decide))) (by omega)⟩
      · skip
        refine wpOp_plain rfl rfl (wp_load_blk 69 (.tmp 3) rfl (w.heap.size + 1) ((frame_eval _ _ _ 3 rfl).trans e3) (BE.below hB (by omega)) Try.underlying69 rfl sizeLCev rfl ?_)
        exact ⟨_, frame_put _ _ _ 25 _ rfl, hB, fun h => by rw [upd_ne _ _ _ _ (by decide)]; exact (h0 (keepBit h (by omega) (by decide))), fun h => by rw [upd_ne _ _ _ _ (by decide)]; exact (h1 (keepBit h (by omega) (by decide))), fun h => upd_same _ _ _, fun h => by rw [upd_ne _ _ _ _ (by decide)]; exact (h3 (keepBit h (by omega) (by decide))), fun h => by rw [upd_ne _ _ _ _ (by decide)]; exact (h4 (keepBit h (by omega) (by decide))), fun h => by obtain ⟨p, C, ep, hp, hP, hC, hR⟩ := h5 (keepBit h (by omega) (by decide)); exact ⟨p, C, (upd_ne _ _ _ _ (by decide)).trans ep, hp, hP, hC, fun hq6 => (hR (keepBit hq6 (by omega) (by decide)))⟩, fun h => setBit (h6 (keepBit h (by omega) (by decide))) (by omega)⟩
      · have d2 := h2 (ready_needs hi (by decide))
        have ev25 := (frame_eval_in a0 [23, 24, 25, 26, 27, 7] x 25 rfl (by omega)).trans d2
        refine wpOp_plain rfl rfl (wp_call_go (N := 33) rfl (fun _ _ => by go_simp) #[.agg #[.int .i64 kd, .int .i64 ecl, .int .i64 esq, .int .i64 eop, .string ek, .string ev, .string eo, .int .i64 rcl, .int .i64 rsq, .int .i64 rst, .int .i64 rcd, .string rv, .int .i64 rld]] (by simp only [List.map_toArray, List.map_cons, List.map_nil, ev25]) ?_)
        refine Calls.mono (toClientEvent_any kd ecl esq eop ek ev eo rcl rsq rst rcd rv rld _) ?_
        rintro e w2 ⟨rfl, hb⟩
        refine ⟨_, rfl, ?_⟩
        exact ⟨_, frame_put _ _ _ 26 _ rfl, hB.trans (hb.mono hw'), fun h => by rw [upd_ne _ _ _ _ (by decide)]; exact (h0 (keepBit h (by omega) (by decide))), fun h => by rw [upd_ne _ _ _ _ (by decide)]; exact (h1 (keepBit h (by omega) (by decide))), fun h => by rw [upd_ne _ _ _ _ (by decide)]; exact (h2 (keepBit h (by omega) (by decide))), fun h => upd_same _ _ _, fun h => by rw [upd_ne _ _ _ _ (by decide)]; exact (h4 (keepBit h (by omega) (by decide))), fun h => by obtain ⟨p, C, ep, hp, hP, hC, hR⟩ := h5 (keepBit h (by omega) (by decide)); exact ⟨p, C, (upd_ne _ _ _ _ (by decide)).trans ep, hp, hP.below hb hP.lt, hC, fun hq6 => (hR (keepBit hq6 (by omega) (by decide)))⟩, fun h => setBit (h6 (keepBit h (by omega) (by decide))) (by omega)⟩
      · have d1 := h1 (ready_needs hi (by decide))
        have d3 := h3 (ready_needs hi (by decide))
        have ev24 := (frame_eval_in a0 [23, 24, 25, 26, 27, 7] x 24 rfl (by omega)).trans d1
        have ev26 := (frame_eval_in a0 [23, 24, 25, 26, 27, 7] x 26 rfl (by omega)).trans d3
        refine wpOp_plain rfl rfl (wp_call_go (N := 29) rfl (fun _ _ => by go_simp) #[.agg #[.int .i64 id, .int .i64 sv, .int .i64 rt, .int .i64 sq, .int .i64 bs, .int .i64 tg, .int .i64 wt, .int .i64 ccl, .int .i64 csq, .int .i64 cop, .string ck, .string cv, .string co], .agg #[.int .i64 kd, .int .i64 ecl, .int .i64 esq, .int .i64 eop, .string ek, .string ev, .string eo, .int .i64 rcl, .int .i64 rsq, .int .i64 rst, .int .i64 rcd, .string rv, .int .i64 rld]] (by simp only [List.map_toArray, List.map_cons, List.map_nil, ev24, ev26]) ?_)
        refine Calls.mono (HIm.out _) ?_
        rintro e w2 ⟨rfl, hb⟩
        refine ⟨_, rfl, ?_⟩
        exact ⟨_, frame_put _ _ _ 27 _ rfl, hB.trans (hb.mono hw'), fun h => by rw [upd_ne _ _ _ _ (by decide)]; exact (h0 (keepBit h (by omega) (by decide))), fun h => by rw [upd_ne _ _ _ _ (by decide)]; exact (h1 (keepBit h (by omega) (by decide))), fun h => by rw [upd_ne _ _ _ _ (by decide)]; exact (h2 (keepBit h (by omega) (by decide))), fun h => by rw [upd_ne _ _ _ _ (by decide)]; exact (h3 (keepBit h (by omega) (by decide))), fun h => upd_same _ _ _, fun h => by obtain ⟨p, C, ep, hp, hP, hC, hR⟩ := h5 (keepBit h (by omega) (by decide)); exact ⟨p, C, (upd_ne _ _ _ _ (by decide)).trans ep, hp, hP.below hb hP.lt, hC, fun hq6 => (hR (keepBit hq6 (by omega) (by decide)))⟩, fun h => setBit (h6 (keepBit h (by omega) (by decide))) (by omega)⟩
      · skip
        refine wpOp_plain rfl rfl (wp_alloc_go 60 #[.int .i64 0, .int .i64 0, .int .i64 0, .int .i64 0, .int .i64 0, .int .i64 0, .int .i64 0, .int .i64 0, .int .i64 0, .int .i64 0, .int .i64 0, .int .i64 0, .int .i64 0, .string ⟨#[]⟩, .string ⟨#[]⟩, .string ⟨#[]⟩] rfl (fun _ => by go_simp) ?_)
        have hb : Below w'.heap.size w' (w'.alloc (.cells #[.int .i64 0, .int .i64 0, .int .i64 0, .int .i64 0, .int .i64 0, .int .i64 0, .int .i64 0, .int .i64 0, .int .i64 0, .int .i64 0, .int .i64 0, .int .i64 0, .int .i64 0, .string ⟨#[]⟩, .string ⟨#[]⟩, .string ⟨#[]⟩] 60)) := (Below.refl _ _).alloc (Nat.le_refl _) _
        exact ⟨_, frame_put _ _ _ 7 _ rfl, hB.alloc hw' _, fun h => by rw [upd_ne _ _ _ _ (by decide)]; exact (h0 (keepBit h (by omega) (by decide))), fun h => by rw [upd_ne _ _ _ _ (by decide)]; exact (h1 (keepBit h (by omega) (by decide))), fun h => by rw [upd_ne _ _ _ _ (by decide)]; exact (h2 (keepBit h (by omega) (by decide))), fun h => by rw [upd_ne _ _ _ _ (by decide)]; exact (h3 (keepBit h (by omega) (by decide))), fun h => by rw [upd_ne _ _ _ _ (by decide)]; exact (h4 (keepBit h (by omega) (by decide))), fun h => ⟨_, _, upd_same _ _ _, hw', Blk.new _ _ _, rfl, fun hq6 => (readyBit hsL hi (h6 (keepBit hq6 (by omega) (by decide)))).elim⟩, fun h => setSelf (by omega)⟩
      · have d4 := h4 (ready_needs hi (by decide))
        have d5 := h5 (ready_needs hi (by decide))
        obtain ⟨p, C, ep, hp, hP, hC, hR⟩ := d5
        have evp := (frame_eval_in a0 [23, 24, 25, 26, 27, 7] x 7 rfl (by omega)).trans ep
        have evs := (frame_eval_in a0 [23, 24, 25, 26, 27, 7] x 27 rfl (by omega)).trans d4
        refine wpOp_plain rfl rfl (wp_store_blk 60 (.tmp 7) (.tmp 27) rfl p evp evs hP sizeCliA rfl hC (by simp [Value.oneCell']) ?_)
        exact ⟨_, rfl, below_row hB hp _, fun h => (h0 (keepBit h (by omega) (by decide))), fun h => (h1 (keepBit h (by omega) (by decide))), fun h => (h2 (keepBit h (by omega) (by decide))), fun h => (h3 (keepBit h (by omega) (by decide))), fun h => (h4 (keepBit h (by omega) (by decide))), fun h => ⟨p, _, ep, hp, hP.row _, rfl, fun _ => rfl⟩, fun h => setBit (ready_needs hi (by decide)) (by omega)⟩
    · rintro L a w' hsL hr ⟨x, rfl, hB, h0, h1, h2, h3, h4, h5, h6⟩
      have hall := ready_nil hsL hr (by decide)
      replace h0 := h0 (hall 0 (by decide))
      replace h1 := h1 (hall 1 (by decide))
      replace h2 := h2 (hall 2 (by decide))
      replace h3 := h3 (hall 3 (by decide))
      replace h4 := h4 (hall 4 (by decide))
      replace h5 := h5 (hall 5 (by decide))
      replace h6 := h6 (hall 6 (by decide))
      obtain ⟨p, C, ep, hp, hP, hC, hR⟩ := h5
      replace hR := hR (hall 6 (by decide))
      rw [ha0]
      simp only [frame, List.zipIdx_cons, List.zipIdx_nil, List.map_cons, List.map_nil, List.contains_cons, List.contains_nil, Nat.reduceBEq, Nat.reduceAdd, Bool.or_false, Bool.false_or, Bool.or_true, Bool.true_or, Bool.false_eq_true, if_false, if_true, h0, h1, h2, h3, h4, ep]
      subst hR
      replace PW := PW.below hB (by omega)
      replace HB := HB.trans (hB.mono (by omega))
      have hz4 := hB.size
      have hpl2 := hP.lt
      go_wp2_with (first
        | (refine gate_ld 60 (.tmp 7) rfl ?_; refine wpl_load_blk rfl 60 (.tmp 7) rfl p rfl hP Try.underlying60 rfl sizeCliA rfl ?_)
        | (refine gate_ld 60 (.tmp 6) rfl ?_; refine wpl_load_blk rfl 60 (.tmp 6) rfl p1 rfl PW Try.underlying60 rfl sizeCliA rfl ?_)
        | (go_at_call 34; refine (eqClientAnswer_same _ _ _ _ _ _ _ _ _ _ _ _ _ _ _ _ _).mono ?_; rintro e w5 ⟨rfl, hb5⟩; replace HB := HB.trans (hb5.mono (by omega))))
      go_ret
      exact ⟨rfl, HB⟩
end Go.Proofs.Ytjhkfjmgdkcipac
