/-
  NewNode: spec.
-/
import Derived.Test.YtceokablbefjhaaNewI
import Derived.Test.YtceokablbefjhaaRegInv
import Derived.Test.YtceokablbefjhaaSTimeout
namespace Go.Proofs.Ytceokablbefjhaa
open Go.RowKit
set_option linter.unusedVariables false
set_option linter.unusedSimpArgs false

theorem entAt_new' (w : World) (e : Ent) : EntAt (w.alloc (.cells #[.int .i64 e.t, .int .i64 e.cl, .int .i64 e.sq, .int .i64 e.op, .string e.k, .string e.v, .string e.o] 123)) w.heap.size 0 e := by
  refine ⟨?_, ?_, ?_, ?_, ?_, ?_, ?_⟩ <;> simp
set_option maxHeartbeats 4000000 in
set_option maxRecDepth 100000 in
theorem l4entries_any (v : Value) (l : List Ent) (w : World) (hv : Es w v l) (hll : l.length ≤ 1000000) :
    Calls Try.prog 89 #[v] w fun e w' => ∃ v', e = .returned v' ∧ OwnE w' w.heap.size v' l ∧ Below w.heap.size w w' := by
  obtain ⟨hm, hf, a, cap, rfl, hc⟩ := hv
  unfold maxLen at hm
  go_enter Try.func89, Try.ntmps89
  go_wp2
  go_loopw [3, 4] (fun s i wr => ∃ k : Nat, k ≤ l.length ∧ i = .int .i64 k ∧ OwnE wr w.heap.size s (l.take k) ∧ Below w.heap.size w wr) (fun _ i _ => l.length - (intOf i).toNat)
  case atStart => exact ⟨0, Nat.zero_le _, rfl, OwnE.made w w.heap.size (Nat.le_refl _), (Below.refl _ _).alloc (Nat.le_refl _) _⟩
  case round =>
    obtain ⟨k, hk, rfl, ho, hB⟩ := hrel
    have hz := hB.size
    by_cases hlt : k < l.length
    · obtain ⟨b, off, rfl, hj⟩ := hc k hlt
      have hfk := hf l[k] (List.getElem_mem hlt)
      obtain ⟨c0, c1, c2, c3, c4, c5, c6⟩ := (hj k hlt).below hB
      obtain ⟨a3, cap3, rfl⟩ := ho.shape
      have hlen : (l.take k).length = k := by rw [List.length_take]; omega
      have HT : Hid (l.take (k + 1) = l.take k ++ [l[k]]) := List.take_succ_eq_append_getElem hlt
      have HO : Hid (OwnE wr w.heap.size (.slice a3 (l.take k).length cap3) (l.take k)) := ho
      have HBB : Hid (Below w.heap.size w wr) := hB
      clear hc hj hf ho hB
      generalize l[k] = e at *
      go_wp2_with (at_builtin; refine wpl_appendE rfl (.tmp 12) (.tmp 17) rfl e hfk (HO.out.below ((Below.refl _ _).alloc (Nat.le_refl _) _)) rfl wr.heap.size 1 (entAt_new' wr e) rfl (by rw [hlen]; omega) (by simp; omega) ?_; intro v' w' ho' hg; have hb' := growE hg (HO.out.below ((Below.refl _ _).alloc (Nat.le_refl _) _)) (by simp; omega))
      go_roundw
      case rel => exact ⟨k + 1, by omega, by go_num, by rw [HT.out]; exact ho', (HBB.out.alloc hz _).trans hb'⟩
      case measure => simp [intOf]; omega
    · go_wp2
      go_ret
      rw [List.take_of_length_le (by omega)] at ho
      exact ⟨_, rfl, ho, hB⟩

set_option maxHeartbeats 4000000 in
set_option maxRecDepth 100000 in
theorem sNewNode_any (id sz el bt t v dr : Int) (a : Option Addr) (cap : Nat) (l : List Ent) (w : World) (hv : Es w (.slice a l.length cap) l) (hll : l.length ≤ 1048576) (hd1 : -(2 ^ 63) ≤ dr) (hd2 : dr < 2 ^ 63) :
    Calls Try.prog 32 #[.int .i64 id, .int .i64 sz, .int .i64 el, .int .i64 bt, .agg #[.int .i64 t, .int .i64 v, .slice a l.length cap], .int .i64 dr] w fun x w' => NewAt w w' x id sz el bt t v dr l := by
  have HV : Hid (Es w (.slice a l.length cap) l) := hv
  clear hv
  unfold NewAt
  cases hp : placeB id sz el bt
  · rw [show newB id sz el bt t v l = false by simp [newB, hp]]
    simp only [Bool.false_eq_true, if_false]
    go_enter Try.func32, Try.ntmps32
    go_wp2_with (first
      | (go_at_call 87; refine (configOk_any _ _ _ _ _).mono ?_; rintro e w1 ⟨rfl, hw⟩; obtain rfl := hw.symm; clear hw; rw [hp])
      | (refine gate_st 61 (.tmp 12) _ rfl ?_; refine wpl_store_last rfl 61 (.tmp 12) _ rfl (w.heap.size + 1) rfl (by simp) rfl sizeNw rfl rfl (by simp [Value.oneCell']) ?_))
    exact bodyPost_ret (v := .agg #[.int .i64 0, .int .i64 0, .int .i64 0, .int .i64 0, .int .i64 0, .int .i64 0, .int .i64 0, .int .i64 0, .int .i64 0, .int .i64 0, .int .i64 0, .int .i64 0, .slice none 0 0, .slice none 0 0, .slice none 0 0, .slice none 0 0, .slice none 0 0, .slice none 0 0]) (results_blk Try.results32 rfl (Blk.new' _ _ _ (by simp)) Try.underlying61 rfl sizeNw rfl) rfl ⟨rfl, ((Below.refl _ _).alloc (Nat.le_refl _) _).alloc (by simp) _⟩
  cases hs : stB t v l
  · rw [show newB id sz el bt t v l = false by simp [newB, hs]]
    simp only [Bool.false_eq_true, if_false]
    go_enter Try.func32, Try.ntmps32
    go_wp2_with (first
      | (go_at_call 87; refine (configOk_any _ _ _ _ _).mono ?_; rintro e w1 ⟨rfl, hw⟩; obtain rfl := hw.symm; clear hw; rw [hp])
      | (go_at_call 88; refine (stableOk_any t v _ l _ (HV.out.below (((Below.refl _ _).alloc (Nat.le_refl _) _).alloc (by simp) _)) hll).mono ?_; rintro e w1 ⟨rfl, hb1⟩; rw [hs]; have hz : w.heap.size + 1 < w1.heap.size := (by have := hb1.size; simp at this; omega); have BS := ((Blk.new w _ _).alloc _).below hb1 (by simp; omega); have BR := (Blk.new' (w.alloc _) _ _ (k := w.heap.size + 1) (by simp)).below hb1 (by simp); have HB : Hid (Below w.heap.size w w1) := (((Below.refl w.heap.size w).alloc (Nat.le_refl _) _).alloc (by simp) _).trans (hb1.mono (by simp; omega)); have cS := BS.cell; clear hb1)
      | (have hBR := BR; refine gate_st 61 (.tmp 12) _ rfl ?_; clear hBR; refine wpl_store_blk rfl 61 (.tmp 12) _ rfl (w.heap.size + 1) rfl rfl BR sizeNw rfl rfl (by simp [Value.oneCell']) ?_))
    exact bodyPost_ret (v := .agg #[.int .i64 0, .int .i64 0, .int .i64 0, .int .i64 0, .int .i64 0, .int .i64 0, .int .i64 0, .int .i64 0, .int .i64 0, .int .i64 0, .int .i64 0, .int .i64 0, .slice none 0 0, .slice none 0 0, .slice none 0 0, .slice none 0 0, .slice none 0 0, .slice none 0 0]) (results_blk Try.results32 rfl (BR.row _) Try.underlying61 rfl sizeNw rfl) rfl ⟨rfl, below_row HB.out (by omega) _⟩
  by_cases hvs : v ≤ sz
  case neg =>
    rw [show newB id sz el bt t v l = false by simp [newB, hvs]]
    simp only [Bool.false_eq_true, if_false]
    have hgt : sz < v := by omega
    go_enter Try.func32, Try.ntmps32
    go_wp2_with (first
      | (go_at_call 87; refine (configOk_any _ _ _ _ _).mono ?_; rintro e w1 ⟨rfl, hw⟩; obtain rfl := hw.symm; clear hw; rw [hp])
      | (go_at_call 88; refine (stableOk_any t v _ l _ (HV.out.below (((Below.refl _ _).alloc (Nat.le_refl _) _).alloc (by simp) _)) hll).mono ?_; rintro e w1 ⟨rfl, hb1⟩; rw [hs]; have hz : w.heap.size + 1 < w1.heap.size := (by have := hb1.size; simp at this; omega); have BS := ((Blk.new w _ _).alloc _).below hb1 (by simp; omega); have BR := (Blk.new' (w.alloc _) _ _ (k := w.heap.size + 1) (by simp)).below hb1 (by simp); have HB : Hid (Below w.heap.size w w1) := (((Below.refl w.heap.size w).alloc (Nat.le_refl _) _).alloc (by simp) _).trans (hb1.mono (by simp; omega)); have cS := BS.cell; clear hb1)
      | (have hBR := BR; refine gate_st 61 (.tmp 12) _ rfl ?_; clear hBR; refine wpl_store_blk rfl 61 (.tmp 12) _ rfl (w.heap.size + 1) rfl rfl BR sizeNw rfl rfl (by simp [Value.oneCell']) ?_))
    exact bodyPost_ret (v := .agg #[.int .i64 0, .int .i64 0, .int .i64 0, .int .i64 0, .int .i64 0, .int .i64 0, .int .i64 0, .int .i64 0, .int .i64 0, .int .i64 0, .int .i64 0, .int .i64 0, .slice none 0 0, .slice none 0 0, .slice none 0 0, .slice none 0 0, .slice none 0 0, .slice none 0 0]) (results_blk Try.results32 rfl (BR.row _) Try.underlying61 rfl sizeNw rfl) rfl ⟨rfl, below_row HB.out (by omega) _⟩
  rw [show newB id sz el bt t v l = true by simp [newB, hp, hs, hvs]]
  simp only [if_true]
  have hl4 : l.length ≤ 4096 := by simp only [stB, Bool.and_eq_true, decide_eq_true_eq] at hs; exact hs.2.1
  go_enter Try.func32, Try.ntmps32
  go_wp2_with (first
    | (go_at_call 87; refine (configOk_any _ _ _ _ _).mono ?_; rintro e w1 ⟨rfl, hw⟩; obtain rfl := hw.symm; clear hw; rw [hp])
    | (go_at_call 88; refine (stableOk_any t v _ l _ (HV.out.below (((Below.refl _ _).alloc (Nat.le_refl _) _).alloc (by simp) _)) hll).mono ?_; rintro e w1 ⟨rfl, hb1⟩; rw [hs]; have hz : w.heap.size + 1 < w1.heap.size := (by have := hb1.size; simp at this; omega); have BS := ((Blk.new w _ _).alloc _).below hb1 (by simp; omega); have BR := (Blk.new' (w.alloc _) _ _ (k := w.heap.size + 1) (by simp)).below hb1 (by simp); have HB : Hid (Below w.heap.size w w1) := (((Below.refl w.heap.size w).alloc (Nat.le_refl _) _).alloc (by simp) _).trans (hb1.mono (by simp; omega)); have cS := BS.cell; clear hb1))
  refine wp_named ?_
  intro a0 ha0
  have hsz0 : a0.tmps.size = 46 := by rw [ha0]; rfl
  have e0 : a0.eval (.tmp 0) = .int .i64 id := by rw [ha0]; rfl
  have e1 : a0.eval (.tmp 1) = .int .i64 sz := by rw [ha0]; rfl
  have e2 : a0.eval (.tmp 2) = .int .i64 el := by rw [ha0]; rfl
  have e3 : a0.eval (.tmp 3) = .int .i64 bt := by rw [ha0]; rfl
  have e5 : a0.eval (.tmp 5) = .int .i64 dr := by rw [ha0]; rfl
  have e10 : a0.eval (.tmp 10) = .pointer (some ⟨w.heap.size, 0, none⟩) := by rw [ha0]; rfl
  have e12 : a0.eval (.tmp 12) = .pointer (some ⟨w.heap.size + 1, 0, none⟩) := by rw [ha0]; rfl
  have HA0 : Hid (a0 = _) := ha0
  clear ha0
  refine wp_region_inv (by kernel_rfl) (fun L aF w' => ∃ x : Nat → Value, aF = frame a0 [31, 32, 33, 34, 35, 36, 37, 38, 39, 40, 41, 42, 43, 44, 45] x ∧ Below w.heap.size w w' ∧ (Blk w' w.heap.size #[.int .i64 t, .int .i64 v, .slice a l.length cap] 64) ∧ (∃ C, Blk w' (w.heap.size + 1) C 61 ∧ C.size = 18 ∧ (L.getD 15 false = true → ∃ b c, C = #[.int .i64 id, .int .i64 sz, .int .i64 el, .int .i64 bt, .int .i64 t, .int .i64 v, .int .i64 0, .int .i64 0, .int .i64 0, .int .i64 0, .int .i64 (toutC el dr), .int .i64 0, .slice b l.length c, .slice none 0 0, .slice none 0 0, .slice none 0 0, .slice none 0 0, .slice none 0 0] ∧ OwnE w' w1.heap.size (.slice b l.length c) l)) ∧ (w1.heap.size ≤ w'.heap.size) ∧ (L.getD 0 false = true → x 31 = .int .i64 id) ∧ (L.getD 1 false = true → x 32 = .int .i64 sz) ∧ (L.getD 2 false = true → x 33 = .int .i64 el) ∧ (L.getD 3 false = true → x 34 = .int .i64 bt) ∧ (L.getD 4 false = true → x 35 = .pointer (some ⟨w.heap.size, 0, none⟩)) ∧ (L.getD 5 false = true → x 36 = .int .i64 t) ∧ (L.getD 6 false = true → x 37 = .pointer (some ⟨w.heap.size, 1, none⟩)) ∧ (L.getD 7 false = true → x 38 = .int .i64 v) ∧ (L.getD 8 false = true → x 39 = .pointer (some ⟨w.heap.size, 2, none⟩)) ∧ (L.getD 9 false = true → x 40 = .slice a l.length cap) ∧ (L.getD 10 false = true → ∃ b c, x 41 = .slice b l.length c ∧ OwnE w' w1.heap.size (.slice b l.length c) l) ∧ (L.getD 11 false = true → x 42 = .int .i64 el) ∧ (L.getD 12 false = true → x 43 = .int .i64 dr) ∧ (L.getD 13 false = true → x 44 = .int .i64 (toutC el dr)) ∧ (L.getD 14 false = true → ∃ b c, x 45 = .agg #[.int .i64 id, .int .i64 sz, .int .i64 el, .int .i64 bt, .int .i64 t, .int .i64 v, .int .i64 0, .int .i64 0, .int .i64 0, .int .i64 0, .int .i64 (toutC el dr), .int .i64 0, .slice b l.length c, .slice none 0 0, .slice none 0 0, .slice none 0 0, .slice none 0 0, .slice none 0 0] ∧ OwnE w' w1.heap.size (.slice b l.length c) l) ∧ (L.getD 15 false = true → True)) ?_ ?_ ?_
  · exact ⟨_, frame_self a0 [31, 32, 33, 34, 35, 36, 37, 38, 39, 40, 41, 42, 43, 44, 45], HB.out.drew, BS.drew, ⟨_, BR.drew, rfl, fun h => (noBit h).elim⟩, Nat.le_refl _, fun h => (noBit h).elim, fun h => (noBit h).elim, fun h => (noBit h).elim, fun h => (noBit h).elim, fun h => (noBit h).elim, fun h => (noBit h).elim, fun h => (noBit h).elim, fun h => (noBit h).elim, fun h => (noBit h).elim, fun h => (noBit h).elim, fun h => (noBit h).elim, fun h => (noBit h).elim, fun h => (noBit h).elim, fun h => (noBit h).elim, fun h => (noBit h).elim, fun h => (noBit h).elim⟩
  · rintro L a w' i hsL hi ⟨x, rfl, hB, X1, X2, X3, h0, h1, h2, h3, h4, h5, h6, h7, h8, h9, h10, h11, h12, h13, h14, h15⟩
    have hiL : i < 16 := (ready_mem hsL hi).1
    have hL : L.size = 16 := hsL
    have hw' : w.heap.size ≤ w'.heap.size := hB.size
    rcases (show i = 0 ∨ i = 1 ∨ i = 2 ∨ i = 3 ∨ i = 4 ∨ i = 5 ∨ i = 6 ∨ i = 7 ∨ i = 8 ∨ i = 9 ∨ i = 10 ∨ i = 11 ∨ i = 12 ∨ i = 13 ∨ i = 14 ∨ i = 15 by omega) with rfl | rfl | rfl | rfl | rfl | rfl | rfl | rfl | rfl | rfl | rfl | rfl | rfl | rfl | rfl | rfl
    · skip
      refine wpOp_plain rfl rfl (wp_move_go (.tmp 0) (Or.inl rfl) ?_)
      rw [frame_eval _ _ _ 0 rfl, e0]
      exact ⟨_, frame_put _ _ _ 31 _ rfl, hB, X1, (by obtain ⟨C, p1, p2, p3⟩ := X2; exact ⟨C, p1, p2, fun h9 => p3 (keepBit h9 (by omega) (by decide))⟩), X3, fun h => upd_same _ _ _, fun h => by rw [upd_ne _ _ _ _ (by decide)]; exact (h1 (keepBit h (by omega) (by decide))), fun h => by rw [upd_ne _ _ _ _ (by decide)]; exact (h2 (keepBit h (by omega) (by decide))), fun h => by rw [upd_ne _ _ _ _ (by decide)]; exact (h3 (keepBit h (by omega) (by decide))), fun h => by rw [upd_ne _ _ _ _ (by decide)]; exact (h4 (keepBit h (by omega) (by decide))), fun h => by rw [upd_ne _ _ _ _ (by decide)]; exact (h5 (keepBit h (by omega) (by decide))), fun h => by rw [upd_ne _ _ _ _ (by decide)]; exact (h6 (keepBit h (by omega) (by decide))), fun h => by rw [upd_ne _ _ _ _ (by decide)]; exact (h7 (keepBit h (by omega) (by decide))), fun h => by rw [upd_ne _ _ _ _ (by decide)]; exact (h8 (keepBit h (by omega) (by decide))), fun h => by rw [upd_ne _ _ _ _ (by decide)]; exact (h9 (keepBit h (by omega) (by decide))), fun h => by rw [upd_ne _ _ _ _ (by decide)]; exact (by obtain ⟨b2, c2, ey, ho⟩ := (h10 (keepBit h (by omega) (by decide))); exact ⟨b2, c2, ey, ho.below (Below.refl _ _)⟩), fun h => by rw [upd_ne _ _ _ _ (by decide)]; exact (h11 (keepBit h (by omega) (by decide))), fun h => by rw [upd_ne _ _ _ _ (by decide)]; exact (h12 (keepBit h (by omega) (by decide))), fun h => by rw [upd_ne _ _ _ _ (by decide)]; exact (h13 (keepBit h (by omega) (by decide))), fun h => by rw [upd_ne _ _ _ _ (by decide)]; exact (by obtain ⟨b2, c2, ey, ho⟩ := (h14 (keepBit h (by omega) (by decide))); exact ⟨b2, c2, ey, ho.below (Below.refl _ _)⟩), fun h => trivial⟩
    · skip
      refine wpOp_plain rfl rfl (wp_move_go (.tmp 1) (Or.inl rfl) ?_)
      rw [frame_eval _ _ _ 1 rfl, e1]
      exact ⟨_, frame_put _ _ _ 32 _ rfl, hB, X1, (by obtain ⟨C, p1, p2, p3⟩ := X2; exact ⟨C, p1, p2, fun h9 => p3 (keepBit h9 (by omega) (by decide))⟩), X3, fun h => by rw [upd_ne _ _ _ _ (by decide)]; exact (h0 (keepBit h (by omega) (by decide))), fun h => upd_same _ _ _, fun h => by rw [upd_ne _ _ _ _ (by decide)]; exact (h2 (keepBit h (by omega) (by decide))), fun h => by rw [upd_ne _ _ _ _ (by decide)]; exact (h3 (keepBit h (by omega) (by decide))), fun h => by rw [upd_ne _ _ _ _ (by decide)]; exact (h4 (keepBit h (by omega) (by decide))), fun h => by rw [upd_ne _ _ _ _ (by decide)]; exact (h5 (keepBit h (by omega) (by decide))), fun h => by rw [upd_ne _ _ _ _ (by decide)]; exact (h6 (keepBit h (by omega) (by decide))), fun h => by rw [upd_ne _ _ _ _ (by decide)]; exact (h7 (keepBit h (by omega) (by decide))), fun h => by rw [upd_ne _ _ _ _ (by decide)]; exact (h8 (keepBit h (by omega) (by decide))), fun h => by rw [upd_ne _ _ _ _ (by decide)]; exact (h9 (keepBit h (by omega) (by decide))), fun h => by rw [upd_ne _ _ _ _ (by decide)]; exact (by obtain ⟨b2, c2, ey, ho⟩ := (h10 (keepBit h (by omega) (by decide))); exact ⟨b2, c2, ey, ho.below (Below.refl _ _)⟩), fun h => by rw [upd_ne _ _ _ _ (by decide)]; exact (h11 (keepBit h (by omega) (by decide))), fun h => by rw [upd_ne _ _ _ _ (by decide)]; exact (h12 (keepBit h (by omega) (by decide))), fun h => by rw [upd_ne _ _ _ _ (by decide)]; exact (h13 (keepBit h (by omega) (by decide))), fun h => by rw [upd_ne _ _ _ _ (by decide)]; exact (by obtain ⟨b2, c2, ey, ho⟩ := (h14 (keepBit h (by omega) (by decide))); exact ⟨b2, c2, ey, ho.below (Below.refl _ _)⟩), fun h => trivial⟩
    · skip
      refine wpOp_plain rfl rfl (wp_move_go (.tmp 2) (Or.inl rfl) ?_)
      rw [frame_eval _ _ _ 2 rfl, e2]
      exact ⟨_, frame_put _ _ _ 33 _ rfl, hB, X1, (by obtain ⟨C, p1, p2, p3⟩ := X2; exact ⟨C, p1, p2, fun h9 => p3 (keepBit h9 (by omega) (by decide))⟩), X3, fun h => by rw [upd_ne _ _ _ _ (by decide)]; exact (h0 (keepBit h (by omega) (by decide))), fun h => by rw [upd_ne _ _ _ _ (by decide)]; exact (h1 (keepBit h (by omega) (by decide))), fun h => upd_same _ _ _, fun h => by rw [upd_ne _ _ _ _ (by decide)]; exact (h3 (keepBit h (by omega) (by decide))), fun h => by rw [upd_ne _ _ _ _ (by decide)]; exact (h4 (keepBit h (by omega) (by decide))), fun h => by rw [upd_ne _ _ _ _ (by decide)]; exact (h5 (keepBit h (by omega) (by decide))), fun h => by rw [upd_ne _ _ _ _ (by decide)]; exact (h6 (keepBit h (by omega) (by decide))), fun h => by rw [upd_ne _ _ _ _ (by decide)]; exact (h7 (keepBit h (by omega) (by decide))), fun h => by rw [upd_ne _ _ _ _ (by decide)]; exact (h8 (keepBit h (by omega) (by decide))), fun h => by rw [upd_ne _ _ _ _ (by decide)]; exact (h9 (keepBit h (by omega) (by decide))), fun h => by rw [upd_ne _ _ _ _ (by decide)]; exact (by obtain ⟨b2, c2, ey, ho⟩ := (h10 (keepBit h (by omega) (by decide))); exact ⟨b2, c2, ey, ho.below (Below.refl _ _)⟩), fun h => by rw [upd_ne _ _ _ _ (by decide)]; exact (h11 (keepBit h (by omega) (by decide))), fun h => by rw [upd_ne _ _ _ _ (by decide)]; exact (h12 (keepBit h (by omega) (by decide))), fun h => by rw [upd_ne _ _ _ _ (by decide)]; exact (h13 (keepBit h (by omega) (by decide))), fun h => by rw [upd_ne _ _ _ _ (by decide)]; exact (by obtain ⟨b2, c2, ey, ho⟩ := (h14 (keepBit h (by omega) (by decide))); exact ⟨b2, c2, ey, ho.below (Below.refl _ _)⟩), fun h => trivial⟩
    · skip
      refine wpOp_plain rfl rfl (wp_move_go (.tmp 3) (Or.inl rfl) ?_)
      rw [frame_eval _ _ _ 3 rfl, e3]
      exact ⟨_, frame_put _ _ _ 34 _ rfl, hB, X1, (by obtain ⟨C, p1, p2, p3⟩ := X2; exact ⟨C, p1, p2, fun h9 => p3 (keepBit h9 (by omega) (by decide))⟩), X3, fun h => by rw [upd_ne _ _ _ _ (by decide)]; exact (h0 (keepBit h (by omega) (by decide))), fun h => by rw [upd_ne _ _ _ _ (by decide)]; exact (h1 (keepBit h (by omega) (by decide))), fun h => by rw [upd_ne _ _ _ _ (by decide)]; exact (h2 (keepBit h (by omega) (by decide))), fun h => upd_same _ _ _, fun h => by rw [upd_ne _ _ _ _ (by decide)]; exact (h4 (keepBit h (by omega) (by decide))), fun h => by rw [upd_ne _ _ _ _ (by decide)]; exact (h5 (keepBit h (by omega) (by decide))), fun h => by rw [upd_ne _ _ _ _ (by decide)]; exact (h6 (keepBit h (by omega) (by decide))), fun h => by rw [upd_ne _ _ _ _ (by decide)]; exact (h7 (keepBit h (by omega) (by decide))), fun h => by rw [upd_ne _ _ _ _ (by decide)]; exact (h8 (keepBit h (by omega) (by decide))), fun h => by rw [upd_ne _ _ _ _ (by decide)]; exact (h9 (keepBit h (by omega) (by decide))), fun h => by rw [upd_ne _ _ _ _ (by decide)]; exact (by obtain ⟨b2, c2, ey, ho⟩ := (h10 (keepBit h (by omega) (by decide))); exact ⟨b2, c2, ey, ho.below (Below.refl _ _)⟩), fun h => by rw [upd_ne _ _ _ _ (by decide)]; exact (h11 (keepBit h (by omega) (by decide))), fun h => by rw [upd_ne _ _ _ _ (by decide)]; exact (h12 (keepBit h (by omega) (by decide))), fun h => by rw [upd_ne _ _ _ _ (by decide)]; exact (h13 (keepBit h (by omega) (by decide))), fun h => by rw [upd_ne _ _ _ _ (by decide)]; exact (by obtain ⟨b2, c2, ey, ho⟩ := (h14 (keepBit h (by omega) (by decide))); exact ⟨b2, c2, ey, ho.below (Below.refl _ _)⟩), fun h => trivial⟩
    · skip
      have ev10 : (frame a0 [31, 32, 33, 34, 35, 36, 37, 38, 39, 40, 41, 42, 43, 44, 45] x).tmps[10]?.getD undef = .pointer (some ⟨w.heap.size, 0, none⟩) := by have h := (frame_eval a0 [31, 32, 33, 34, 35, 36, 37, 38, 39, 40, 41, 42, 43, 44, 45] x 10 rfl).trans e10; simpa [Act.eval] using h
      refine wpOp_plain rfl rfl (wp_value_go (v := .pointer (some ⟨w.heap.size, 0, none⟩)) ?_ ?_)
      · obtain ⟨aa, haa⟩ : ∃ aa, aa = frame a0 [31, 32, 33, 34, 35, 36, 37, 38, 39, 40, 41, 42, 43, 44, 45] x := ⟨_, rfl⟩
        rw [← haa] at ev10 ⊢
        clear haa HA0
        go_simp
      exact ⟨_, frame_put _ _ _ 35 _ rfl, hB, X1, (by obtain ⟨C, p1, p2, p3⟩ := X2; exact ⟨C, p1, p2, fun h9 => p3 (keepBit h9 (by omega) (by decide))⟩), X3, fun h => by rw [upd_ne _ _ _ _ (by decide)]; exact (h0 (keepBit h (by omega) (by decide))), fun h => by rw [upd_ne _ _ _ _ (by decide)]; exact (h1 (keepBit h (by omega) (by decide))), fun h => by rw [upd_ne _ _ _ _ (by decide)]; exact (h2 (keepBit h (by omega) (by decide))), fun h => by rw [upd_ne _ _ _ _ (by decide)]; exact (h3 (keepBit h (by omega) (by decide))), fun h => upd_same _ _ _, fun h => by rw [upd_ne _ _ _ _ (by decide)]; exact (h5 (keepBit h (by omega) (by decide))), fun h => by rw [upd_ne _ _ _ _ (by decide)]; exact (h6 (keepBit h (by omega) (by decide))), fun h => by rw [upd_ne _ _ _ _ (by decide)]; exact (h7 (keepBit h (by omega) (by decide))), fun h => by rw [upd_ne _ _ _ _ (by decide)]; exact (h8 (keepBit h (by omega) (by decide))), fun h => by rw [upd_ne _ _ _ _ (by decide)]; exact (h9 (keepBit h (by omega) (by decide))), fun h => by rw [upd_ne _ _ _ _ (by decide)]; exact (by obtain ⟨b2, c2, ey, ho⟩ := (h10 (keepBit h (by omega) (by decide))); exact ⟨b2, c2, ey, ho.below (Below.refl _ _)⟩), fun h => by rw [upd_ne _ _ _ _ (by decide)]; exact (h11 (keepBit h (by omega) (by decide))), fun h => by rw [upd_ne _ _ _ _ (by decide)]; exact (h12 (keepBit h (by omega) (by decide))), fun h => by rw [upd_ne _ _ _ _ (by decide)]; exact (h13 (keepBit h (by omega) (by decide))), fun h => by rw [upd_ne _ _ _ _ (by decide)]; exact (by obtain ⟨b2, c2, ey, ho⟩ := (h14 (keepBit h (by omega) (by decide))); exact ⟨b2, c2, ey, ho.below (Below.refl _ _)⟩), fun h => trivial⟩
    · have d4 := h4 (ready_needs hi (by decide))
      have cc : w'.cell? ⟨w.heap.size, 0, none⟩ = some (.int .i64 t) := X1.cell 0
      have ev35 : (frame a0 [31, 32, 33, 34, 35, 36, 37, 38, 39, 40, 41, 42, 43, 44, 45] x).tmps[35]?.getD undef = .pointer (some ⟨w.heap.size, 0, none⟩) := by have h := (frame_eval_in a0 [31, 32, 33, 34, 35, 36, 37, 38, 39, 40, 41, 42, 43, 44, 45] x 35 rfl (by omega)).trans d4; simpa [Act.eval] using h
      refine wpOp_plain rfl rfl (wp_value_go (v := .int .i64 t) ?_ ?_)
      · obtain ⟨aa, haa⟩ : ∃ aa, aa = frame a0 [31, 32, 33, 34, 35, 36, 37, 38, 39, 40, 41, 42, 43, 44, 45] x := ⟨_, rfl⟩
        rw [← haa] at ev35 ⊢
        clear haa HA0
        go_simp
      exact ⟨_, frame_put _ _ _ 36 _ rfl, hB, X1, (by obtain ⟨C, p1, p2, p3⟩ := X2; exact ⟨C, p1, p2, fun h9 => p3 (keepBit h9 (by omega) (by decide))⟩), X3, fun h => by rw [upd_ne _ _ _ _ (by decide)]; exact (h0 (keepBit h (by omega) (by decide))), fun h => by rw [upd_ne _ _ _ _ (by decide)]; exact (h1 (keepBit h (by omega) (by decide))), fun h => by rw [upd_ne _ _ _ _ (by decide)]; exact (h2 (keepBit h (by omega) (by decide))), fun h => by rw [upd_ne _ _ _ _ (by decide)]; exact (h3 (keepBit h (by omega) (by decide))), fun h => by rw [upd_ne _ _ _ _ (by decide)]; exact (h4 (keepBit h (by omega) (by decide))), fun h => upd_same _ _ _, fun h => by rw [upd_ne _ _ _ _ (by decide)]; exact (h6 (keepBit h (by omega) (by decide))), fun h => by rw [upd_ne _ _ _ _ (by decide)]; exact (h7 (keepBit h (by omega) (by decide))), fun h => by rw [upd_ne _ _ _ _ (by decide)]; exact (h8 (keepBit h (by omega) (by decide))), fun h => by rw [upd_ne _ _ _ _ (by decide)]; exact (h9 (keepBit h (by omega) (by decide))), fun h => by rw [upd_ne _ _ _ _ (by decide)]; exact (by obtain ⟨b2, c2, ey, ho⟩ := (h10 (keepBit h (by omega) (by decide))); exact ⟨b2, c2, ey, ho.below (Below.refl _ _)⟩), fun h => by rw [upd_ne _ _ _ _ (by decide)]; exact (h11 (keepBit h (by omega) (by decide))), fun h => by rw [upd_ne _ _ _ _ (by decide)]; exact (h12 (keepBit h (by omega) (by decide))), fun h => by rw [upd_ne _ _ _ _ (by decide)]; exact (h13 (keepBit h (by omega) (by decide))), fun h => by rw [upd_ne _ _ _ _ (by decide)]; exact (by obtain ⟨b2, c2, ey, ho⟩ := (h14 (keepBit h (by omega) (by decide))); exact ⟨b2, c2, ey, ho.below (Below.refl _ _)⟩), fun h => trivial⟩
    · skip
      have ev10 : (frame a0 [31, 32, 33, 34, 35, 36, 37, 38, 39, 40, 41, 42, 43, 44, 45] x).tmps[10]?.getD undef = .pointer (some ⟨w.heap.size, 0, none⟩) := by have h := (frame_eval a0 [31, 32, 33, 34, 35, 36, 37, 38, 39, 40, 41, 42, 43, 44, 45] x 10 rfl).trans e10; simpa [Act.eval] using h
      refine wpOp_plain rfl rfl (wp_value_go (v := .pointer (some ⟨w.heap.size, 1, none⟩)) ?_ ?_)
      · obtain ⟨aa, haa⟩ : ∃ aa, aa = frame a0 [31, 32, 33, 34, 35, 36, 37, 38, 39, 40, 41, 42, 43, 44, 45] x := ⟨_, rfl⟩
        rw [← haa] at ev10 ⊢
        clear haa HA0
        go_simp
      exact ⟨_, frame_put _ _ _ 37 _ rfl, hB, X1, (by obtain ⟨C, p1, p2, p3⟩ := X2; exact ⟨C, p1, p2, fun h9 => p3 (keepBit h9 (by omega) (by decide))⟩), X3, fun h => by rw [upd_ne _ _ _ _ (by decide)]; exact (h0 (keepBit h (by omega) (by decide))), fun h => by rw [upd_ne _ _ _ _ (by decide)]; exact (h1 (keepBit h (by omega) (by decide))), fun h => by rw [upd_ne _ _ _ _ (by decide)]; exact (h2 (keepBit h (by omega) (by decide))), fun h => by rw [upd_ne _ _ _ _ (by decide)]; exact (h3 (keepBit h (by omega) (by decide))), fun h => by rw [upd_ne _ _ _ _ (by decide)]; exact (h4 (keepBit h (by omega) (by decide))), fun h => by rw [upd_ne _ _ _ _ (by decide)]; exact (h5 (keepBit h (by omega) (by decide))), fun h => upd_same _ _ _, fun h => by rw [upd_ne _ _ _ _ (by decide)]; exact (h7 (keepBit h (by omega) (by decide))), fun h => by rw [upd_ne _ _ _ _ (by decide)]; exact (h8 (keepBit h (by omega) (by decide))), fun h => by rw [upd_ne _ _ _ _ (by decide)]; exact (h9 (keepBit h (by omega) (by decide))), fun h => by rw [upd_ne _ _ _ _ (by decide)]; exact (by obtain ⟨b2, c2, ey, ho⟩ := (h10 (keepBit h (by omega) (by decide))); exact ⟨b2, c2, ey, ho.below (Below.refl _ _)⟩), fun h => by rw [upd_ne _ _ _ _ (by decide)]; exact (h11 (keepBit h (by omega) (by decide))), fun h => by rw [upd_ne _ _ _ _ (by decide)]; exact (h12 (keepBit h (by omega) (by decide))), fun h => by rw [upd_ne _ _ _ _ (by decide)]; exact (h13 (keepBit h (by omega) (by decide))), fun h => by rw [upd_ne _ _ _ _ (by decide)]; exact (by obtain ⟨b2, c2, ey, ho⟩ := (h14 (keepBit h (by omega) (by decide))); exact ⟨b2, c2, ey, ho.below (Below.refl _ _)⟩), fun h => trivial⟩
    · have d6 := h6 (ready_needs hi (by decide))
      have cc : w'.cell? ⟨w.heap.size, 1, none⟩ = some (.int .i64 v) := X1.cell 1
      have ev37 : (frame a0 [31, 32, 33, 34, 35, 36, 37, 38, 39, 40, 41, 42, 43, 44, 45] x).tmps[37]?.getD undef = .pointer (some ⟨w.heap.size, 1, none⟩) := by have h := (frame_eval_in a0 [31, 32, 33, 34, 35, 36, 37, 38, 39, 40, 41, 42, 43, 44, 45] x 37 rfl (by omega)).trans d6; simpa [Act.eval] using h
      refine wpOp_plain rfl rfl (wp_value_go (v := .int .i64 v) ?_ ?_)
      · obtain ⟨aa, haa⟩ : ∃ aa, aa = frame a0 [31, 32, 33, 34, 35, 36, 37, 38, 39, 40, 41, 42, 43, 44, 45] x := ⟨_, rfl⟩
        rw [← haa] at ev37 ⊢
        clear haa HA0
        go_simp
      exact ⟨_, frame_put _ _ _ 38 _ rfl, hB, X1, (by obtain ⟨C, p1, p2, p3⟩ := X2; exact ⟨C, p1, p2, fun h9 => p3 (keepBit h9 (by omega) (by decide))⟩), X3, fun h => by rw [upd_ne _ _ _ _ (by decide)]; exact (h0 (keepBit h (by omega) (by decide))), fun h => by rw [upd_ne _ _ _ _ (by decide)]; exact (h1 (keepBit h (by omega) (by decide))), fun h => by rw [upd_ne _ _ _ _ (by decide)]; exact (h2 (keepBit h (by omega) (by decide))), fun h => by rw [upd_ne _ _ _ _ (by decide)]; exact (h3 (keepBit h (by omega) (by decide))), fun h => by rw [upd_ne _ _ _ _ (by decide)]; exact (h4 (keepBit h (by omega) (by decide))), fun h => by rw [upd_ne _ _ _ _ (by decide)]; exact (h5 (keepBit h (by omega) (by decide))), fun h => by rw [upd_ne _ _ _ _ (by decide)]; exact (h6 (keepBit h (by omega) (by decide))), fun h => upd_same _ _ _, fun h => by rw [upd_ne _ _ _ _ (by decide)]; exact (h8 (keepBit h (by omega) (by decide))), fun h => by rw [upd_ne _ _ _ _ (by decide)]; exact (h9 (keepBit h (by omega) (by decide))), fun h => by rw [upd_ne _ _ _ _ (by decide)]; exact (by obtain ⟨b2, c2, ey, ho⟩ := (h10 (keepBit h (by omega) (by decide))); exact ⟨b2, c2, ey, ho.below (Below.refl _ _)⟩), fun h => by rw [upd_ne _ _ _ _ (by decide)]; exact (h11 (keepBit h (by omega) (by decide))), fun h => by rw [upd_ne _ _ _ _ (by decide)]; exact (h12 (keepBit h (by omega) (by decide))), fun h => by rw [upd_ne _ _ _ _ (by decide)]; exact (h13 (keepBit h (by omega) (by decide))), fun h => by rw [upd_ne _ _ _ _ (by decide)]; exact (by obtain ⟨b2, c2, ey, ho⟩ := (h14 (keepBit h (by omega) (by decide))); exact ⟨b2, c2, ey, ho.below (Below.refl _ _)⟩), fun h => trivial⟩
    · skip
      have ev10 : (frame a0 [31, 32, 33, 34, 35, 36, 37, 38, 39, 40, 41, 42, 43, 44, 45] x).tmps[10]?.getD undef = .pointer (some ⟨w.heap.size, 0, none⟩) := by have h := (frame_eval a0 [31, 32, 33, 34, 35, 36, 37, 38, 39, 40, 41, 42, 43, 44, 45] x 10 rfl).trans e10; simpa [Act.eval] using h
      refine wpOp_plain rfl rfl (wp_value_go (v := .pointer (some ⟨w.heap.size, 2, none⟩)) ?_ ?_)
      · obtain ⟨aa, haa⟩ : ∃ aa, aa = frame a0 [31, 32, 33, 34, 35, 36, 37, 38, 39, 40, 41, 42, 43, 44, 45] x := ⟨_, rfl⟩
        rw [← haa] at ev10 ⊢
        clear haa HA0
        go_simp
      exact ⟨_, frame_put _ _ _ 39 _ rfl, hB, X1, (by obtain ⟨C, p1, p2, p3⟩ := X2; exact ⟨C, p1, p2, fun h9 => p3 (keepBit h9 (by omega) (by decide))⟩), X3, fun h => by rw [upd_ne _ _ _ _ (by decide)]; exact (h0 (keepBit h (by omega) (by decide))), fun h => by rw [upd_ne _ _ _ _ (by decide)]; exact (h1 (keepBit h (by omega) (by decide))), fun h => by rw [upd_ne _ _ _ _ (by decide)]; exact (h2 (keepBit h (by omega) (by decide))), fun h => by rw [upd_ne _ _ _ _ (by decide)]; exact (h3 (keepBit h (by omega) (by decide))), fun h => by rw [upd_ne _ _ _ _ (by decide)]; exact (h4 (keepBit h (by omega) (by decide))), fun h => by rw [upd_ne _ _ _ _ (by decide)]; exact (h5 (keepBit h (by omega) (by decide))), fun h => by rw [upd_ne _ _ _ _ (by decide)]; exact (h6 (keepBit h (by omega) (by decide))), fun h => by rw [upd_ne _ _ _ _ (by decide)]; exact (h7 (keepBit h (by omega) (by decide))), fun h => upd_same _ _ _, fun h => by rw [upd_ne _ _ _ _ (by decide)]; exact (h9 (keepBit h (by omega) (by decide))), fun h => by rw [upd_ne _ _ _ _ (by decide)]; exact (by obtain ⟨b2, c2, ey, ho⟩ := (h10 (keepBit h (by omega) (by decide))); exact ⟨b2, c2, ey, ho.below (Below.refl _ _)⟩), fun h => by rw [upd_ne _ _ _ _ (by decide)]; exact (h11 (keepBit h (by omega) (by decide))), fun h => by rw [upd_ne _ _ _ _ (by decide)]; exact (h12 (keepBit h (by omega) (by decide))), fun h => by rw [upd_ne _ _ _ _ (by decide)]; exact (h13 (keepBit h (by omega) (by decide))), fun h => by rw [upd_ne _ _ _ _ (by decide)]; exact (by obtain ⟨b2, c2, ey, ho⟩ := (h14 (keepBit h (by omega) (by decide))); exact ⟨b2, c2, ey, ho.below (Below.refl _ _)⟩), fun h => trivial⟩
    · have d8 := h8 (ready_needs hi (by decide))
      have cc : w'.cell? ⟨w.heap.size, 2, none⟩ = some (.slice a l.length cap) := X1.cell 2
      have ev39 : (frame a0 [31, 32, 33, 34, 35, 36, 37, 38, 39, 40, 41, 42, 43, 44, 45] x).tmps[39]?.getD undef = .pointer (some ⟨w.heap.size, 2, none⟩) := by have h := (frame_eval_in a0 [31, 32, 33, 34, 35, 36, 37, 38, 39, 40, 41, 42, 43, 44, 45] x 39 rfl (by omega)).trans d8; simpa [Act.eval] using h
      refine wpOp_plain rfl rfl (wp_value_go (v := .slice a l.length cap) ?_ ?_)
      · obtain ⟨aa, haa⟩ : ∃ aa, aa = frame a0 [31, 32, 33, 34, 35, 36, 37, 38, 39, 40, 41, 42, 43, 44, 45] x := ⟨_, rfl⟩
        rw [← haa] at ev39 ⊢
        clear haa HA0
        go_simp
      exact ⟨_, frame_put _ _ _ 40 _ rfl, hB, X1, (by obtain ⟨C, p1, p2, p3⟩ := X2; exact ⟨C, p1, p2, fun h9 => p3 (keepBit h9 (by omega) (by decide))⟩), X3, fun h => by rw [upd_ne _ _ _ _ (by decide)]; exact (h0 (keepBit h (by omega) (by decide))), fun h => by rw [upd_ne _ _ _ _ (by decide)]; exact (h1 (keepBit h (by omega) (by decide))), fun h => by rw [upd_ne _ _ _ _ (by decide)]; exact (h2 (keepBit h (by omega) (by decide))), fun h => by rw [upd_ne _ _ _ _ (by decide)]; exact (h3 (keepBit h (by omega) (by decide))), fun h => by rw [upd_ne _ _ _ _ (by decide)]; exact (h4 (keepBit h (by omega) (by decide))), fun h => by rw [upd_ne _ _ _ _ (by decide)]; exact (h5 (keepBit h (by omega) (by decide))), fun h => by rw [upd_ne _ _ _ _ (by decide)]; exact (h6 (keepBit h (by omega) (by decide))), fun h => by rw [upd_ne _ _ _ _ (by decide)]; exact (h7 (keepBit h (by omega) (by decide))), fun h => by rw [upd_ne _ _ _ _ (by decide)]; exact (h8 (keepBit h (by omega) (by decide))), fun h => upd_same _ _ _, fun h => by rw [upd_ne _ _ _ _ (by decide)]; exact (by obtain ⟨b2, c2, ey, ho⟩ := (h10 (keepBit h (by omega) (by decide))); exact ⟨b2, c2, ey, ho.below (Below.refl _ _)⟩), fun h => by rw [upd_ne _ _ _ _ (by decide)]; exact (h11 (keepBit h (by omega) (by decide))), fun h => by rw [upd_ne _ _ _ _ (by decide)]; exact (h12 (keepBit h (by omega) (by decide))), fun h => by rw [upd_ne _ _ _ _ (by decide)]; exact (h13 (keepBit h (by omega) (by decide))), fun h => by rw [upd_ne _ _ _ _ (by decide)]; exact (by obtain ⟨b2, c2, ey, ho⟩ := (h14 (keepBit h (by omega) (by decide))); exact ⟨b2, c2, ey, ho.below (Below.refl _ _)⟩), fun h => trivial⟩
    · have d9 := h9 (ready_needs hi (by decide))
      have ev40 := (frame_eval_in a0 [31, 32, 33, 34, 35, 36, 37, 38, 39, 40, 41, 42, 43, 44, 45] x 40 rfl (by omega)).trans d9
      refine wpOp_plain rfl rfl (wp_call_go (N := 89) rfl (fun _ _ => by go_simp) #[.slice a l.length cap] (by simp only [List.map_toArray, List.map_cons, List.map_nil, ev40]) ?_)
      refine Calls.mono (l4entries_any _ l _ (HV.out.below hB) (by omega)) ?_
      rintro e w2 ⟨v2, rfl, ho, hb⟩
      refine ⟨_, rfl, ?_⟩
      exact ⟨_, frame_put _ _ _ 41 _ rfl, hB.trans (hb.mono hw'), X1.below hb X1.lt, (by obtain ⟨C, p1, p2, p3⟩ := X2; exact ⟨C, p1.below hb p1.lt, p2, fun h9 => by obtain ⟨b, c, q1, q2⟩ := p3 (keepBit h9 (by omega) (by decide)); exact ⟨b, c, q1, q2.below hb⟩⟩), Nat.le_trans X3 hb.size, fun h => by rw [upd_ne _ _ _ _ (by decide)]; exact (h0 (keepBit h (by omega) (by decide))), fun h => by rw [upd_ne _ _ _ _ (by decide)]; exact (h1 (keepBit h (by omega) (by decide))), fun h => by rw [upd_ne _ _ _ _ (by decide)]; exact (h2 (keepBit h (by omega) (by decide))), fun h => by rw [upd_ne _ _ _ _ (by decide)]; exact (h3 (keepBit h (by omega) (by decide))), fun h => by rw [upd_ne _ _ _ _ (by decide)]; exact (h4 (keepBit h (by omega) (by decide))), fun h => by rw [upd_ne _ _ _ _ (by decide)]; exact (h5 (keepBit h (by omega) (by decide))), fun h => by rw [upd_ne _ _ _ _ (by decide)]; exact (h6 (keepBit h (by omega) (by decide))), fun h => by rw [upd_ne _ _ _ _ (by decide)]; exact (h7 (keepBit h (by omega) (by decide))), fun h => by rw [upd_ne _ _ _ _ (by decide)]; exact (h8 (keepBit h (by omega) (by decide))), fun h => by rw [upd_ne _ _ _ _ (by decide)]; exact (h9 (keepBit h (by omega) (by decide))), fun h => (by obtain ⟨b2, c2, rfl⟩ := ho.shape; exact ⟨b2, c2, upd_same _ _ _, ho.le X3⟩), fun h => by rw [upd_ne _ _ _ _ (by decide)]; exact (h11 (keepBit h (by omega) (by decide))), fun h => by rw [upd_ne _ _ _ _ (by decide)]; exact (h12 (keepBit h (by omega) (by decide))), fun h => by rw [upd_ne _ _ _ _ (by decide)]; exact (h13 (keepBit h (by omega) (by decide))), fun h => by rw [upd_ne _ _ _ _ (by decide)]; exact (by obtain ⟨b2, c2, ey, ho⟩ := (h14 (keepBit h (by omega) (by decide))); exact ⟨b2, c2, ey, ho.below hb⟩), fun h => trivial⟩
    · skip
      refine wpOp_plain rfl rfl (wp_move_go (.tmp 2) (Or.inl rfl) ?_)
      rw [frame_eval _ _ _ 2 rfl, e2]
      exact ⟨_, frame_put _ _ _ 42 _ rfl, hB, X1, (by obtain ⟨C, p1, p2, p3⟩ := X2; exact ⟨C, p1, p2, fun h9 => p3 (keepBit h9 (by omega) (by decide))⟩), X3, fun h => by rw [upd_ne _ _ _ _ (by decide)]; exact (h0 (keepBit h (by omega) (by decide))), fun h => by rw [upd_ne _ _ _ _ (by decide)]; exact (h1 (keepBit h (by omega) (by decide))), fun h => by rw [upd_ne _ _ _ _ (by decide)]; exact (h2 (keepBit h (by omega) (by decide))), fun h => by rw [upd_ne _ _ _ _ (by decide)]; exact (h3 (keepBit h (by omega) (by decide))), fun h => by rw [upd_ne _ _ _ _ (by decide)]; exact (h4 (keepBit h (by omega) (by decide))), fun h => by rw [upd_ne _ _ _ _ (by decide)]; exact (h5 (keepBit h (by omega) (by decide))), fun h => by rw [upd_ne _ _ _ _ (by decide)]; exact (h6 (keepBit h (by omega) (by decide))), fun h => by rw [upd_ne _ _ _ _ (by decide)]; exact (h7 (keepBit h (by omega) (by decide))), fun h => by rw [upd_ne _ _ _ _ (by decide)]; exact (h8 (keepBit h (by omega) (by decide))), fun h => by rw [upd_ne _ _ _ _ (by decide)]; exact (h9 (keepBit h (by omega) (by decide))), fun h => by rw [upd_ne _ _ _ _ (by decide)]; exact (by obtain ⟨b2, c2, ey, ho⟩ := (h10 (keepBit h (by omega) (by decide))); exact ⟨b2, c2, ey, ho.below (Below.refl _ _)⟩), fun h => upd_same _ _ _, fun h => by rw [upd_ne _ _ _ _ (by decide)]; exact (h12 (keepBit h (by omega) (by decide))), fun h => by rw [upd_ne _ _ _ _ (by decide)]; exact (h13 (keepBit h (by omega) (by decide))), fun h => by rw [upd_ne _ _ _ _ (by decide)]; exact (by obtain ⟨b2, c2, ey, ho⟩ := (h14 (keepBit h (by omega) (by decide))); exact ⟨b2, c2, ey, ho.below (Below.refl _ _)⟩), fun h => trivial⟩
    · skip
      refine wpOp_plain rfl rfl (wp_move_go (.tmp 5) (Or.inl rfl) ?_)
      rw [frame_eval _ _ _ 5 rfl, e5]
      exact ⟨_, frame_put _ _ _ 43 _ rfl, hB, X1, (by obtain ⟨C, p1, p2, p3⟩ := X2; exact ⟨C, p1, p2, fun h9 => p3 (keepBit h9 (by omega) (by decide))⟩), X3, fun h => by rw [upd_ne _ _ _ _ (by decide)]; exact (h0 (keepBit h (by omega) (by decide))), fun h => by rw [upd_ne _ _ _ _ (by decide)]; exact (h1 (keepBit h (by omega) (by decide))), fun h => by rw [upd_ne _ _ _ _ (by decide)]; exact (h2 (keepBit h (by omega) (by decide))), fun h => by rw [upd_ne _ _ _ _ (by decide)]; exact (h3 (keepBit h (by omega) (by decide))), fun h => by rw [upd_ne _ _ _ _ (by decide)]; exact (h4 (keepBit h (by omega) (by decide))), fun h => by rw [upd_ne _ _ _ _ (by decide)]; exact (h5 (keepBit h (by omega) (by decide))), fun h => by rw [upd_ne _ _ _ _ (by decide)]; exact (h6 (keepBit h (by omega) (by decide))), fun h => by rw [upd_ne _ _ _ _ (by decide)]; exact (h7 (keepBit h (by omega) (by decide))), fun h => by rw [upd_ne _ _ _ _ (by decide)]; exact (h8 (keepBit h (by omega) (by decide))), fun h => by rw [upd_ne _ _ _ _ (by decide)]; exact (h9 (keepBit h (by omega) (by decide))), fun h => by rw [upd_ne _ _ _ _ (by decide)]; exact (by obtain ⟨b2, c2, ey, ho⟩ := (h10 (keepBit h (by omega) (by decide))); exact ⟨b2, c2, ey, ho.below (Below.refl _ _)⟩), fun h => by rw [upd_ne _ _ _ _ (by decide)]; exact (h11 (keepBit h (by omega) (by decide))), fun h => upd_same _ _ _, fun h => by rw [upd_ne _ _ _ _ (by decide)]; exact (h13 (keepBit h (by omega) (by decide))), fun h => by rw [upd_ne _ _ _ _ (by decide)]; exact (by obtain ⟨b2, c2, ey, ho⟩ := (h14 (keepBit h (by omega) (by decide))); exact ⟨b2, c2, ey, ho.below (Below.refl _ _)⟩), fun h => trivial⟩
    · have d11 := h11 (ready_needs hi (by decide))
      have d12 := h12 (ready_needs hi (by decide))
      have ev42 := (frame_eval_in a0 [31, 32, 33, 34, 35, 36, 37, 38, 39, 40, 41, 42, 43, 44, 45] x 42 rfl (by omega)).trans d11
      have ev43 := (frame_eval_in a0 [31, 32, 33, 34, 35, 36, 37, 38, 39, 40, 41, 42, 43, 44, 45] x 43 rfl (by omega)).trans d12
      refine wpOp_plain rfl rfl (wp_call_go (N := 90) rfl (fun _ _ => by go_simp) #[.int .i64 el, .int .i64 dr] (by simp only [List.map_toArray, List.map_cons, List.map_nil, ev42, ev43]) ?_)
      refine Calls.mono (sTimeoutOf_any el dr hd1 hd2 _) ?_
      rintro e w2 ⟨rfl, hwe⟩
      have hb : Below w'.heap.size w' w2 := by rw [hwe]; exact Below.refl _ _
      refine ⟨_, rfl, ?_⟩
      exact ⟨_, frame_put _ _ _ 44 _ rfl, hB.trans (hb.mono hw'), X1.below hb X1.lt, (by obtain ⟨C, p1, p2, p3⟩ := X2; exact ⟨C, p1.below hb p1.lt, p2, fun h9 => by obtain ⟨b, c, q1, q2⟩ := p3 (keepBit h9 (by omega) (by decide)); exact ⟨b, c, q1, q2.below hb⟩⟩), Nat.le_trans X3 hb.size, fun h => by rw [upd_ne _ _ _ _ (by decide)]; exact (h0 (keepBit h (by omega) (by decide))), fun h => by rw [upd_ne _ _ _ _ (by decide)]; exact (h1 (keepBit h (by omega) (by decide))), fun h => by rw [upd_ne _ _ _ _ (by decide)]; exact (h2 (keepBit h (by omega) (by decide))), fun h => by rw [upd_ne _ _ _ _ (by decide)]; exact (h3 (keepBit h (by omega) (by decide))), fun h => by rw [upd_ne _ _ _ _ (by decide)]; exact (h4 (keepBit h (by omega) (by decide))), fun h => by rw [upd_ne _ _ _ _ (by decide)]; exact (h5 (keepBit h (by omega) (by decide))), fun h => by rw [upd_ne _ _ _ _ (by decide)]; exact (h6 (keepBit h (by omega) (by decide))), fun h => by rw [upd_ne _ _ _ _ (by decide)]; exact (h7 (keepBit h (by omega) (by decide))), fun h => by rw [upd_ne _ _ _ _ (by decide)]; exact (h8 (keepBit h (by omega) (by decide))), fun h => by rw [upd_ne _ _ _ _ (by decide)]; exact (h9 (keepBit h (by omega) (by decide))), fun h => by rw [upd_ne _ _ _ _ (by decide)]; exact (by obtain ⟨b2, c2, ey, ho⟩ := (h10 (keepBit h (by omega) (by decide))); exact ⟨b2, c2, ey, ho.below hb⟩), fun h => by rw [upd_ne _ _ _ _ (by decide)]; exact (h11 (keepBit h (by omega) (by decide))), fun h => by rw [upd_ne _ _ _ _ (by decide)]; exact (h12 (keepBit h (by omega) (by decide))), fun h => upd_same _ _ _, fun h => by rw [upd_ne _ _ _ _ (by decide)]; exact (by obtain ⟨b2, c2, ey, ho⟩ := (h14 (keepBit h (by omega) (by decide))); exact ⟨b2, c2, ey, ho.below hb⟩), fun h => trivial⟩
    · have d0 := h0 (ready_needs hi (by decide))
      have d1 := h1 (ready_needs hi (by decide))
      have d2 := h2 (ready_needs hi (by decide))
      have d3 := h3 (ready_needs hi (by decide))
      have d5 := h5 (ready_needs hi (by decide))
      have d7 := h7 (ready_needs hi (by decide))
      have d10 := h10 (ready_needs hi (by decide))
      have d13 := h13 (ready_needs hi (by decide))
      obtain ⟨b2, c2, ey, ho2⟩ := d10
      have ev31 : (frame a0 [31, 32, 33, 34, 35, 36, 37, 38, 39, 40, 41, 42, 43, 44, 45] x).tmps[31]?.getD undef = .int .i64 id := by have h := (frame_eval_in a0 [31, 32, 33, 34, 35, 36, 37, 38, 39, 40, 41, 42, 43, 44, 45] x 31 rfl (by omega)).trans d0; simpa [Act.eval] using h
      have ev32 : (frame a0 [31, 32, 33, 34, 35, 36, 37, 38, 39, 40, 41, 42, 43, 44, 45] x).tmps[32]?.getD undef = .int .i64 sz := by have h := (frame_eval_in a0 [31, 32, 33, 34, 35, 36, 37, 38, 39, 40, 41, 42, 43, 44, 45] x 32 rfl (by omega)).trans d1; simpa [Act.eval] using h
      have ev33 : (frame a0 [31, 32, 33, 34, 35, 36, 37, 38, 39, 40, 41, 42, 43, 44, 45] x).tmps[33]?.getD undef = .int .i64 el := by have h := (frame_eval_in a0 [31, 32, 33, 34, 35, 36, 37, 38, 39, 40, 41, 42, 43, 44, 45] x 33 rfl (by omega)).trans d2; simpa [Act.eval] using h
      have ev34 : (frame a0 [31, 32, 33, 34, 35, 36, 37, 38, 39, 40, 41, 42, 43, 44, 45] x).tmps[34]?.getD undef = .int .i64 bt := by have h := (frame_eval_in a0 [31, 32, 33, 34, 35, 36, 37, 38, 39, 40, 41, 42, 43, 44, 45] x 34 rfl (by omega)).trans d3; simpa [Act.eval] using h
      have ev36 : (frame a0 [31, 32, 33, 34, 35, 36, 37, 38, 39, 40, 41, 42, 43, 44, 45] x).tmps[36]?.getD undef = .int .i64 t := by have h := (frame_eval_in a0 [31, 32, 33, 34, 35, 36, 37, 38, 39, 40, 41, 42, 43, 44, 45] x 36 rfl (by omega)).trans d5; simpa [Act.eval] using h
      have ev38 : (frame a0 [31, 32, 33, 34, 35, 36, 37, 38, 39, 40, 41, 42, 43, 44, 45] x).tmps[38]?.getD undef = .int .i64 v := by have h := (frame_eval_in a0 [31, 32, 33, 34, 35, 36, 37, 38, 39, 40, 41, 42, 43, 44, 45] x 38 rfl (by omega)).trans d7; simpa [Act.eval] using h
      have ev41 : (frame a0 [31, 32, 33, 34, 35, 36, 37, 38, 39, 40, 41, 42, 43, 44, 45] x).tmps[41]?.getD undef = .slice b2 l.length c2 := by have h := (frame_eval_in a0 [31, 32, 33, 34, 35, 36, 37, 38, 39, 40, 41, 42, 43, 44, 45] x 41 rfl (by omega)).trans ey; simpa [Act.eval] using h
      have ev44 : (frame a0 [31, 32, 33, 34, 35, 36, 37, 38, 39, 40, 41, 42, 43, 44, 45] x).tmps[44]?.getD undef = .int .i64 (toutC el dr) := by have h := (frame_eval_in a0 [31, 32, 33, 34, 35, 36, 37, 38, 39, 40, 41, 42, 43, 44, 45] x 44 rfl (by omega)).trans d13; simpa [Act.eval] using h
      refine wpOp_plain rfl rfl (wp_value_go (v := .agg #[.int .i64 id, .int .i64 sz, .int .i64 el, .int .i64 bt, .int .i64 t, .int .i64 v, .int .i64 0, .int .i64 0, .int .i64 0, .int .i64 0, .int .i64 (toutC el dr), .int .i64 0, .slice b2 l.length c2, .slice none 0 0, .slice none 0 0, .slice none 0 0, .slice none 0 0, .slice none 0 0]) ?_ ?_)
      · obtain ⟨aa, haa⟩ : ∃ aa, aa = frame a0 [31, 32, 33, 34, 35, 36, 37, 38, 39, 40, 41, 42, 43, 44, 45] x := ⟨_, rfl⟩
        rw [← haa] at ev31 ev32 ev33 ev34 ev36 ev38 ev41 ev44 ⊢
        clear haa HA0
        go_simp
      exact ⟨_, frame_put _ _ _ 45 _ rfl, hB, X1, (by obtain ⟨C, p1, p2, p3⟩ := X2; exact ⟨C, p1, p2, fun h9 => p3 (keepBit h9 (by omega) (by decide))⟩), X3, fun h => by rw [upd_ne _ _ _ _ (by decide)]; exact (h0 (keepBit h (by omega) (by decide))), fun h => by rw [upd_ne _ _ _ _ (by decide)]; exact (h1 (keepBit h (by omega) (by decide))), fun h => by rw [upd_ne _ _ _ _ (by decide)]; exact (h2 (keepBit h (by omega) (by decide))), fun h => by rw [upd_ne _ _ _ _ (by decide)]; exact (h3 (keepBit h (by omega) (by decide))), fun h => by rw [upd_ne _ _ _ _ (by decide)]; exact (h4 (keepBit h (by omega) (by decide))), fun h => by rw [upd_ne _ _ _ _ (by decide)]; exact (h5 (keepBit h (by omega) (by decide))), fun h => by rw [upd_ne _ _ _ _ (by decide)]; exact (h6 (keepBit h (by omega) (by decide))), fun h => by rw [upd_ne _ _ _ _ (by decide)]; exact (h7 (keepBit h (by omega) (by decide))), fun h => by rw [upd_ne _ _ _ _ (by decide)]; exact (h8 (keepBit h (by omega) (by decide))), fun h => by rw [upd_ne _ _ _ _ (by decide)]; exact (h9 (keepBit h (by omega) (by decide))), fun h => by rw [upd_ne _ _ _ _ (by decide)]; exact (by obtain ⟨b2, c2, ey, ho⟩ := (h10 (keepBit h (by omega) (by decide))); exact ⟨b2, c2, ey, ho.below (Below.refl _ _)⟩), fun h => by rw [upd_ne _ _ _ _ (by decide)]; exact (h11 (keepBit h (by omega) (by decide))), fun h => by rw [upd_ne _ _ _ _ (by decide)]; exact (h12 (keepBit h (by omega) (by decide))), fun h => by rw [upd_ne _ _ _ _ (by decide)]; exact (h13 (keepBit h (by omega) (by decide))), fun h => ⟨b2, c2, upd_same _ _ _, ho2⟩, fun h => trivial⟩
    · have d14 := h14 (ready_needs hi (by decide))
      obtain ⟨b2, c2, ey, ho2⟩ := d14
      obtain ⟨C, p1, p2, p3⟩ := X2
      have evp := (frame_eval a0 [31, 32, 33, 34, 35, 36, 37, 38, 39, 40, 41, 42, 43, 44, 45] x 12 rfl).trans e12
      have evs := (frame_eval_in a0 [31, 32, 33, 34, 35, 36, 37, 38, 39, 40, 41, 42, 43, 44, 45] x 45 rfl (by omega)).trans ey
      refine wpOp_plain rfl rfl (wp_store_blk 61 (.tmp 12) (.tmp 45) rfl (w.heap.size + 1) evp evs p1 sizeNw rfl p2 (by simp [Value.oneCell']) ?_)
      exact ⟨_, rfl, below_row hB (by omega) _, X1.row_other _ (by omega), ⟨_, p1.row _, rfl, fun _ => ⟨b2, c2, rfl, ho2.block fun k hk => setRow_other _ _ _ _ (by have h9 := (ho2.2.lt k hk).1; omega)⟩⟩, (by rw [setRow_size]; exact X3), fun h => (h0 (keepBit h (by omega) (by decide))), fun h => (h1 (keepBit h (by omega) (by decide))), fun h => (h2 (keepBit h (by omega) (by decide))), fun h => (h3 (keepBit h (by omega) (by decide))), fun h => (h4 (keepBit h (by omega) (by decide))), fun h => (h5 (keepBit h (by omega) (by decide))), fun h => (h6 (keepBit h (by omega) (by decide))), fun h => (h7 (keepBit h (by omega) (by decide))), fun h => (h8 (keepBit h (by omega) (by decide))), fun h => (h9 (keepBit h (by omega) (by decide))), fun h => (by obtain ⟨b2, c2, ey, ho⟩ := (h10 (keepBit h (by omega) (by decide))); exact ⟨b2, c2, ey, ho.block fun k hk => setRow_other _ _ _ _ (by have h9 := (ho.2.lt k hk).1; omega)⟩), fun h => (h11 (keepBit h (by omega) (by decide))), fun h => (h12 (keepBit h (by omega) (by decide))), fun h => (h13 (keepBit h (by omega) (by decide))), fun h => (by obtain ⟨b2, c2, ey, ho⟩ := (h14 (keepBit h (by omega) (by decide))); exact ⟨b2, c2, ey, ho.block fun k hk => setRow_other _ _ _ _ (by have h9 := (ho.2.lt k hk).1; omega)⟩), fun h => trivial⟩
  · rintro L a w' hsL hr ⟨x, rfl, hB, X1, X2, X3, h0, h1, h2, h3, h4, h5, h6, h7, h8, h9, h10, h11, h12, h13, h14, h15⟩
    have hall := ready_nil hsL hr (by decide)
    replace h0 := h0 (hall 0 (by decide))
    replace h1 := h1 (hall 1 (by decide))
    replace h2 := h2 (hall 2 (by decide))
    replace h3 := h3 (hall 3 (by decide))
    replace h4 := h4 (hall 4 (by decide))
    replace h5 := h5 (hall 5 (by decide))
    replace h6 := h6 (hall 6 (by decide))
    replace h7 := h7 (hall 7 (by decide))
    replace h8 := h8 (hall 8 (by decide))
    replace h9 := h9 (hall 9 (by decide))
    replace h10 := h10 (hall 10 (by decide))
    replace h11 := h11 (hall 11 (by decide))
    replace h12 := h12 (hall 12 (by decide))
    replace h13 := h13 (hall 13 (by decide))
    replace h14 := h14 (hall 14 (by decide))
    replace h15 := h15 (hall 15 (by decide))
    rw [HA0.out]
    simp only [frame, List.zipIdx_cons, List.zipIdx_nil, List.map_cons, List.map_nil, List.contains_cons, List.contains_nil, Nat.reduceBEq, Nat.reduceAdd, Bool.or_false, Bool.false_or, Bool.or_true, Bool.true_or, Bool.false_eq_true, if_false, if_true, h0, h1, h2, h3, h4, h5, h6, h7, h8, h9, h11, h12, h13, h15]
    obtain ⟨C, p1, p2, p3⟩ := X2
    obtain ⟨b2, c2, rfl, ho2⟩ := p3 (hall 15 (by decide))
    go_wp2
    exact bodyPost_ret (v := .agg #[.int .i64 id, .int .i64 sz, .int .i64 el, .int .i64 bt, .int .i64 t, .int .i64 v, .int .i64 0, .int .i64 0, .int .i64 0, .int .i64 0, .int .i64 (toutC el dr), .int .i64 0, .slice b2 l.length c2, .slice none 0 0, .slice none 0 0, .slice none 0 0, .slice none 0 0, .slice none 0 0]) (results_blk Try.results32 rfl p1 Try.underlying61 rfl sizeNw rfl) rfl ⟨b2, c2, rfl, ho2.le (by omega), hB⟩
end Go.Proofs.Ytceokablbefjhaa
