/-
  The walk of the law FnExactApplyCmd.
-/
import Derived.Test.YtelfejhopjbhpaaTbX
import Derived.Test.YtelfejhopjbhpaaTsCmd
import Derived.Test.YtelfejhopjbhpaaTbCmdI
import Derived.Test.YtelfejhopjbhpaaRegInv
namespace Go.Proofs.Ytelfejhopjbhpaa
open Go.RowKit Go.Maps
set_option linter.unusedVariables false
set_option linter.unusedSimpArgs false

theorem sizeLTab : (Try.prog.info? 50).map (·.size) = some 2 := by kernel_rfl
theorem sizeTab : (Try.prog.info? 29).map (·.size) = some 2 := by kernel_rfl
theorem sizeLCmd : (Try.prog.info? 51).map (·.size) = some 6 := by kernel_rfl
theorem TabR.at_lo {lo lo' hi : Nat} {w : World} {v u : Value} {ps : List Pr} {ss : List Se} (h : TabR lo hi w v u ps ss) (e : lo' = lo) : TabR lo' hi w v u ps ss := e ▸ h

set_option maxHeartbeats 16000000 in
set_option maxRecDepth 100000 in
theorem lawApplyCmd_walk (vl ul : Value) (ps : List Pr) (ss : List Se) (cl sq op : Int) (k v o : ByteArray) {w : World} (hv : Ps w vl ps) (hu : Ss w ul ss) (hf : ∀ p ∈ ps, p.k.size ≤ maxLen ∧ p.v.size ≤ maxLen) (hg : ∀ p ∈ ss, p.v.size ≤ maxLen) (hcl : (Lit.int .i64 cl).wf = true) (hkm : k.size ≤ maxLen) (hvm : v.size ≤ maxLen) (hom : o.size ≤ maxLen) :
    Calls Try.prog 5 #[.agg #[vl, ul], .agg #[.int .i64 cl, .int .i64 sq, .int .i64 op, .string k, .string v, .string o]] w fun e w' => e = .returned (.bool true) ∧ Below w.heap.size w w' := by
  have HV : Hid (Ps w vl ps) := hv
  have HU : Hid (Ss w ul ss) := hu
  have HF : Hid (∀ p ∈ ps, p.k.size ≤ maxLen ∧ p.v.size ≤ maxLen) := hf
  have HGG : Hid (∀ p ∈ ss, p.v.size ≤ maxLen) := hg
  obtain ⟨_, av, cp, rfl, _⟩ := hv
  obtain ⟨_, bv, dp, rfl, _⟩ := hu
  have HSp : Hid (∀ (u : World) (q : Nat × Nat), (Ps u (.slice (some ⟨q.1, 0, none⟩) ps.length ps.length) ps ∧ Ss u (.slice (some ⟨q.2, 0, none⟩) ss.length ss.length) ss) → ((ps.length ≤ 1048576 ∧ ∀ p ∈ ps, p.k.size ≤ 1048576 ∧ p.v.size ≤ 1048576) ∧ (ss.length ≤ 1048576 ∧ ∀ p ∈ ss, p.v.size ≤ 1048576)) → (k.size ≤ 1048576 ∧ v.size ≤ 1048576 ∧ o.size ≤ 1048576) → Calls Try.prog 20 #[.agg #[.slice (some ⟨q.1, 0, none⟩) ps.length ps.length, .slice (some ⟨q.2, 0, none⟩) ss.length ss.length], .agg #[.int .i64 cl, .int .i64 sq, .int .i64 op, .string k, .string v, .string o]] u fun e w' => AnsT u w' e (applyA ps ss cl sq op k v o)) := fun u q hq hl hk => sApplyCmd_any _ _ ps ss cl sq op k v o u hq.1 hq.2 hl.1.2 hl.2.2 hl.1.1 hl.2.1 hk.1 hk.2.1 hk.2.2
  have HIm : Hid (∀ (u : World) (q : Nat × Nat), (Ps u (.slice (some ⟨q.1, 0, none⟩) ps.length ps.length) ps ∧ Ss u (.slice (some ⟨q.2, 0, none⟩) ss.length ss.length) ss) → ((ps.length ≤ 1048576 ∧ ∀ p ∈ ps, p.k.size ≤ 1048576 ∧ p.v.size ≤ 1048576) ∧ (ss.length ≤ 1048576 ∧ ∀ p ∈ ss, p.v.size ≤ 1048576)) → (k.size ≤ 1048576 ∧ v.size ≤ 1048576 ∧ o.size ≤ 1048576) → Calls Try.prog 10 #[.agg #[.slice (some ⟨q.1, 0, none⟩) ps.length ps.length, .slice (some ⟨q.2, 0, none⟩) ss.length ss.length], .agg #[.int .i64 cl, .int .i64 sq, .int .i64 op, .string k, .string v, .string o]] u fun e w' => AnsT u w' e (applyA ps ss cl sq op k v o)) := fun u q hq hl hk => implApplyCmd_any _ _ ps ss cl sq op k v o u hq.1 hq.2 hl.1.2 hl.2.2 hl.1.1 hl.2.1 hcl hk.1 hk.2.1 hk.2.2
  obtain ⟨hx3, hx4⟩ := applyA_small ps ss cl sq op k v o
  generalize applyA ps ss cl sq op k v o = x at HSp HIm hx3 hx4
  obtain ⟨X0, X1, X2, x3, x4⟩ := x
  unfold AnsT at HSp HIm
  dsimp only at HSp HIm hx3 hx4
  have hx3m : x3.length ≤ maxLen := by unfold maxLen; omega
  have hx4m : x4.length ≤ maxLen := by unfold maxLen; omega
  clear hf hg
  have g1 : True := trivial
  have g2 : True := trivial
  have g3 : True := trivial
  have g4 : True := trivial
  have g5 : True := trivial
  have g6 : True := trivial
  have g7 : True := trivial
  have g8 : True := trivial
  have g9 : True := trivial
  have g10 : True := trivial
  have g11 : True := trivial
  have g12 : True := trivial
  go_enter Try.func5, Try.ntmps5
  go_wp2_with (first
    | (refine gate_ld 50 (.tmp 2) rfl ?_; clear g1; refine wpl_load_blk rfl 50 (.tmp 2) rfl (w.heap.size) rfl ((Blk.new _ _ _).alloc _) Try.underlying50 rfl sizeLTab rfl ?_)
    | (go_at_call 18; refine Calls.mono (szTable_u _ _ ps ss _ (HV.out.below (((Below.refl _ _).alloc (Nat.le_refl _) _).alloc (by simp) _)) (HU.out.below (((Below.refl _ _).alloc (Nat.le_refl _) _).alloc (by simp) _)) HF.out HGG.out) ?_; rintro e w1 ⟨⟨s1, rfl, hs1, hs1'⟩, hb⟩; have zw1 : w.heap.size + 2 ≤ w1.heap.size := (by have := hb.size; simp at this; omega); have BA : Hid (Blk w1 w.heap.size #[.slice av ps.length cp, .slice bv ss.length dp] 50) := ((Blk.new w _ _).alloc _).below hb (by simp; omega); have BC : Hid (Blk w1 (w.heap.size + 1) #[.int .i64 cl, .int .i64 sq, .int .i64 op, .string k, .string v, .string o] 51) := (Blk.new' (w.alloc _) _ _ (by simp)).below hb (by simp); have HB : Hid (Below w.heap.size w w1) := (((Below.refl _ _).alloc (Nat.le_refl _) _).alloc (by simp) _).trans (hb.mono (by simp; omega)); clear hb)
    | (have hBA := BC; refine gate_ld 51 (.tmp 3) rfl ?_; clear hBA; refine wpl_load_blk rfl 51 (.tmp 3) rfl (w.heap.size + 1) rfl BC.out Try.underlying51 rfl sizeLCmd rfl ?_)
    | (go_at_call 19; refine Calls.mono (szCmd_u cl sq op k v o hkm hvm hom _ (by omega) (by omega) _) ?_; rintro e w2 ⟨⟨s2, rfl, hs2, hs2'⟩, hb⟩; have hbb : Below w1.heap.size w1 w2 := hb; have zw2 : w1.heap.size ≤ w2.heap.size := hbb.size; replace BA : Hid (Blk w2 (w.heap.size) #[.slice av ps.length cp, .slice bv ss.length dp] 50) := BA.out.below hbb (by omega); replace BC : Hid (Blk w2 (w.heap.size + 1) #[.int .i64 cl, .int .i64 sq, .int .i64 op, .string k, .string v, .string o] 51) := BC.out.below hbb (by omega); replace HB : Hid (Below w.heap.size w w2) := HB.out.trans (hbb.mono (by omega)); clear hb hbb))
  all_goals try (go_ret; exact ⟨rfl, HB.out⟩)
  have hl : ((ps.length ≤ 1048576 ∧ ∀ p ∈ ps, p.k.size ≤ 1048576 ∧ p.v.size ≤ 1048576) ∧ (ss.length ≤ 1048576 ∧ ∀ p ∈ ss, p.v.size ≤ 1048576)) := hs1' (by omega)
  have hk : (k.size ≤ 1048576 ∧ v.size ≤ 1048576 ∧ o.size ≤ 1048576) := hs2' (by omega)
  have BAo := BA.out
  have BCo := BC.out
  refine wp_named ?_
  intro a0 ha0
  have hsz0 : a0.tmps.size = 82 := by rw [ha0]; rfl
  have e2 : a0.eval (.tmp 2) = .pointer (some ⟨w.heap.size, 0, none⟩) := by rw [ha0]; rfl
  have e3 : a0.eval (.tmp 3) = .pointer (some ⟨w.heap.size + 1, 0, none⟩) := by rw [ha0]; rfl
  have HA0 : Hid (a0 = _) := ha0
  clear ha0
  refine wp_region_inv (by kernel_rfl) (fun L aF w' => ∃ x : Nat → Value, aF = frame a0 [23, 24, 25, 26, 27, 6] x ∧ Below w2.heap.size w2 w' ∧ (L.getD 0 false = true → x 23 = .agg #[.slice av ps.length cp, .slice bv ss.length dp]) ∧ (L.getD 1 false = true → ∃ z : Nat × Nat, x 24 = .agg #[.slice (some ⟨z.1, 0, none⟩) ps.length ps.length, .slice (some ⟨z.2, 0, none⟩) ss.length ss.length] ∧ (L.getD 4 false = true ∨ (Ps w' (.slice (some ⟨z.1, 0, none⟩) ps.length ps.length) ps ∧ Ss w' (.slice (some ⟨z.2, 0, none⟩) ss.length ss.length) ss))) ∧ (L.getD 2 false = true → x 25 = .agg #[.int .i64 cl, .int .i64 sq, .int .i64 op, .string k, .string v, .string o]) ∧ (L.getD 3 false = true → x 26 = .agg #[.int .i64 cl, .int .i64 sq, .int .i64 op, .string k, .string v, .string o]) ∧ (L.getD 4 false = true → ∃ va vc ua uc, x 27 = .agg #[.int .i64 X0, .int .i64 X1, .string X2, .slice va x3.length vc, .slice ua x4.length uc] ∧ TabO w' w2.heap.size (.slice va x3.length vc) (.slice ua x4.length uc) x3 x4) ∧ (L.getD 5 false = true → ∃ p C, x 6 = .pointer (some ⟨p, 0, none⟩) ∧ w2.heap.size ≤ p ∧ Blk w' p C 37 ∧ C.size = 5 ∧ (L.getD 6 false = true → ∃ va vc ua uc, C = #[.int .i64 X0, .int .i64 X1, .string X2, .slice va x3.length vc, .slice ua x4.length uc] ∧ TabO w' w2.heap.size (.slice va x3.length vc) (.slice ua x4.length uc) x3 x4)) ∧ (L.getD 6 false = true → L.getD 5 false = true)) ?_ ?_ ?_
  · exact ⟨_, frame_self a0 [23, 24, 25, 26, 27, 6], (Below.refl _ _).drew, fun h => (noBit h).elim, fun h => (noBit h).elim, fun h => (noBit h).elim, fun h => (noBit h).elim, fun h => (noBit h).elim, fun h => (noBit h).elim, fun h => (noBit h).elim⟩
  · rintro L a w' i hsL hi ⟨x, rfl, hB, h0, h1, h2, h3, h4, h5, h6⟩
    have hiL : i < 7 := (ready_mem hsL hi).1
    have hL : L.size = 7 := hsL
    have hw' : w2.heap.size ≤ w'.heap.size := hB.size
    rcases (show i = 0 ∨ i = 1 ∨ i = 2 ∨ i = 3 ∨ i = 4 ∨ i = 5 ∨ i = 6 by omega) with rfl | rfl | rfl | rfl | rfl | rfl | rfl
    · skip
      refine wpOp_plain rfl rfl (wp_load_blk 50 (.tmp 2) rfl (w.heap.size) ((frame_eval _ _ _ 2 rfl).trans e2) (BAo.below hB (by omega)) Try.underlying50 rfl sizeLTab rfl ?_)
      exact ⟨_, frame_put _ _ _ 23 _ rfl, hB, fun h => upd_same _ _ _, fun h => by rw [upd_ne _ _ _ _ (by decide)]; exact (by obtain ⟨z, ez, hz⟩ := (h1 (keepBit h (by omega) (by decide))); exact ⟨z, ez, hz.imp (fun hq => setBit hq (by omega)) id⟩), fun h => by rw [upd_ne _ _ _ _ (by decide)]; exact (h2 (keepBit h (by omega) (by decide))), fun h => by rw [upd_ne _ _ _ _ (by decide)]; exact (h3 (keepBit h (by omega) (by decide))), fun h => by rw [upd_ne _ _ _ _ (by decide)]; exact (h4 (keepBit h (by omega) (by decide))), fun h => by obtain ⟨p, C, ep, hp, hP, hC, hR⟩ := h5 (keepBit h (by omega) (by decide)); exact ⟨p, C, (upd_ne _ _ _ _ (by decide)).trans ep, hp, hP, hC, fun hq6 => (hR (keepBit hq6 (by omega) (by decide)))⟩, fun h => setBit (h6 (keepBit h (by omega) (by decide))) (by omega)⟩
    · have d0 := h0 (ready_needs hi (by decide))
      have ev23 := (frame_eval_in a0 [23, 24, 25, 26, 27, 6] x 23 rfl (by omega)).trans d0
      refine wpOp_plain rfl rfl (wp_call_go (N := 21) rfl (fun _ _ => by go_simp) #[.agg #[.slice av ps.length cp, .slice bv ss.length dp]] (by simp only [List.map_toArray, List.map_cons, List.map_nil, ev23]) ?_)
      refine Calls.mono (toTable_u _ _ ps ss _ (HV.out.below (HB.out.trans (hB.mono (by omega)))) (HU.out.below (HB.out.trans (hB.mono (by omega)))) hl.1.1 hl.2.1) ?_
      rintro e w2 ⟨z, rfl, f0, hb⟩
      refine ⟨_, rfl, ?_⟩
      exact ⟨_, frame_put _ _ _ 24 _ rfl, hB.trans (hb.mono hw'), fun h => by rw [upd_ne _ _ _ _ (by decide)]; exact (h0 (keepBit h (by omega) (by decide))), fun h => ⟨z, upd_same _ _ _, .inr ⟨f0.prs, f0.ses⟩⟩, fun h => by rw [upd_ne _ _ _ _ (by decide)]; exact (h2 (keepBit h (by omega) (by decide))), fun h => by rw [upd_ne _ _ _ _ (by decide)]; exact (h3 (keepBit h (by omega) (by decide))), fun h => by rw [upd_ne _ _ _ _ (by decide)]; exact (by obtain ⟨va, vc, ua, uc, ey, ho⟩ := (h4 (keepBit h (by omega) (by decide))); exact ⟨va, vc, ua, uc, ey, ho.below hb⟩), fun h => by obtain ⟨p, C, ep, hp, hP, hC, hR⟩ := h5 (keepBit h (by omega) (by decide)); exact ⟨p, C, (upd_ne _ _ _ _ (by decide)).trans ep, hp, hP.below hb hP.lt, hC, fun hq6 => (by obtain ⟨va, vc, ua, uc, ey, ho⟩ := (hR (keepBit hq6 (by omega) (by decide))); exact ⟨va, vc, ua, uc, ey, ho.below hb⟩)⟩, fun h => setBit (h6 (keepBit h (by omega) (by decide))) (by omega)⟩
    · skip
      refine wpOp_plain rfl rfl (wp_load_blk 51 (.tmp 3) rfl (w.heap.size + 1) ((frame_eval _ _ _ 3 rfl).trans e3) (BCo.below hB (by omega)) Try.underlying51 rfl sizeLCmd rfl ?_)
      exact ⟨_, frame_put _ _ _ 25 _ rfl, hB, fun h => by rw [upd_ne _ _ _ _ (by decide)]; exact (h0 (keepBit h (by omega) (by decide))), fun h => by rw [upd_ne _ _ _ _ (by decide)]; exact (by obtain ⟨z, ez, hz⟩ := (h1 (keepBit h (by omega) (by decide))); exact ⟨z, ez, hz.imp (fun hq => setBit hq (by omega)) id⟩), fun h => upd_same _ _ _, fun h => by rw [upd_ne _ _ _ _ (by decide)]; exact (h3 (keepBit h (by omega) (by decide))), fun h => by rw [upd_ne _ _ _ _ (by decide)]; exact (h4 (keepBit h (by omega) (by decide))), fun h => by obtain ⟨p, C, ep, hp, hP, hC, hR⟩ := h5 (keepBit h (by omega) (by decide)); exact ⟨p, C, (upd_ne _ _ _ _ (by decide)).trans ep, hp, hP, hC, fun hq6 => (hR (keepBit hq6 (by omega) (by decide)))⟩, fun h => setBit (h6 (keepBit h (by omega) (by decide))) (by omega)⟩
    · have d2 := h2 (ready_needs hi (by decide))
      have ev25 := (frame_eval_in a0 [23, 24, 25, 26, 27, 6] x 25 rfl (by omega)).trans d2
      refine wpOp_plain rfl rfl (wp_call_go (N := 22) rfl (fun _ _ => by go_simp) #[.agg #[.int .i64 cl, .int .i64 sq, .int .i64 op, .string k, .string v, .string o]] (by simp only [List.map_toArray, List.map_cons, List.map_nil, ev25]) ?_)
      refine Calls.mono (toCmd_u cl sq op k v o _) ?_
      rintro e w2 ⟨rfl, hb⟩
      refine ⟨_, rfl, ?_⟩
      exact ⟨_, frame_put _ _ _ 26 _ rfl, hB.trans (hb.mono hw'), fun h => by rw [upd_ne _ _ _ _ (by decide)]; exact (h0 (keepBit h (by omega) (by decide))), fun h => by rw [upd_ne _ _ _ _ (by decide)]; exact (by obtain ⟨z, ez, hz⟩ := (h1 (keepBit h (by omega) (by decide))); exact ⟨z, ez, hz.imp (fun hq => setBit hq (by omega)) (fun hq => ⟨hq.1.below hb, hq.2.below hb⟩)⟩), fun h => by rw [upd_ne _ _ _ _ (by decide)]; exact (h2 (keepBit h (by omega) (by decide))), fun h => upd_same _ _ _, fun h => by rw [upd_ne _ _ _ _ (by decide)]; exact (by obtain ⟨va, vc, ua, uc, ey, ho⟩ := (h4 (keepBit h (by omega) (by decide))); exact ⟨va, vc, ua, uc, ey, ho.below hb⟩), fun h => by obtain ⟨p, C, ep, hp, hP, hC, hR⟩ := h5 (keepBit h (by omega) (by decide)); exact ⟨p, C, (upd_ne _ _ _ _ (by decide)).trans ep, hp, hP.below hb hP.lt, hC, fun hq6 => (by obtain ⟨va, vc, ua, uc, ey, ho⟩ := (hR (keepBit hq6 (by omega) (by decide))); exact ⟨va, vc, ua, uc, ey, ho.below hb⟩)⟩, fun h => setBit (h6 (keepBit h (by omega) (by decide))) (by omega)⟩
    · have d1 := h1 (ready_needs hi (by decide))
      have d3 := h3 (ready_needs hi (by decide))
      obtain ⟨z, ez, hz⟩ := d1
      have hpz := hz.resolve_left (fun hq => readyBit hsL hi hq)
      have ev24 := (frame_eval_in a0 [23, 24, 25, 26, 27, 6] x 24 rfl (by omega)).trans ez
      have ev26 := (frame_eval_in a0 [23, 24, 25, 26, 27, 6] x 26 rfl (by omega)).trans d3
      refine wpOp_plain rfl rfl (wp_call_go (N := 20) rfl (fun _ _ => by go_simp) #[.agg #[.slice (some ⟨z.1, 0, none⟩) ps.length ps.length, .slice (some ⟨z.2, 0, none⟩) ss.length ss.length], .agg #[.int .i64 cl, .int .i64 sq, .int .i64 op, .string k, .string v, .string o]] (by simp only [List.map_toArray, List.map_cons, List.map_nil, ev24, ev26]) ?_)
      refine Calls.mono (HSp.out _ _ hpz hl hk) ?_
      rintro e w2 ⟨va, vc, ua, uc, rfl, ho, hb⟩
      refine ⟨_, rfl, ?_⟩
      exact ⟨_, frame_put _ _ _ 27 _ rfl, hB.trans (hb.mono hw'), fun h => by rw [upd_ne _ _ _ _ (by decide)]; exact (h0 (keepBit h (by omega) (by decide))), fun h => by rw [upd_ne _ _ _ _ (by decide)]; exact (by obtain ⟨z, ez, hz⟩ := (h1 (keepBit h (by omega) (by decide))); exact ⟨z, ez, hz.imp (fun hq => setBit hq (by omega)) (fun hq => ⟨hq.1.below hb, hq.2.below hb⟩)⟩), fun h => by rw [upd_ne _ _ _ _ (by decide)]; exact (h2 (keepBit h (by omega) (by decide))), fun h => by rw [upd_ne _ _ _ _ (by decide)]; exact (h3 (keepBit h (by omega) (by decide))), fun h => ⟨va, vc, ua, uc, upd_same _ _ _, ho.le hw'⟩, fun h => by obtain ⟨p, C, ep, hp, hP, hC, hR⟩ := h5 (keepBit h (by omega) (by decide)); exact ⟨p, C, (upd_ne _ _ _ _ (by decide)).trans ep, hp, hP.below hb hP.lt, hC, fun hq6 => (by obtain ⟨va, vc, ua, uc, ey, ho⟩ := (hR (keepBit hq6 (by omega) (by decide))); exact ⟨va, vc, ua, uc, ey, ho.below hb⟩)⟩, fun h => setBit (h6 (keepBit h (by omega) (by decide))) (by omega)⟩
    · skip
      refine wpOp_plain rfl rfl (wp_alloc_go 37 #[.int .i64 0, .int .i64 0, .string ⟨#[]⟩, .slice none 0 0, .slice none 0 0] rfl (fun _ => by go_simp) ?_)
      have hb : Below w'.heap.size w' (w'.alloc (.cells #[.int .i64 0, .int .i64 0, .string ⟨#[]⟩, .slice none 0 0, .slice none 0 0] 37)) := (Below.refl _ _).alloc (Nat.le_refl _) _
      exact ⟨_, frame_put _ _ _ 6 _ rfl, hB.alloc hw' _, fun h => by rw [upd_ne _ _ _ _ (by decide)]; exact (h0 (keepBit h (by omega) (by decide))), fun h => by rw [upd_ne _ _ _ _ (by decide)]; exact (by obtain ⟨z, ez, hz⟩ := (h1 (keepBit h (by omega) (by decide))); exact ⟨z, ez, hz.imp (fun hq => setBit hq (by omega)) (fun hq => ⟨hq.1.below hb, hq.2.below hb⟩)⟩), fun h => by rw [upd_ne _ _ _ _ (by decide)]; exact (h2 (keepBit h (by omega) (by decide))), fun h => by rw [upd_ne _ _ _ _ (by decide)]; exact (h3 (keepBit h (by omega) (by decide))), fun h => by rw [upd_ne _ _ _ _ (by decide)]; exact (by obtain ⟨va, vc, ua, uc, ey, ho⟩ := (h4 (keepBit h (by omega) (by decide))); exact ⟨va, vc, ua, uc, ey, ho.below hb⟩), fun h => ⟨_, _, upd_same _ _ _, hw', Blk.new _ _ _, rfl, fun hq6 => (readyBit hsL hi (h6 (keepBit hq6 (by omega) (by decide)))).elim⟩, fun h => setSelf (by omega)⟩
    · have d4 := h4 (ready_needs hi (by decide))
      have d5 := h5 (ready_needs hi (by decide))
      obtain ⟨p, C, ep, hp, hP, hC, hR⟩ := d5
      obtain ⟨va, vc, ua, uc, ey, ho⟩ := d4
      have evp := (frame_eval_in a0 [23, 24, 25, 26, 27, 6] x 6 rfl (by omega)).trans ep
      have evs := (frame_eval_in a0 [23, 24, 25, 26, 27, 6] x 27 rfl (by omega)).trans ey
      refine wpOp_plain rfl rfl (wp_store_blk 37 (.tmp 6) (.tmp 27) rfl p evp evs hP infoAns rfl hC (by simp [Value.oneCell']) ?_)
      exact ⟨_, rfl, below_row hB hp _, fun h => (h0 (keepBit h (by omega) (by decide))), fun h => (by obtain ⟨z, ez, hz⟩ := (h1 (keepBit h (by omega) (by decide))); exact ⟨z, ez, .inl (setBit (ready_needs hi (by decide)) (by omega))⟩), fun h => (h2 (keepBit h (by omega) (by decide))), fun h => (h3 (keepBit h (by omega) (by decide))), fun h => (by obtain ⟨va, vc, ua, uc, ey, ho⟩ := (h4 (keepBit h (by omega) (by decide))); exact ⟨va, vc, ua, uc, ey, ho.row hP _⟩), fun h => ⟨p, _, ep, hp, hP.row _, rfl, fun _ => ⟨va, vc, ua, uc, rfl, ho.row hP _⟩⟩, fun h => setBit (ready_needs hi (by decide)) (by omega)⟩
  · rintro L a w' hsL hr ⟨x, rfl, hB, h0, h1, h2, h3, h4, h5, h6⟩
    have hall := ready_nil hsL hr (by decide)
    replace h0 := h0 (hall 0 (by decide))
    replace h1 := h1 (hall 1 (by decide))
    replace h2 := h2 (hall 2 (by decide))
    replace h3 := h3 (hall 3 (by decide))
    replace h4 := h4 (hall 4 (by decide))
    replace h5 := h5 (hall 5 (by decide))
    replace h6 := h6 (hall 6 (by decide))
    obtain ⟨p, C, ep, hp, hP, hC, hR⟩ := h5
    replace hR := hR (hall 6 (by decide))
    rw [HA0.out]
    simp only [frame, List.zipIdx_cons, List.zipIdx_nil, List.map_cons, List.map_nil, List.contains_cons, List.contains_nil, Nat.reduceBEq, Nat.reduceAdd, Bool.or_false, Bool.false_or, Bool.or_true, Bool.true_or, Bool.false_eq_true, if_false, if_true, h0, h2, h3, ep]
    obtain ⟨w3, hw3⟩ : ∃ x, x = w' := ⟨_, rfl⟩
    subst hw3
    have hbb : Below w2.heap.size w2 w3 := hB
    have zw3 : w2.heap.size ≤ w3.heap.size := hbb.size
    replace BA : Hid (Blk w3 (w.heap.size) #[.slice av ps.length cp, .slice bv ss.length dp] 50) := BA.out.below hbb (by omega)
    replace BC : Hid (Blk w3 (w.heap.size + 1) #[.int .i64 cl, .int .i64 sq, .int .i64 op, .string k, .string v, .string o] 51) := BC.out.below hbb (by omega)
    replace HB : Hid (Below w.heap.size w w3) := HB.out.trans (hbb.mono (by omega))
    obtain ⟨va3, vc3, ua3, uc3, hCe, hT⟩ := hR
    subst hCe
    obtain ⟨la3, ra3, lb3, rb3, hsa3, hsb3, hsp3, hTX⟩ := hT.x hx3m hx4m zw3 hP
    have hpl3 := hP.lt
    obtain ⟨p6, hpe⟩ : ∃ q, q = p := ⟨_, rfl⟩
    subst hpe
    have BW : Hid (Blk w3 p6 #[.int .i64 X0, .int .i64 X1, .string X2, .slice va3 x3.length vc3, .slice ua3 x4.length uc3] 37) := hP
    have HW : Hid (TabX la3 ra3 lb3 rb3 w3 (.slice va3 x3.length vc3) (.slice ua3 x4.length uc3) x3 x4) := hTX
    clear BAo BCo hbb hB hT hTX hP h0 h2 h3 h6 hall hr hsL HA0 hsz0 e2 e3 hC ep
    obtain ⟨z1, ez1, _⟩ := h1
    obtain ⟨_, _, _, _, ez4, _⟩ := h4
    rw [ez1, ez4]
    clear ez1 ez4
    go_wp2_with (first
      | (have hBA := BA; refine gate_ld 50 (.tmp 2) rfl ?_; clear hBA; refine wpl_load_blk rfl 50 (.tmp 2) rfl (w.heap.size) rfl BA.out Try.underlying50 rfl sizeLTab rfl ?_)
      | (go_at_call 21; refine Calls.mono (toTable_u _ _ ps ss _ (HV.out.below HB.out) (HU.out.below HB.out) hl.1.1 hl.2.1) ?_; rintro e w4 ⟨qX, rfl, ho, hb⟩; have hbb : Below w3.heap.size w3 w4 := hb; have zw4 : w3.heap.size ≤ w4.heap.size := hbb.size; replace BA : Hid (Blk w4 (w.heap.size) #[.slice av ps.length cp, .slice bv ss.length dp] 50) := BA.out.below hbb (by omega); replace BC : Hid (Blk w4 (w.heap.size + 1) #[.int .i64 cl, .int .i64 sq, .int .i64 op, .string k, .string v, .string o] 51) := BC.out.below hbb (by omega); replace BW : Hid (Blk w4 (p6) #[.int .i64 X0, .int .i64 X1, .string X2, .slice va3 x3.length vc3, .slice ua3 x4.length uc3] 37) := BW.out.below hbb (by omega); replace HW : Hid (TabX la3 ra3 lb3 rb3 w4 (.slice va3 x3.length vc3) (.slice ua3 x4.length uc3) x3 x4) := HW.out.keep fun k kk => hbb.block k (by omega); replace HB : Hid (Below w.heap.size w w4) := HB.out.trans (hbb.mono (by omega)); have HX : Hid (TabR (w3.heap.size) (w4.heap.size) w4 (.slice (some ⟨qX.1, 0, none⟩) ps.length ps.length) (.slice (some ⟨qX.2, 0, none⟩) ss.length ss.length) ps ss) := ho; clear hb hbb ho)
      | (have hBA := HX; refine gate_st 29 (.tmp 7) _ rfl ?_; clear hBA; refine wpl_store_last rfl 29 (.tmp 7) _ rfl (w4.heap.size) rfl rfl rfl sizeTab rfl rfl (by simp [Value.oneCell']) ?_))
    have hpn : ∀ (a : Act) (y : Value), a.put none y = a := fun _ _ => rfl
    simp only [hpn]
    clear hpn
    obtain ⟨w5, hw5⟩ : ∃ w5, w5 = w4.alloc (.cells #[.slice (some ⟨qX.1, 0, none⟩) ps.length ps.length, .slice (some ⟨qX.2, 0, none⟩) ss.length ss.length] 29) := ⟨_, rfl⟩
    rw [← hw5]
    have hbb : Below w4.heap.size w4 w5 := by rw [hw5]; exact (Below.refl _ _).alloc (Nat.le_refl _) _
    have BX : Hid (Blk w5 w4.heap.size #[.slice (some ⟨qX.1, 0, none⟩) ps.length ps.length, .slice (some ⟨qX.2, 0, none⟩) ss.length ss.length] 29) := by show Blk _ _ _ _; rw [hw5]; exact Blk.new _ _ _
    have zw5 : w5.heap.size = w4.heap.size + 1 := by rw [hw5]; simp
    replace BA : Hid (Blk w5 (w.heap.size) #[.slice av ps.length cp, .slice bv ss.length dp] 50) := BA.out.below hbb (by omega)
    replace BC : Hid (Blk w5 (w.heap.size + 1) #[.int .i64 cl, .int .i64 sq, .int .i64 op, .string k, .string v, .string o] 51) := BC.out.below hbb (by omega)
    replace BW : Hid (Blk w5 (p6) #[.int .i64 X0, .int .i64 X1, .string X2, .slice va3 x3.length vc3, .slice ua3 x4.length uc3] 37) := BW.out.below hbb (by omega)
    replace HW : Hid (TabX la3 ra3 lb3 rb3 w5 (.slice va3 x3.length vc3) (.slice ua3 x4.length uc3) x3 x4) := HW.out.keep fun k kk => hbb.block k (by omega)
    replace HX : Hid (TabR (w3.heap.size) (w4.heap.size) w5 (.slice (some ⟨qX.1, 0, none⟩) ps.length ps.length) (.slice (some ⟨qX.2, 0, none⟩) ss.length ss.length) ps ss) := HX.out.keep fun k k1 k2 => hbb.block k (by omega)
    replace HB : Hid (Below w.heap.size w w5) := HB.out.trans (hbb.mono (by omega))
    clear hw5 hbb
    have BXo := BX.out
    have BCo := BC.out
    refine wp_named ?_
    intro a0 ha0
    have hsz0 : a0.tmps.size = 82 := by rw [ha0]; rfl
    have e3 : a0.eval (.tmp 3) = .pointer (some ⟨w.heap.size + 1, 0, none⟩) := by rw [ha0]; rfl
    have e7 : a0.eval (.tmp 7) = .pointer (some ⟨w4.heap.size, 0, none⟩) := by rw [ha0]; rfl
    have HA0 : Hid (a0 = _) := ha0
    clear ha0
    refine wp_region_inv (by kernel_rfl) (fun L aF w' => ∃ x : Nat → Value, aF = frame a0 [30, 31, 32, 33, 8] x ∧ Below w5.heap.size w5 w' ∧ (L.getD 0 false = true → x 30 = .agg #[.slice (some ⟨qX.1, 0, none⟩) ps.length ps.length, .slice (some ⟨qX.2, 0, none⟩) ss.length ss.length]) ∧ (L.getD 1 false = true → x 31 = .agg #[.int .i64 cl, .int .i64 sq, .int .i64 op, .string k, .string v, .string o]) ∧ (L.getD 2 false = true → x 32 = .agg #[.int .i64 cl, .int .i64 sq, .int .i64 op, .string k, .string v, .string o]) ∧ (L.getD 3 false = true → ∃ va vc ua uc, x 33 = .agg #[.int .i64 X0, .int .i64 X1, .string X2, .slice va x3.length vc, .slice ua x4.length uc] ∧ TabO w' w5.heap.size (.slice va x3.length vc) (.slice ua x4.length uc) x3 x4) ∧ (L.getD 4 false = true → ∃ p C, x 8 = .pointer (some ⟨p, 0, none⟩) ∧ w5.heap.size ≤ p ∧ Blk w' p C 37 ∧ C.size = 5 ∧ (L.getD 5 false = true → ∃ va vc ua uc, C = #[.int .i64 X0, .int .i64 X1, .string X2, .slice va x3.length vc, .slice ua x4.length uc] ∧ TabO w' w5.heap.size (.slice va x3.length vc) (.slice ua x4.length uc) x3 x4)) ∧ (L.getD 5 false = true → L.getD 4 false = true)) ?_ ?_ ?_
    · exact ⟨_, frame_self a0 [30, 31, 32, 33, 8], (Below.refl _ _).drew, fun h => (noBit h).elim, fun h => (noBit h).elim, fun h => (noBit h).elim, fun h => (noBit h).elim, fun h => (noBit h).elim, fun h => (noBit h).elim⟩
    · rintro L a w' i hsL hi ⟨x, rfl, hB, h0, h1, h2, h3, h4, h5⟩
      have hiL : i < 6 := (ready_mem hsL hi).1
      have hL : L.size = 6 := hsL
      have hw' : w5.heap.size ≤ w'.heap.size := hB.size
      rcases (show i = 0 ∨ i = 1 ∨ i = 2 ∨ i = 3 ∨ i = 4 ∨ i = 5 by omega) with rfl | rfl | rfl | rfl | rfl | rfl
      · skip
        refine wpOp_plain rfl rfl (wp_load_blk 29 (.tmp 7) rfl (w4.heap.size) ((frame_eval _ _ _ 7 rfl).trans e7) (BXo.below hB (by omega)) Try.underlying29 rfl sizeTab rfl ?_)
        exact ⟨_, frame_put _ _ _ 30 _ rfl, hB, fun h => upd_same _ _ _, fun h => by rw [upd_ne _ _ _ _ (by decide)]; exact (h1 (keepBit h (by omega) (by decide))), fun h => by rw [upd_ne _ _ _ _ (by decide)]; exact (h2 (keepBit h (by omega) (by decide))), fun h => by rw [upd_ne _ _ _ _ (by decide)]; exact (h3 (keepBit h (by omega) (by decide))), fun h => by obtain ⟨p, C, ep, hp, hP, hC, hR⟩ := h4 (keepBit h (by omega) (by decide)); exact ⟨p, C, (upd_ne _ _ _ _ (by decide)).trans ep, hp, hP, hC, fun hq6 => (hR (keepBit hq6 (by omega) (by decide)))⟩, fun h => setBit (h5 (keepBit h (by omega) (by decide))) (by omega)⟩
      · skip
        refine wpOp_plain rfl rfl (wp_load_blk 51 (.tmp 3) rfl (w.heap.size + 1) ((frame_eval _ _ _ 3 rfl).trans e3) (BCo.below hB (by omega)) Try.underlying51 rfl sizeLCmd rfl ?_)
        exact ⟨_, frame_put _ _ _ 31 _ rfl, hB, fun h => by rw [upd_ne _ _ _ _ (by decide)]; exact (h0 (keepBit h (by omega) (by decide))), fun h => upd_same _ _ _, fun h => by rw [upd_ne _ _ _ _ (by decide)]; exact (h2 (keepBit h (by omega) (by decide))), fun h => by rw [upd_ne _ _ _ _ (by decide)]; exact (h3 (keepBit h (by omega) (by decide))), fun h => by obtain ⟨p, C, ep, hp, hP, hC, hR⟩ := h4 (keepBit h (by omega) (by decide)); exact ⟨p, C, (upd_ne _ _ _ _ (by decide)).trans ep, hp, hP, hC, fun hq6 => (hR (keepBit hq6 (by omega) (by decide)))⟩, fun h => setBit (h5 (keepBit h (by omega) (by decide))) (by omega)⟩
      · have d1 := h1 (ready_needs hi (by decide))
        have ev31 := (frame_eval_in a0 [30, 31, 32, 33, 8] x 31 rfl (by omega)).trans d1
        refine wpOp_plain rfl rfl (wp_call_go (N := 22) rfl (fun _ _ => by go_simp) #[.agg #[.int .i64 cl, .int .i64 sq, .int .i64 op, .string k, .string v, .string o]] (by simp only [List.map_toArray, List.map_cons, List.map_nil, ev31]) ?_)
        refine Calls.mono (toCmd_u cl sq op k v o _) ?_
        rintro e w2 ⟨rfl, hb⟩
        refine ⟨_, rfl, ?_⟩
        exact ⟨_, frame_put _ _ _ 32 _ rfl, hB.trans (hb.mono hw'), fun h => by rw [upd_ne _ _ _ _ (by decide)]; exact (h0 (keepBit h (by omega) (by decide))), fun h => by rw [upd_ne _ _ _ _ (by decide)]; exact (h1 (keepBit h (by omega) (by decide))), fun h => upd_same _ _ _, fun h => by rw [upd_ne _ _ _ _ (by decide)]; exact (by obtain ⟨va, vc, ua, uc, ey, ho⟩ := (h3 (keepBit h (by omega) (by decide))); exact ⟨va, vc, ua, uc, ey, ho.below hb⟩), fun h => by obtain ⟨p, C, ep, hp, hP, hC, hR⟩ := h4 (keepBit h (by omega) (by decide)); exact ⟨p, C, (upd_ne _ _ _ _ (by decide)).trans ep, hp, hP.below hb hP.lt, hC, fun hq6 => (by obtain ⟨va, vc, ua, uc, ey, ho⟩ := (hR (keepBit hq6 (by omega) (by decide))); exact ⟨va, vc, ua, uc, ey, ho.below hb⟩)⟩, fun h => setBit (h5 (keepBit h (by omega) (by decide))) (by omega)⟩
      · have d0 := h0 (ready_needs hi (by decide))
        have d2 := h2 (ready_needs hi (by decide))
        have hXX := HX.out.keep (w' := w') fun k k1 k2 => hB.block k (by omega)
        have ev30 := (frame_eval_in a0 [30, 31, 32, 33, 8] x 30 rfl (by omega)).trans d0
        have ev32 := (frame_eval_in a0 [30, 31, 32, 33, 8] x 32 rfl (by omega)).trans d2
        refine wpOp_plain rfl rfl (wp_call_go (N := 10) rfl (fun _ _ => by go_simp) #[.agg #[.slice (some ⟨qX.1, 0, none⟩) ps.length ps.length, .slice (some ⟨qX.2, 0, none⟩) ss.length ss.length], .agg #[.int .i64 cl, .int .i64 sq, .int .i64 op, .string k, .string v, .string o]] (by simp only [List.map_toArray, List.map_cons, List.map_nil, ev30, ev32]) ?_)
        refine Calls.mono (HIm.out _ _ ⟨hXX.prs, hXX.ses⟩ hl hk) ?_
        rintro e w2 ⟨va, vc, ua, uc, rfl, ho, hb⟩
        refine ⟨_, rfl, ?_⟩
        exact ⟨_, frame_put _ _ _ 33 _ rfl, hB.trans (hb.mono hw'), fun h => by rw [upd_ne _ _ _ _ (by decide)]; exact (h0 (keepBit h (by omega) (by decide))), fun h => by rw [upd_ne _ _ _ _ (by decide)]; exact (h1 (keepBit h (by omega) (by decide))), fun h => by rw [upd_ne _ _ _ _ (by decide)]; exact (h2 (keepBit h (by omega) (by decide))), fun h => ⟨va, vc, ua, uc, upd_same _ _ _, ho.le hw'⟩, fun h => by obtain ⟨p, C, ep, hp, hP, hC, hR⟩ := h4 (keepBit h (by omega) (by decide)); exact ⟨p, C, (upd_ne _ _ _ _ (by decide)).trans ep, hp, hP.below hb hP.lt, hC, fun hq6 => (by obtain ⟨va, vc, ua, uc, ey, ho⟩ := (hR (keepBit hq6 (by omega) (by decide))); exact ⟨va, vc, ua, uc, ey, ho.below hb⟩)⟩, fun h => setBit (h5 (keepBit h (by omega) (by decide))) (by omega)⟩
      · skip
        refine wpOp_plain rfl rfl (wp_alloc_go 37 #[.int .i64 0, .int .i64 0, .string ⟨#[]⟩, .slice none 0 0, .slice none 0 0] rfl (fun _ => by go_simp) ?_)
        have hb : Below w'.heap.size w' (w'.alloc (.cells #[.int .i64 0, .int .i64 0, .string ⟨#[]⟩, .slice none 0 0, .slice none 0 0] 37)) := (Below.refl _ _).alloc (Nat.le_refl _) _
        exact ⟨_, frame_put _ _ _ 8 _ rfl, hB.alloc hw' _, fun h => by rw [upd_ne _ _ _ _ (by decide)]; exact (h0 (keepBit h (by omega) (by decide))), fun h => by rw [upd_ne _ _ _ _ (by decide)]; exact (h1 (keepBit h (by omega) (by decide))), fun h => by rw [upd_ne _ _ _ _ (by decide)]; exact (h2 (keepBit h (by omega) (by decide))), fun h => by rw [upd_ne _ _ _ _ (by decide)]; exact (by obtain ⟨va, vc, ua, uc, ey, ho⟩ := (h3 (keepBit h (by omega) (by decide))); exact ⟨va, vc, ua, uc, ey, ho.below hb⟩), fun h => ⟨_, _, upd_same _ _ _, hw', Blk.new _ _ _, rfl, fun hq6 => (readyBit hsL hi (h5 (keepBit hq6 (by omega) (by decide)))).elim⟩, fun h => setSelf (by omega)⟩
      · have d3 := h3 (ready_needs hi (by decide))
        have d4 := h4 (ready_needs hi (by decide))
        obtain ⟨p, C, ep, hp, hP, hC, hR⟩ := d4
        obtain ⟨va, vc, ua, uc, ey, ho⟩ := d3
        have evp := (frame_eval_in a0 [30, 31, 32, 33, 8] x 8 rfl (by omega)).trans ep
        have evs := (frame_eval_in a0 [30, 31, 32, 33, 8] x 33 rfl (by omega)).trans ey
        refine wpOp_plain rfl rfl (wp_store_blk 37 (.tmp 8) (.tmp 33) rfl p evp evs hP infoAns rfl hC (by simp [Value.oneCell']) ?_)
        exact ⟨_, rfl, below_row hB hp _, fun h => (h0 (keepBit h (by omega) (by decide))), fun h => (h1 (keepBit h (by omega) (by decide))), fun h => (h2 (keepBit h (by omega) (by decide))), fun h => (by obtain ⟨va, vc, ua, uc, ey, ho⟩ := (h3 (keepBit h (by omega) (by decide))); exact ⟨va, vc, ua, uc, ey, ho.row hP _⟩), fun h => ⟨p, _, ep, hp, hP.row _, rfl, fun _ => ⟨va, vc, ua, uc, rfl, ho.row hP _⟩⟩, fun h => setBit (ready_needs hi (by decide)) (by omega)⟩
    · rintro L a w' hsL hr ⟨x, rfl, hB, h0, h1, h2, h3, h4, h5⟩
      have hall := ready_nil hsL hr (by decide)
      replace h0 := h0 (hall 0 (by decide))
      replace h1 := h1 (hall 1 (by decide))
      replace h2 := h2 (hall 2 (by decide))
      replace h3 := h3 (hall 3 (by decide))
      replace h4 := h4 (hall 4 (by decide))
      replace h5 := h5 (hall 5 (by decide))
      obtain ⟨p, C, ep, hp, hP, hC, hR⟩ := h4
      replace hR := hR (hall 5 (by decide))
      rw [HA0.out]
      simp only [frame, List.zipIdx_cons, List.zipIdx_nil, List.map_cons, List.map_nil, List.contains_cons, List.contains_nil, Nat.reduceBEq, Nat.reduceAdd, Bool.or_false, Bool.false_or, Bool.or_true, Bool.true_or, Bool.false_eq_true, if_false, if_true, h0, h1, h2, ep]
      obtain ⟨w6, hw6⟩ : ∃ x, x = w' := ⟨_, rfl⟩
      subst hw6
      have hbb : Below w5.heap.size w5 w6 := hB
      have zw6 : w5.heap.size ≤ w6.heap.size := hbb.size
      replace BA : Hid (Blk w6 (w.heap.size) #[.slice av ps.length cp, .slice bv ss.length dp] 50) := BA.out.below hbb (by omega)
      replace BC : Hid (Blk w6 (w.heap.size + 1) #[.int .i64 cl, .int .i64 sq, .int .i64 op, .string k, .string v, .string o] 51) := BC.out.below hbb (by omega)
      replace BW : Hid (Blk w6 (p6) #[.int .i64 X0, .int .i64 X1, .string X2, .slice va3 x3.length vc3, .slice ua3 x4.length uc3] 37) := BW.out.below hbb (by omega)
      replace HW : Hid (TabX la3 ra3 lb3 rb3 w6 (.slice va3 x3.length vc3) (.slice ua3 x4.length uc3) x3 x4) := HW.out.keep fun k kk => hbb.block k (by omega)
      replace HX : Hid (TabR (w3.heap.size) (w4.heap.size) w6 (.slice (some ⟨qX.1, 0, none⟩) ps.length ps.length) (.slice (some ⟨qX.2, 0, none⟩) ss.length ss.length) ps ss) := HX.out.keep fun k k1 k2 => hbb.block k (by omega)
      replace BX : Hid (Blk w6 (w4.heap.size) #[.slice (some ⟨qX.1, 0, none⟩) ps.length ps.length, .slice (some ⟨qX.2, 0, none⟩) ss.length ss.length] 29) := BX.out.below hbb (by omega)
      replace HB : Hid (Below w.heap.size w w6) := HB.out.trans (hbb.mono (by omega))
      obtain ⟨va6, vc6, ua6, uc6, hCe, hT⟩ := hR
      subst hCe
      obtain ⟨la6, ra6, lb6, rb6, hsa6, hsb6, hsp6, hTX⟩ := hT.x hx3m hx4m zw6 hP
      have hpl6 := hP.lt
      obtain ⟨p8, hpe⟩ : ∃ q, q = p := ⟨_, rfl⟩
      subst hpe
      have BG : Hid (Blk w6 p8 #[.int .i64 X0, .int .i64 X1, .string X2, .slice va6 x3.length vc6, .slice ua6 x4.length uc6] 37) := hP
      have HG : Hid (TabX la6 ra6 lb6 rb6 w6 (.slice va6 x3.length vc6) (.slice ua6 x4.length uc6) x3 x4) := hTX
      clear BXo BCo hbb hB hT hTX hP h0 h1 h2 h5 hall hr hsL HA0 hsz0 e3 e7 hC ep
      obtain ⟨_, _, _, _, ez4, _⟩ := h3
      rw [ez4]
      clear ez4
      go_wp2_with (first
        | (have hBA := BA; refine gate_ld 50 (.tmp 2) rfl ?_; clear hBA; refine wpl_load_blk rfl 50 (.tmp 2) rfl (w.heap.size) rfl BA.out Try.underlying50 rfl sizeLTab rfl ?_)
        | (have hBA := BX; refine gate_ld 29 (.tmp 7) rfl ?_; clear hBA; refine wpl_load_blk rfl 29 (.tmp 7) rfl (w4.heap.size) rfl BX.out Try.underlying29 rfl sizeTab rfl ?_)
        | (have hBA := BG; refine gate_ld 37 (.tmp 8) rfl ?_; clear hBA; refine wpl_load_blk rfl 37 (.tmp 8) rfl (p8) rfl BG.out Try.underlying37 rfl infoAns rfl ?_)
        | (have hBA := BW; refine gate_ld 37 (.tmp 6) rfl ?_; clear hBA; refine wpl_load_blk rfl 37 (.tmp 6) rfl (p6) rfl BW.out Try.underlying37 rfl infoAns rfl ?_)
        | (go_at_call 23; clear g5; refine Calls.mono (eqApplyAnswer_u X0 X1 X2 _ _ _ _ _ _ _ _ x3 x4 _ (HG.out.r (lo := 0) (hi := w6.heap.size) (by omega) (by omega) (by omega) (by omega) (by omega) (by omega)) (HW.out.r (lo := 0) (hi := w6.heap.size) (by omega) (by omega) (by omega) (by omega) (by omega) (by omega))) ?_; rintro e w7 ⟨rfl, hb⟩; have hbb : Below w6.heap.size w6 w7 := hb; have zw7 : w6.heap.size ≤ w7.heap.size := hbb.size; replace BA : Hid (Blk w7 (w.heap.size) #[.slice av ps.length cp, .slice bv ss.length dp] 50) := BA.out.below hbb (by omega); replace BC : Hid (Blk w7 (w.heap.size + 1) #[.int .i64 cl, .int .i64 sq, .int .i64 op, .string k, .string v, .string o] 51) := BC.out.below hbb (by omega); replace BW : Hid (Blk w7 (p6) #[.int .i64 X0, .int .i64 X1, .string X2, .slice va3 x3.length vc3, .slice ua3 x4.length uc3] 37) := BW.out.below hbb (by omega); replace HW : Hid (TabX la3 ra3 lb3 rb3 w7 (.slice va3 x3.length vc3) (.slice ua3 x4.length uc3) x3 x4) := HW.out.keep fun k kk => hbb.block k (by omega); replace HX : Hid (TabR (w3.heap.size) (w4.heap.size) w7 (.slice (some ⟨qX.1, 0, none⟩) ps.length ps.length) (.slice (some ⟨qX.2, 0, none⟩) ss.length ss.length) ps ss) := HX.out.keep fun k k1 k2 => hbb.block k (by omega); replace BX : Hid (Blk w7 (w4.heap.size) #[.slice (some ⟨qX.1, 0, none⟩) ps.length ps.length, .slice (some ⟨qX.2, 0, none⟩) ss.length ss.length] 29) := BX.out.below hbb (by omega); replace BG : Hid (Blk w7 (p8) #[.int .i64 X0, .int .i64 X1, .string X2, .slice va6 x3.length vc6, .slice ua6 x4.length uc6] 37) := BG.out.below hbb (by omega); replace HG : Hid (TabX la6 ra6 lb6 rb6 w7 (.slice va6 x3.length vc6) (.slice ua6 x4.length uc6) x3 x4) := HG.out.keep fun k kk => hbb.block k (by omega); replace HB : Hid (Below w.heap.size w w7) := HB.out.trans (hbb.mono (by omega)); clear hb hbb))
      have BXo := BX.out
      have BAo := BA.out
      refine wp_named ?_
      intro a0 ha0
      have hsz0 : a0.tmps.size = 82 := by rw [ha0]; rfl
      have e2 : a0.eval (.tmp 2) = .pointer (some ⟨w.heap.size, 0, none⟩) := by rw [ha0]; rfl
      have e7 : a0.eval (.tmp 7) = .pointer (some ⟨w4.heap.size, 0, none⟩) := by rw [ha0]; rfl
      have HA0 : Hid (a0 = _) := ha0
      clear ha0
      refine wp_region_inv (by kernel_rfl) (fun L aF w' => ∃ x : Nat → Value, aF = frame a0 [38, 39, 40, 41, 42] x ∧ Below w7.heap.size w7 w' ∧ (L.getD 0 false = true → x 38 = .agg #[.slice (some ⟨qX.1, 0, none⟩) ps.length ps.length, .slice (some ⟨qX.2, 0, none⟩) ss.length ss.length]) ∧ (L.getD 1 false = true → x 39 = .agg #[.slice av ps.length cp, .slice bv ss.length dp]) ∧ (L.getD 2 false = true → ∃ qY : Nat × Nat, x 40 = .agg #[.slice (some ⟨qY.1, 0, none⟩) ps.length ps.length, .slice (some ⟨qY.2, 0, none⟩) ss.length ss.length] ∧ Ps w' (.slice (some ⟨qY.1, 0, none⟩) ps.length ps.length) ps ∧ Ss w' (.slice (some ⟨qY.2, 0, none⟩) ss.length ss.length) ss) ∧ (L.getD 3 false = true → x 41 = .bool true) ∧ (L.getD 4 false = true → x 42 = .bool false)) ?_ ?_ ?_
      · exact ⟨_, frame_self a0 [38, 39, 40, 41, 42], (Below.refl _ _).drew, fun h => (noBit h).elim, fun h => (noBit h).elim, fun h => (noBit h).elim, fun h => (noBit h).elim, fun h => (noBit h).elim⟩
      · rintro L a w' i hsL hi ⟨x, rfl, hB, h0, h1, h2, h3, h4⟩
        have hiL : i < 5 := (ready_mem hsL hi).1
        have hL : L.size = 5 := hsL
        have hw' : w7.heap.size ≤ w'.heap.size := hB.size
        rcases (show i = 0 ∨ i = 1 ∨ i = 2 ∨ i = 3 ∨ i = 4 by omega) with rfl | rfl | rfl | rfl | rfl
        · skip
          refine wpOp_plain rfl rfl (wp_load_blk 29 (.tmp 7) rfl (w4.heap.size) ((frame_eval _ _ _ 7 rfl).trans e7) (BXo.below hB (by omega)) Try.underlying29 rfl sizeTab rfl ?_)
          exact ⟨_, frame_put _ _ _ 38 _ rfl, hB, fun h => upd_same _ _ _, fun h => by rw [upd_ne _ _ _ _ (by decide)]; exact (h1 (keepBit h (by omega) (by decide))), fun h => by rw [upd_ne _ _ _ _ (by decide)]; exact (h2 (keepBit h (by omega) (by decide))), fun h => by rw [upd_ne _ _ _ _ (by decide)]; exact (h3 (keepBit h (by omega) (by decide))), fun h => by rw [upd_ne _ _ _ _ (by decide)]; exact (h4 (keepBit h (by omega) (by decide)))⟩
        · skip
          refine wpOp_plain rfl rfl (wp_load_blk 50 (.tmp 2) rfl (w.heap.size) ((frame_eval _ _ _ 2 rfl).trans e2) (BAo.below hB (by omega)) Try.underlying50 rfl sizeLTab rfl ?_)
          exact ⟨_, frame_put _ _ _ 39 _ rfl, hB, fun h => by rw [upd_ne _ _ _ _ (by decide)]; exact (h0 (keepBit h (by omega) (by decide))), fun h => upd_same _ _ _, fun h => by rw [upd_ne _ _ _ _ (by decide)]; exact (h2 (keepBit h (by omega) (by decide))), fun h => by rw [upd_ne _ _ _ _ (by decide)]; exact (h3 (keepBit h (by omega) (by decide))), fun h => by rw [upd_ne _ _ _ _ (by decide)]; exact (h4 (keepBit h (by omega) (by decide)))⟩
        · have d1 := h1 (ready_needs hi (by decide))
          have ev39 := (frame_eval_in a0 [38, 39, 40, 41, 42] x 39 rfl (by omega)).trans d1
          refine wpOp_plain rfl rfl (wp_call_go (N := 21) rfl (fun _ _ => by go_simp) #[.agg #[.slice av ps.length cp, .slice bv ss.length dp]] (by simp only [List.map_toArray, List.map_cons, List.map_nil, ev39]) ?_)
          refine Calls.mono (toTable_u _ _ ps ss _ (HV.out.below (HB.out.trans (hB.mono (by omega)))) (HU.out.below (HB.out.trans (hB.mono (by omega)))) hl.1.1 hl.2.1) ?_
          rintro e w2 ⟨qY, rfl, f0, hb⟩
          refine ⟨_, rfl, ?_⟩
          exact ⟨_, frame_put _ _ _ 40 _ rfl, hB.trans (hb.mono hw'), fun h => by rw [upd_ne _ _ _ _ (by decide)]; exact (h0 (keepBit h (by omega) (by decide))), fun h => by rw [upd_ne _ _ _ _ (by decide)]; exact (h1 (keepBit h (by omega) (by decide))), fun h => ⟨qY, upd_same _ _ _, f0.prs, f0.ses⟩, fun h => by rw [upd_ne _ _ _ _ (by decide)]; exact (h3 (keepBit h (by omega) (by decide))), fun h => by rw [upd_ne _ _ _ _ (by decide)]; exact (h4 (keepBit h (by omega) (by decide)))⟩
        · have d0 := h0 (ready_needs hi (by decide))
          have d2 := h2 (ready_needs hi (by decide))
          obtain ⟨qY, ey, f1, f2⟩ := d2
          have hXX := HX.out.keep (w' := w') fun k k1 k2 => hB.block k (by omega)
          have ev38 := (frame_eval_in a0 [38, 39, 40, 41, 42] x 38 rfl (by omega)).trans d0
          have ev40 := (frame_eval_in a0 [38, 39, 40, 41, 42] x 40 rfl (by omega)).trans ey
          refine wpOp_plain rfl rfl (wp_call_go (N := 13) rfl (fun _ _ => by go_simp) #[.agg #[.slice (some ⟨qX.1, 0, none⟩) ps.length ps.length, .slice (some ⟨qX.2, 0, none⟩) ss.length ss.length], .agg #[.slice (some ⟨qY.1, 0, none⟩) ps.length ps.length, .slice (some ⟨qY.2, 0, none⟩) ss.length ss.length]] (by simp only [List.map_toArray, List.map_cons, List.map_nil, ev38, ev40]) ?_)
          refine Calls.mono (eqTable_u _ _ _ _ _ _ _ _ ps ss _ hXX.prs hXX.ses f1 f2) ?_
          rintro e w2 ⟨rfl, hb⟩
          refine ⟨_, rfl, ?_⟩
          exact ⟨_, frame_put _ _ _ 41 _ rfl, hB.trans (hb.mono hw'), fun h => by rw [upd_ne _ _ _ _ (by decide)]; exact (h0 (keepBit h (by omega) (by decide))), fun h => by rw [upd_ne _ _ _ _ (by decide)]; exact (h1 (keepBit h (by omega) (by decide))), fun h => by rw [upd_ne _ _ _ _ (by decide)]; exact (by obtain ⟨qY, ey, f1, f2⟩ := (h2 (keepBit h (by omega) (by decide))); exact ⟨qY, ey, f1.below hb, f2.below hb⟩), fun h => upd_same _ _ _, fun h => by rw [upd_ne _ _ _ _ (by decide)]; exact (h4 (keepBit h (by omega) (by decide)))⟩
        · have d3 := h3 (ready_needs hi (by decide))
          have evn := (frame_eval_in a0 [38, 39, 40, 41, 42] x 41 rfl (by omega)).trans d3
          refine wpOp_plain rfl rfl (wp_not_go (.tmp 41) rfl evn ?_)
          exact ⟨_, frame_put _ _ _ 42 _ rfl, hB, fun h => by rw [upd_ne _ _ _ _ (by decide)]; exact (h0 (keepBit h (by omega) (by decide))), fun h => by rw [upd_ne _ _ _ _ (by decide)]; exact (h1 (keepBit h (by omega) (by decide))), fun h => by rw [upd_ne _ _ _ _ (by decide)]; exact (h2 (keepBit h (by omega) (by decide))), fun h => by rw [upd_ne _ _ _ _ (by decide)]; exact (h3 (keepBit h (by omega) (by decide))), fun h => upd_same _ _ _⟩
      · rintro L a w' hsL hr ⟨x, rfl, hB, h0, h1, h2, h3, h4⟩
        have hall := ready_nil hsL hr (by decide)
        replace h0 := h0 (hall 0 (by decide))
        replace h1 := h1 (hall 1 (by decide))
        replace h2 := h2 (hall 2 (by decide))
        replace h3 := h3 (hall 3 (by decide))
        replace h4 := h4 (hall 4 (by decide))
        rw [HA0.out]
        simp only [frame, List.zipIdx_cons, List.zipIdx_nil, List.map_cons, List.map_nil, List.contains_cons, List.contains_nil, Nat.reduceBEq, Nat.reduceAdd, Bool.or_false, Bool.false_or, Bool.or_true, Bool.true_or, Bool.false_eq_true, if_false, if_true, h0, h1, h3, h4]
        obtain ⟨w8, hw8⟩ : ∃ x, x = w' := ⟨_, rfl⟩
        subst hw8
        have hbb : Below w7.heap.size w7 w8 := hB
        have zw8 : w7.heap.size ≤ w8.heap.size := hbb.size
        replace BA : Hid (Blk w8 (w.heap.size) #[.slice av ps.length cp, .slice bv ss.length dp] 50) := BA.out.below hbb (by omega)
        replace BC : Hid (Blk w8 (w.heap.size + 1) #[.int .i64 cl, .int .i64 sq, .int .i64 op, .string k, .string v, .string o] 51) := BC.out.below hbb (by omega)
        replace BW : Hid (Blk w8 (p6) #[.int .i64 X0, .int .i64 X1, .string X2, .slice va3 x3.length vc3, .slice ua3 x4.length uc3] 37) := BW.out.below hbb (by omega)
        replace HW : Hid (TabX la3 ra3 lb3 rb3 w8 (.slice va3 x3.length vc3) (.slice ua3 x4.length uc3) x3 x4) := HW.out.keep fun k kk => hbb.block k (by omega)
        replace HX : Hid (TabR (w3.heap.size) (w4.heap.size) w8 (.slice (some ⟨qX.1, 0, none⟩) ps.length ps.length) (.slice (some ⟨qX.2, 0, none⟩) ss.length ss.length) ps ss) := HX.out.keep fun k k1 k2 => hbb.block k (by omega)
        replace BX : Hid (Blk w8 (w4.heap.size) #[.slice (some ⟨qX.1, 0, none⟩) ps.length ps.length, .slice (some ⟨qX.2, 0, none⟩) ss.length ss.length] 29) := BX.out.below hbb (by omega)
        replace BG : Hid (Blk w8 (p8) #[.int .i64 X0, .int .i64 X1, .string X2, .slice va6 x3.length vc6, .slice ua6 x4.length uc6] 37) := BG.out.below hbb (by omega)
        replace HG : Hid (TabX la6 ra6 lb6 rb6 w8 (.slice va6 x3.length vc6) (.slice ua6 x4.length uc6) x3 x4) := HG.out.keep fun k kk => hbb.block k (by omega)
        replace HB : Hid (Below w.heap.size w w8) := HB.out.trans (hbb.mono (by omega))
        obtain ⟨qY, ey, _⟩ := h2
        rw [ey]
        clear BXo BAo hbb hB ey h0 h1 h3 h4 hall hr hsL HA0 hsz0 e2 e7
        go_wp2_with (first
          | (have hBA := BA; refine gate_ld 50 (.tmp 2) rfl ?_; clear hBA; refine wpl_load_blk rfl 50 (.tmp 2) rfl (w.heap.size) rfl BA.out Try.underlying50 rfl sizeLTab rfl ?_)
          | (have hBA := BX; refine gate_ld 29 (.tmp 7) rfl ?_; clear hBA; refine wpl_load_blk rfl 29 (.tmp 7) rfl (w4.heap.size) rfl BX.out Try.underlying29 rfl sizeTab rfl ?_)
          | (have hBA := BG; refine gate_ld 37 (.tmp 8) rfl ?_; clear hBA; refine wpl_load_blk rfl 37 (.tmp 8) rfl (p8) rfl BG.out Try.underlying37 rfl infoAns rfl ?_)
          | (have hBA := BW; refine gate_ld 37 (.tmp 6) rfl ?_; clear hBA; refine wpl_load_blk rfl 37 (.tmp 6) rfl (p6) rfl BW.out Try.underlying37 rfl infoAns rfl ?_)
          | (have hBA := BG; refine gate_ld 37 (.tmp 8) rfl ?_; clear hBA; refine wpl_load_blkG rfl (by first | rfl | exact congrArg some (decide_eq_false (by omega))) 37 (.tmp 8) rfl (p8) rfl BG.out Try.underlying37 rfl infoAns rfl ?_)
          | (have hBA := BW; refine gate_ld 37 (.tmp 6) rfl ?_; clear hBA; refine wpl_load_blkG rfl (by first | rfl | exact congrArg some (decide_eq_false (by omega))) 37 (.tmp 6) rfl (p6) rfl BW.out Try.underlying37 rfl infoAns rfl ?_)
          | (go_at_call 16; refine Calls.mono (markTable_u _ _ _ _ ps ss _ HX.out (by omega) hl.1.1 hl.2.1) ?_; rintro e w9 ⟨rfl, _, hg⟩; have zw9 : w8.heap.size ≤ w9.heap.size := hg.size; replace BA : Hid (Blk w9 (w.heap.size) #[.slice av ps.length cp, .slice bv ss.length dp] 50) := BA.out.keep (hg.block _ (by omega) (by omega)); replace BC : Hid (Blk w9 (w.heap.size + 1) #[.int .i64 cl, .int .i64 sq, .int .i64 op, .string k, .string v, .string o] 51) := BC.out.keep (hg.block _ (by omega) (by omega)); replace BW : Hid (Blk w9 (p6) #[.int .i64 X0, .int .i64 X1, .string X2, .slice va3 x3.length vc3, .slice ua3 x4.length uc3] 37) := BW.out.keep (hg.block _ (by omega) (by omega)); replace HW : Hid (TabX la3 ra3 lb3 rb3 w9 (.slice va3 x3.length vc3) (.slice ua3 x4.length uc3) x3 x4) := HW.out.keep fun k kk => hg.block k (by omega) (by omega); replace BX : Hid (Blk w9 (w4.heap.size) #[.slice (some ⟨qX.1, 0, none⟩) ps.length ps.length, .slice (some ⟨qX.2, 0, none⟩) ss.length ss.length] 29) := BX.out.keep (hg.block _ (by omega) (by omega)); replace BG : Hid (Blk w9 (p8) #[.int .i64 X0, .int .i64 X1, .string X2, .slice va6 x3.length vc6, .slice ua6 x4.length uc6] 37) := BG.out.keep (hg.block _ (by omega) (by omega)); replace HG : Hid (TabX la6 ra6 lb6 rb6 w9 (.slice va6 x3.length vc6) (.slice ua6 x4.length uc6) x3 x4) := HG.out.keep fun k kk => hg.block k (by omega) (by omega); replace HB : Hid (Below w.heap.size w w9) := HB.out.trans (hg.below (by omega) (by omega)); clear hg HX)
          | (go_at_call 23; clear g6; refine Calls.mono (eqApplyAnswer_u X0 X1 X2 _ _ _ _ _ _ _ _ x3 x4 _ (HG.out.r (lo := 0) (hi := w9.heap.size) (by omega) (by omega) (by omega) (by omega) (by omega) (by omega)) (HW.out.r (lo := 0) (hi := w9.heap.size) (by omega) (by omega) (by omega) (by omega) (by omega) (by omega))) ?_; rintro e w10 ⟨rfl, hb⟩; have hbb : Below w9.heap.size w9 w10 := hb; have zw10 : w9.heap.size ≤ w10.heap.size := hbb.size; replace BA : Hid (Blk w10 (w.heap.size) #[.slice av ps.length cp, .slice bv ss.length dp] 50) := BA.out.below hbb (by omega); replace BC : Hid (Blk w10 (w.heap.size + 1) #[.int .i64 cl, .int .i64 sq, .int .i64 op, .string k, .string v, .string o] 51) := BC.out.below hbb (by omega); replace BW : Hid (Blk w10 (p6) #[.int .i64 X0, .int .i64 X1, .string X2, .slice va3 x3.length vc3, .slice ua3 x4.length uc3] 37) := BW.out.below hbb (by omega); replace HW : Hid (TabX la3 ra3 lb3 rb3 w10 (.slice va3 x3.length vc3) (.slice ua3 x4.length uc3) x3 x4) := HW.out.keep fun k kk => hbb.block k (by omega); replace BX : Hid (Blk w10 (w4.heap.size) #[.slice (some ⟨qX.1, 0, none⟩) ps.length ps.length, .slice (some ⟨qX.2, 0, none⟩) ss.length ss.length] 29) := BX.out.below hbb (by omega); replace BG : Hid (Blk w10 (p8) #[.int .i64 X0, .int .i64 X1, .string X2, .slice va6 x3.length vc6, .slice ua6 x4.length uc6] 37) := BG.out.below hbb (by omega); replace HG : Hid (TabX la6 ra6 lb6 rb6 w10 (.slice va6 x3.length vc6) (.slice ua6 x4.length uc6) x3 x4) := HG.out.keep fun k kk => hbb.block k (by omega); replace HB : Hid (Below w.heap.size w w10) := HB.out.trans (hbb.mono (by omega)); clear hb hbb)
          | (go_at_call 24; refine Calls.mono (markApplyAnswer_x X0 X1 X2 _ _ _ _ x3 x4 _ HG.out (by omega) (by omega) hx3 hx4) ?_; rintro e w11 ⟨rfl, ho, hg⟩; have zw11 : w10.heap.size ≤ w11.heap.size := hg.size; replace BA : Hid (Blk w11 (w.heap.size) #[.slice av ps.length cp, .slice bv ss.length dp] 50) := BA.out.keep (hg.block _ (by omega) (by omega) (by omega)); replace BC : Hid (Blk w11 (w.heap.size + 1) #[.int .i64 cl, .int .i64 sq, .int .i64 op, .string k, .string v, .string o] 51) := BC.out.keep (hg.block _ (by omega) (by omega) (by omega)); replace BW : Hid (Blk w11 (p6) #[.int .i64 X0, .int .i64 X1, .string X2, .slice va3 x3.length vc3, .slice ua3 x4.length uc3] 37) := BW.out.keep (hg.block _ (by omega) (by omega) (by omega)); replace HW : Hid (TabX la3 ra3 lb3 rb3 w11 (.slice va3 x3.length vc3) (.slice ua3 x4.length uc3) x3 x4) := HW.out.keep fun k kk => hg.block k (by omega) (by omega) (by omega); replace BX : Hid (Blk w11 (w4.heap.size) #[.slice (some ⟨qX.1, 0, none⟩) ps.length ps.length, .slice (some ⟨qX.2, 0, none⟩) ss.length ss.length] 29) := BX.out.keep (hg.block _ (by omega) (by omega) (by omega)); replace BG : Hid (Blk w11 (p8) #[.int .i64 X0, .int .i64 X1, .string X2, .slice va6 x3.length vc6, .slice ua6 x4.length uc6] 37) := BG.out.keep (hg.block _ (by omega) (by omega) (by omega)); replace HB : Hid (Below w.heap.size w w11) := HB.out.trans (hg.below (by omega) (by omega) (by omega)); have HM : Hid (TabX la6 ra6 lb6 rb6 w11 (.slice va6 x3.length vc6) (.slice ua6 x4.length uc6) (mkPrs 1 x3.length) (mkSes (1 + 2 * x3.length) x4.length)) := ho; clear hg ho HG)
          | (go_at_call 25; clear g7; refine Calls.mono (heldApplyAnswer_u X0 X1 X2 _ _ _ _ _ _ _ (HM.out.r (lo := 0) (hi := w11.heap.size) (by omega) (by omega) (by omega) (by omega) (by omega) (by omega)) (Nat.le_refl _) hx3 hx4) ?_; rintro e w12 ⟨rfl, hb⟩; have hbb : Below w11.heap.size w11 w12 := hb; have zw12 : w11.heap.size ≤ w12.heap.size := hbb.size; replace BA : Hid (Blk w12 (w.heap.size) #[.slice av ps.length cp, .slice bv ss.length dp] 50) := BA.out.below hbb (by omega); replace BC : Hid (Blk w12 (w.heap.size + 1) #[.int .i64 cl, .int .i64 sq, .int .i64 op, .string k, .string v, .string o] 51) := BC.out.below hbb (by omega); replace BW : Hid (Blk w12 (p6) #[.int .i64 X0, .int .i64 X1, .string X2, .slice va3 x3.length vc3, .slice ua3 x4.length uc3] 37) := BW.out.below hbb (by omega); replace HW : Hid (TabX la3 ra3 lb3 rb3 w12 (.slice va3 x3.length vc3) (.slice ua3 x4.length uc3) x3 x4) := HW.out.keep fun k kk => hbb.block k (by omega); replace BX : Hid (Blk w12 (w4.heap.size) #[.slice (some ⟨qX.1, 0, none⟩) ps.length ps.length, .slice (some ⟨qX.2, 0, none⟩) ss.length ss.length] 29) := BX.out.below hbb (by omega); replace BG : Hid (Blk w12 (p8) #[.int .i64 X0, .int .i64 X1, .string X2, .slice va6 x3.length vc6, .slice ua6 x4.length uc6] 37) := BG.out.below hbb (by omega); replace HM : Hid (TabX la6 ra6 lb6 rb6 w12 (.slice va6 x3.length vc6) (.slice ua6 x4.length uc6) (mkPrs 1 x3.length) (mkSes (1 + 2 * x3.length) x4.length)) := HM.out.keep fun k kk => hbb.block k (by omega); replace HB : Hid (Below w.heap.size w w12) := HB.out.trans (hbb.mono (by omega)); clear hb hbb))
        have BAo := BA.out
        have BCo := BC.out
        refine wp_named ?_
        intro a0 ha0
        have hsz0 : a0.tmps.size = 82 := by rw [ha0]; rfl
        have e2 : a0.eval (.tmp 2) = .pointer (some ⟨w.heap.size, 0, none⟩) := by rw [ha0]; rfl
        have e3 : a0.eval (.tmp 3) = .pointer (some ⟨w.heap.size + 1, 0, none⟩) := by rw [ha0]; rfl
        have HA0 : Hid (a0 = _) := ha0
        clear ha0
        refine wp_region_inv (by kernel_rfl) (fun L aF w' => ∃ x : Nat → Value, aF = frame a0 [65, 66, 67, 68, 69, 12] x ∧ Below w12.heap.size w12 w' ∧ (L.getD 0 false = true → x 65 = .agg #[.slice av ps.length cp, .slice bv ss.length dp]) ∧ (L.getD 1 false = true → ∃ z : Nat × Nat, x 66 = .agg #[.slice (some ⟨z.1, 0, none⟩) ps.length ps.length, .slice (some ⟨z.2, 0, none⟩) ss.length ss.length] ∧ (L.getD 4 false = true ∨ (Ps w' (.slice (some ⟨z.1, 0, none⟩) ps.length ps.length) ps ∧ Ss w' (.slice (some ⟨z.2, 0, none⟩) ss.length ss.length) ss))) ∧ (L.getD 2 false = true → x 67 = .agg #[.int .i64 cl, .int .i64 sq, .int .i64 op, .string k, .string v, .string o]) ∧ (L.getD 3 false = true → x 68 = .agg #[.int .i64 cl, .int .i64 sq, .int .i64 op, .string k, .string v, .string o]) ∧ (L.getD 4 false = true → ∃ va vc ua uc, x 69 = .agg #[.int .i64 X0, .int .i64 X1, .string X2, .slice va x3.length vc, .slice ua x4.length uc] ∧ TabO w' w12.heap.size (.slice va x3.length vc) (.slice ua x4.length uc) x3 x4) ∧ (L.getD 5 false = true → ∃ p C, x 12 = .pointer (some ⟨p, 0, none⟩) ∧ w12.heap.size ≤ p ∧ Blk w' p C 37 ∧ C.size = 5 ∧ (L.getD 6 false = true → ∃ va vc ua uc, C = #[.int .i64 X0, .int .i64 X1, .string X2, .slice va x3.length vc, .slice ua x4.length uc] ∧ TabO w' w12.heap.size (.slice va x3.length vc) (.slice ua x4.length uc) x3 x4)) ∧ (L.getD 6 false = true → L.getD 5 false = true)) ?_ ?_ ?_
        · exact ⟨_, frame_self a0 [65, 66, 67, 68, 69, 12], (Below.refl _ _).drew, fun h => (noBit h).elim, fun h => (noBit h).elim, fun h => (noBit h).elim, fun h => (noBit h).elim, fun h => (noBit h).elim, fun h => (noBit h).elim, fun h => (noBit h).elim⟩
        · rintro L a w' i hsL hi ⟨x, rfl, hB, h0, h1, h2, h3, h4, h5, h6⟩
          have hiL : i < 7 := (ready_mem hsL hi).1
          have hL : L.size = 7 := hsL
          have hw' : w12.heap.size ≤ w'.heap.size := hB.size
          rcases (show i = 0 ∨ i = 1 ∨ i = 2 ∨ i = 3 ∨ i = 4 ∨ i = 5 ∨ i = 6 by omega) with rfl | rfl | rfl | rfl | rfl | rfl | rfl
          · skip
            refine wpOp_plain rfl rfl (wp_load_blk 50 (.tmp 2) rfl (w.heap.size) ((frame_eval _ _ _ 2 rfl).trans e2) (BAo.below hB (by omega)) Try.underlying50 rfl sizeLTab rfl ?_)
            exact ⟨_, frame_put _ _ _ 65 _ rfl, hB, fun h => upd_same _ _ _, fun h => by rw [upd_ne _ _ _ _ (by decide)]; exact (by obtain ⟨z, ez, hz⟩ := (h1 (keepBit h (by omega) (by decide))); exact ⟨z, ez, hz.imp (fun hq => setBit hq (by omega)) id⟩), fun h => by rw [upd_ne _ _ _ _ (by decide)]; exact (h2 (keepBit h (by omega) (by decide))), fun h => by rw [upd_ne _ _ _ _ (by decide)]; exact (h3 (keepBit h (by omega) (by decide))), fun h => by rw [upd_ne _ _ _ _ (by decide)]; exact (h4 (keepBit h (by omega) (by decide))), fun h => by obtain ⟨p, C, ep, hp, hP, hC, hR⟩ := h5 (keepBit h (by omega) (by decide)); exact ⟨p, C, (upd_ne _ _ _ _ (by decide)).trans ep, hp, hP, hC, fun hq6 => (hR (keepBit hq6 (by omega) (by decide)))⟩, fun h => setBit (h6 (keepBit h (by omega) (by decide))) (by omega)⟩
          · have d0 := h0 (ready_needs hi (by decide))
            have ev65 := (frame_eval_in a0 [65, 66, 67, 68, 69, 12] x 65 rfl (by omega)).trans d0
            refine wpOp_plain rfl rfl (wp_call_go (N := 21) rfl (fun _ _ => by go_simp) #[.agg #[.slice av ps.length cp, .slice bv ss.length dp]] (by simp only [List.map_toArray, List.map_cons, List.map_nil, ev65]) ?_)
            refine Calls.mono (toTable_u _ _ ps ss _ (HV.out.below (HB.out.trans (hB.mono (by omega)))) (HU.out.below (HB.out.trans (hB.mono (by omega)))) hl.1.1 hl.2.1) ?_
            rintro e w2 ⟨z, rfl, f0, hb⟩
            refine ⟨_, rfl, ?_⟩
            exact ⟨_, frame_put _ _ _ 66 _ rfl, hB.trans (hb.mono hw'), fun h => by rw [upd_ne _ _ _ _ (by decide)]; exact (h0 (keepBit h (by omega) (by decide))), fun h => ⟨z, upd_same _ _ _, .inr ⟨f0.prs, f0.ses⟩⟩, fun h => by rw [upd_ne _ _ _ _ (by decide)]; exact (h2 (keepBit h (by omega) (by decide))), fun h => by rw [upd_ne _ _ _ _ (by decide)]; exact (h3 (keepBit h (by omega) (by decide))), fun h => by rw [upd_ne _ _ _ _ (by decide)]; exact (by obtain ⟨va, vc, ua, uc, ey, ho⟩ := (h4 (keepBit h (by omega) (by decide))); exact ⟨va, vc, ua, uc, ey, ho.below hb⟩), fun h => by obtain ⟨p, C, ep, hp, hP, hC, hR⟩ := h5 (keepBit h (by omega) (by decide)); exact ⟨p, C, (upd_ne _ _ _ _ (by decide)).trans ep, hp, hP.below hb hP.lt, hC, fun hq6 => (by obtain ⟨va, vc, ua, uc, ey, ho⟩ := (hR (keepBit hq6 (by omega) (by decide))); exact ⟨va, vc, ua, uc, ey, ho.below hb⟩)⟩, fun h => setBit (h6 (keepBit h (by omega) (by decide))) (by omega)⟩
          · skip
            refine wpOp_plain rfl rfl (wp_load_blk 51 (.tmp 3) rfl (w.heap.size + 1) ((frame_eval _ _ _ 3 rfl).trans e3) (BCo.below hB (by omega)) Try.underlying51 rfl sizeLCmd rfl ?_)
            exact ⟨_, frame_put _ _ _ 67 _ rfl, hB, fun h => by rw [upd_ne _ _ _ _ (by decide)]; exact (h0 (keepBit h (by omega) (by decide))), fun h => by rw [upd_ne _ _ _ _ (by decide)]; exact (by obtain ⟨z, ez, hz⟩ := (h1 (keepBit h (by omega) (by decide))); exact ⟨z, ez, hz.imp (fun hq => setBit hq (by omega)) id⟩), fun h => upd_same _ _ _, fun h => by rw [upd_ne _ _ _ _ (by decide)]; exact (h3 (keepBit h (by omega) (by decide))), fun h => by rw [upd_ne _ _ _ _ (by decide)]; exact (h4 (keepBit h (by omega) (by decide))), fun h => by obtain ⟨p, C, ep, hp, hP, hC, hR⟩ := h5 (keepBit h (by omega) (by decide)); exact ⟨p, C, (upd_ne _ _ _ _ (by decide)).trans ep, hp, hP, hC, fun hq6 => (hR (keepBit hq6 (by omega) (by decide)))⟩, fun h => setBit (h6 (keepBit h (by omega) (by decide))) (by omega)⟩
          · have d2 := h2 (ready_needs hi (by decide))
            have ev67 := (frame_eval_in a0 [65, 66, 67, 68, 69, 12] x 67 rfl (by omega)).trans d2
            refine wpOp_plain rfl rfl (wp_call_go (N := 22) rfl (fun _ _ => by go_simp) #[.agg #[.int .i64 cl, .int .i64 sq, .int .i64 op, .string k, .string v, .string o]] (by simp only [List.map_toArray, List.map_cons, List.map_nil, ev67]) ?_)
            refine Calls.mono (toCmd_u cl sq op k v o _) ?_
            rintro e w2 ⟨rfl, hb⟩
            refine ⟨_, rfl, ?_⟩
            exact ⟨_, frame_put _ _ _ 68 _ rfl, hB.trans (hb.mono hw'), fun h => by rw [upd_ne _ _ _ _ (by decide)]; exact (h0 (keepBit h (by omega) (by decide))), fun h => by rw [upd_ne _ _ _ _ (by decide)]; exact (by obtain ⟨z, ez, hz⟩ := (h1 (keepBit h (by omega) (by decide))); exact ⟨z, ez, hz.imp (fun hq => setBit hq (by omega)) (fun hq => ⟨hq.1.below hb, hq.2.below hb⟩)⟩), fun h => by rw [upd_ne _ _ _ _ (by decide)]; exact (h2 (keepBit h (by omega) (by decide))), fun h => upd_same _ _ _, fun h => by rw [upd_ne _ _ _ _ (by decide)]; exact (by obtain ⟨va, vc, ua, uc, ey, ho⟩ := (h4 (keepBit h (by omega) (by decide))); exact ⟨va, vc, ua, uc, ey, ho.below hb⟩), fun h => by obtain ⟨p, C, ep, hp, hP, hC, hR⟩ := h5 (keepBit h (by omega) (by decide)); exact ⟨p, C, (upd_ne _ _ _ _ (by decide)).trans ep, hp, hP.below hb hP.lt, hC, fun hq6 => (by obtain ⟨va, vc, ua, uc, ey, ho⟩ := (hR (keepBit hq6 (by omega) (by decide))); exact ⟨va, vc, ua, uc, ey, ho.below hb⟩)⟩, fun h => setBit (h6 (keepBit h (by omega) (by decide))) (by omega)⟩
          · have d1 := h1 (ready_needs hi (by decide))
            have d3 := h3 (ready_needs hi (by decide))
            obtain ⟨z, ez, hz⟩ := d1
            have hpz := hz.resolve_left (fun hq => readyBit hsL hi hq)
            have ev66 := (frame_eval_in a0 [65, 66, 67, 68, 69, 12] x 66 rfl (by omega)).trans ez
            have ev68 := (frame_eval_in a0 [65, 66, 67, 68, 69, 12] x 68 rfl (by omega)).trans d3
            refine wpOp_plain rfl rfl (wp_call_go (N := 10) rfl (fun _ _ => by go_simp) #[.agg #[.slice (some ⟨z.1, 0, none⟩) ps.length ps.length, .slice (some ⟨z.2, 0, none⟩) ss.length ss.length], .agg #[.int .i64 cl, .int .i64 sq, .int .i64 op, .string k, .string v, .string o]] (by simp only [List.map_toArray, List.map_cons, List.map_nil, ev66, ev68]) ?_)
            refine Calls.mono (HIm.out _ _ hpz hl hk) ?_
            rintro e w2 ⟨va, vc, ua, uc, rfl, ho, hb⟩
            refine ⟨_, rfl, ?_⟩
            exact ⟨_, frame_put _ _ _ 69 _ rfl, hB.trans (hb.mono hw'), fun h => by rw [upd_ne _ _ _ _ (by decide)]; exact (h0 (keepBit h (by omega) (by decide))), fun h => by rw [upd_ne _ _ _ _ (by decide)]; exact (by obtain ⟨z, ez, hz⟩ := (h1 (keepBit h (by omega) (by decide))); exact ⟨z, ez, hz.imp (fun hq => setBit hq (by omega)) (fun hq => ⟨hq.1.below hb, hq.2.below hb⟩)⟩), fun h => by rw [upd_ne _ _ _ _ (by decide)]; exact (h2 (keepBit h (by omega) (by decide))), fun h => by rw [upd_ne _ _ _ _ (by decide)]; exact (h3 (keepBit h (by omega) (by decide))), fun h => ⟨va, vc, ua, uc, upd_same _ _ _, ho.le hw'⟩, fun h => by obtain ⟨p, C, ep, hp, hP, hC, hR⟩ := h5 (keepBit h (by omega) (by decide)); exact ⟨p, C, (upd_ne _ _ _ _ (by decide)).trans ep, hp, hP.below hb hP.lt, hC, fun hq6 => (by obtain ⟨va, vc, ua, uc, ey, ho⟩ := (hR (keepBit hq6 (by omega) (by decide))); exact ⟨va, vc, ua, uc, ey, ho.below hb⟩)⟩, fun h => setBit (h6 (keepBit h (by omega) (by decide))) (by omega)⟩
          · skip
            refine wpOp_plain rfl rfl (wp_alloc_go 37 #[.int .i64 0, .int .i64 0, .string ⟨#[]⟩, .slice none 0 0, .slice none 0 0] rfl (fun _ => by go_simp) ?_)
            have hb : Below w'.heap.size w' (w'.alloc (.cells #[.int .i64 0, .int .i64 0, .string ⟨#[]⟩, .slice none 0 0, .slice none 0 0] 37)) := (Below.refl _ _).alloc (Nat.le_refl _) _
            exact ⟨_, frame_put _ _ _ 12 _ rfl, hB.alloc hw' _, fun h => by rw [upd_ne _ _ _ _ (by decide)]; exact (h0 (keepBit h (by omega) (by decide))), fun h => by rw [upd_ne _ _ _ _ (by decide)]; exact (by obtain ⟨z, ez, hz⟩ := (h1 (keepBit h (by omega) (by decide))); exact ⟨z, ez, hz.imp (fun hq => setBit hq (by omega)) (fun hq => ⟨hq.1.below hb, hq.2.below hb⟩)⟩), fun h => by rw [upd_ne _ _ _ _ (by decide)]; exact (h2 (keepBit h (by omega) (by decide))), fun h => by rw [upd_ne _ _ _ _ (by decide)]; exact (h3 (keepBit h (by omega) (by decide))), fun h => by rw [upd_ne _ _ _ _ (by decide)]; exact (by obtain ⟨va, vc, ua, uc, ey, ho⟩ := (h4 (keepBit h (by omega) (by decide))); exact ⟨va, vc, ua, uc, ey, ho.below hb⟩), fun h => ⟨_, _, upd_same _ _ _, hw', Blk.new _ _ _, rfl, fun hq6 => (readyBit hsL hi (h6 (keepBit hq6 (by omega) (by decide)))).elim⟩, fun h => setSelf (by omega)⟩
          · have d4 := h4 (ready_needs hi (by decide))
            have d5 := h5 (ready_needs hi (by decide))
            obtain ⟨p, C, ep, hp, hP, hC, hR⟩ := d5
            obtain ⟨va, vc, ua, uc, ey, ho⟩ := d4
            have evp := (frame_eval_in a0 [65, 66, 67, 68, 69, 12] x 12 rfl (by omega)).trans ep
            have evs := (frame_eval_in a0 [65, 66, 67, 68, 69, 12] x 69 rfl (by omega)).trans ey
            refine wpOp_plain rfl rfl (wp_store_blk 37 (.tmp 12) (.tmp 69) rfl p evp evs hP infoAns rfl hC (by simp [Value.oneCell']) ?_)
            exact ⟨_, rfl, below_row hB hp _, fun h => (h0 (keepBit h (by omega) (by decide))), fun h => (by obtain ⟨z, ez, hz⟩ := (h1 (keepBit h (by omega) (by decide))); exact ⟨z, ez, .inl (setBit (ready_needs hi (by decide)) (by omega))⟩), fun h => (h2 (keepBit h (by omega) (by decide))), fun h => (h3 (keepBit h (by omega) (by decide))), fun h => (by obtain ⟨va, vc, ua, uc, ey, ho⟩ := (h4 (keepBit h (by omega) (by decide))); exact ⟨va, vc, ua, uc, ey, ho.row hP _⟩), fun h => ⟨p, _, ep, hp, hP.row _, rfl, fun _ => ⟨va, vc, ua, uc, rfl, ho.row hP _⟩⟩, fun h => setBit (ready_needs hi (by decide)) (by omega)⟩
        · rintro L a w' hsL hr ⟨x, rfl, hB, h0, h1, h2, h3, h4, h5, h6⟩
          have hall := ready_nil hsL hr (by decide)
          replace h0 := h0 (hall 0 (by decide))
          replace h1 := h1 (hall 1 (by decide))
          replace h2 := h2 (hall 2 (by decide))
          replace h3 := h3 (hall 3 (by decide))
          replace h4 := h4 (hall 4 (by decide))
          replace h5 := h5 (hall 5 (by decide))
          replace h6 := h6 (hall 6 (by decide))
          obtain ⟨p, C, ep, hp, hP, hC, hR⟩ := h5
          replace hR := hR (hall 6 (by decide))
          rw [HA0.out]
          simp only [frame, List.zipIdx_cons, List.zipIdx_nil, List.map_cons, List.map_nil, List.contains_cons, List.contains_nil, Nat.reduceBEq, Nat.reduceAdd, Bool.or_false, Bool.false_or, Bool.or_true, Bool.true_or, Bool.false_eq_true, if_false, if_true, h0, h2, h3, ep]
          obtain ⟨w13, hw13⟩ : ∃ x, x = w' := ⟨_, rfl⟩
          subst hw13
          have hbb : Below w12.heap.size w12 w13 := hB
          have zw13 : w12.heap.size ≤ w13.heap.size := hbb.size
          replace BA : Hid (Blk w13 (w.heap.size) #[.slice av ps.length cp, .slice bv ss.length dp] 50) := BA.out.below hbb (by omega)
          replace BC : Hid (Blk w13 (w.heap.size + 1) #[.int .i64 cl, .int .i64 sq, .int .i64 op, .string k, .string v, .string o] 51) := BC.out.below hbb (by omega)
          replace BW : Hid (Blk w13 (p6) #[.int .i64 X0, .int .i64 X1, .string X2, .slice va3 x3.length vc3, .slice ua3 x4.length uc3] 37) := BW.out.below hbb (by omega)
          replace HW : Hid (TabX la3 ra3 lb3 rb3 w13 (.slice va3 x3.length vc3) (.slice ua3 x4.length uc3) x3 x4) := HW.out.keep fun k kk => hbb.block k (by omega)
          replace BX : Hid (Blk w13 (w4.heap.size) #[.slice (some ⟨qX.1, 0, none⟩) ps.length ps.length, .slice (some ⟨qX.2, 0, none⟩) ss.length ss.length] 29) := BX.out.below hbb (by omega)
          replace BG : Hid (Blk w13 (p8) #[.int .i64 X0, .int .i64 X1, .string X2, .slice va6 x3.length vc6, .slice ua6 x4.length uc6] 37) := BG.out.below hbb (by omega)
          replace HM : Hid (TabX la6 ra6 lb6 rb6 w13 (.slice va6 x3.length vc6) (.slice ua6 x4.length uc6) (mkPrs 1 x3.length) (mkSes (1 + 2 * x3.length) x4.length)) := HM.out.keep fun k kk => hbb.block k (by omega)
          replace HB : Hid (Below w.heap.size w w13) := HB.out.trans (hbb.mono (by omega))
          obtain ⟨va13, vc13, ua13, uc13, hCe, hT⟩ := hR
          subst hCe
          obtain ⟨la13, ra13, lb13, rb13, hsa13, hsb13, hsp13, hTX⟩ := hT.x hx3m hx4m zw13 hP
          have hpl13 := hP.lt
          obtain ⟨p12, hpe⟩ : ∃ q, q = p := ⟨_, rfl⟩
          subst hpe
          have BH : Hid (Blk w13 p12 #[.int .i64 X0, .int .i64 X1, .string X2, .slice va13 x3.length vc13, .slice ua13 x4.length uc13] 37) := hP
          have HH : Hid (TabX la13 ra13 lb13 rb13 w13 (.slice va13 x3.length vc13) (.slice ua13 x4.length uc13) x3 x4) := hTX
          clear BAo BCo hbb hB hT hTX hP h0 h2 h3 h6 hall hr hsL HA0 hsz0 e2 e3 hC ep
          obtain ⟨z1, ez1, _⟩ := h1
          obtain ⟨_, _, _, _, ez4, _⟩ := h4
          rw [ez1, ez4]
          clear ez1 ez4
          go_wp2_with (first
            | (have hBA := BH; refine gate_ld 37 (.tmp 12) rfl ?_; clear hBA; refine wpl_load_blk rfl 37 (.tmp 12) rfl (p12) rfl BH.out Try.underlying37 rfl infoAns rfl ?_)
            | (have hBA := BW; refine gate_ld 37 (.tmp 6) rfl ?_; clear hBA; refine wpl_load_blk rfl 37 (.tmp 6) rfl (p6) rfl BW.out Try.underlying37 rfl infoAns rfl ?_)
            | (have hBA := BG; refine gate_ld 37 (.tmp 8) rfl ?_; clear hBA; refine wpl_load_blk rfl 37 (.tmp 8) rfl (p8) rfl BG.out Try.underlying37 rfl infoAns rfl ?_)
            | (go_at_call 23; clear g10; refine Calls.mono (eqApplyAnswer_u X0 X1 X2 _ _ _ _ _ _ _ _ x3 x4 _ (HH.out.r (lo := 0) (hi := w13.heap.size) (by omega) (by omega) (by omega) (by omega) (by omega) (by omega)) (HW.out.r (lo := 0) (hi := w13.heap.size) (by omega) (by omega) (by omega) (by omega) (by omega) (by omega))) ?_; rintro e w14 ⟨rfl, hb⟩; have hbb : Below w13.heap.size w13 w14 := hb; have zw14 : w13.heap.size ≤ w14.heap.size := hbb.size; replace BA : Hid (Blk w14 (w.heap.size) #[.slice av ps.length cp, .slice bv ss.length dp] 50) := BA.out.below hbb (by omega); replace BC : Hid (Blk w14 (w.heap.size + 1) #[.int .i64 cl, .int .i64 sq, .int .i64 op, .string k, .string v, .string o] 51) := BC.out.below hbb (by omega); replace BW : Hid (Blk w14 (p6) #[.int .i64 X0, .int .i64 X1, .string X2, .slice va3 x3.length vc3, .slice ua3 x4.length uc3] 37) := BW.out.below hbb (by omega); replace HW : Hid (TabX la3 ra3 lb3 rb3 w14 (.slice va3 x3.length vc3) (.slice ua3 x4.length uc3) x3 x4) := HW.out.keep fun k kk => hbb.block k (by omega); replace BX : Hid (Blk w14 (w4.heap.size) #[.slice (some ⟨qX.1, 0, none⟩) ps.length ps.length, .slice (some ⟨qX.2, 0, none⟩) ss.length ss.length] 29) := BX.out.below hbb (by omega); replace BG : Hid (Blk w14 (p8) #[.int .i64 X0, .int .i64 X1, .string X2, .slice va6 x3.length vc6, .slice ua6 x4.length uc6] 37) := BG.out.below hbb (by omega); replace HM : Hid (TabX la6 ra6 lb6 rb6 w14 (.slice va6 x3.length vc6) (.slice ua6 x4.length uc6) (mkPrs 1 x3.length) (mkSes (1 + 2 * x3.length) x4.length)) := HM.out.keep fun k kk => hbb.block k (by omega); replace BH : Hid (Blk w14 (p12) #[.int .i64 X0, .int .i64 X1, .string X2, .slice va13 x3.length vc13, .slice ua13 x4.length uc13] 37) := BH.out.below hbb (by omega); replace HH : Hid (TabX la13 ra13 lb13 rb13 w14 (.slice va13 x3.length vc13) (.slice ua13 x4.length uc13) x3 x4) := HH.out.keep fun k kk => hbb.block k (by omega); replace HB : Hid (Below w.heap.size w w14) := HB.out.trans (hbb.mono (by omega)); clear hb hbb)
            | (go_at_call 25; clear g11; refine Calls.mono (heldApplyAnswer_u X0 X1 X2 _ _ _ _ _ _ _ (HM.out.r (lo := 0) (hi := w14.heap.size) (by omega) (by omega) (by omega) (by omega) (by omega) (by omega)) (Nat.le_refl _) hx3 hx4) ?_; rintro e w15 ⟨rfl, hb⟩; have hbb : Below w14.heap.size w14 w15 := hb; have zw15 : w14.heap.size ≤ w15.heap.size := hbb.size; replace BA : Hid (Blk w15 (w.heap.size) #[.slice av ps.length cp, .slice bv ss.length dp] 50) := BA.out.below hbb (by omega); replace BC : Hid (Blk w15 (w.heap.size + 1) #[.int .i64 cl, .int .i64 sq, .int .i64 op, .string k, .string v, .string o] 51) := BC.out.below hbb (by omega); replace BW : Hid (Blk w15 (p6) #[.int .i64 X0, .int .i64 X1, .string X2, .slice va3 x3.length vc3, .slice ua3 x4.length uc3] 37) := BW.out.below hbb (by omega); replace HW : Hid (TabX la3 ra3 lb3 rb3 w15 (.slice va3 x3.length vc3) (.slice ua3 x4.length uc3) x3 x4) := HW.out.keep fun k kk => hbb.block k (by omega); replace BX : Hid (Blk w15 (w4.heap.size) #[.slice (some ⟨qX.1, 0, none⟩) ps.length ps.length, .slice (some ⟨qX.2, 0, none⟩) ss.length ss.length] 29) := BX.out.below hbb (by omega); replace BG : Hid (Blk w15 (p8) #[.int .i64 X0, .int .i64 X1, .string X2, .slice va6 x3.length vc6, .slice ua6 x4.length uc6] 37) := BG.out.below hbb (by omega); replace HM : Hid (TabX la6 ra6 lb6 rb6 w15 (.slice va6 x3.length vc6) (.slice ua6 x4.length uc6) (mkPrs 1 x3.length) (mkSes (1 + 2 * x3.length) x4.length)) := HM.out.keep fun k kk => hbb.block k (by omega); replace BH : Hid (Blk w15 (p12) #[.int .i64 X0, .int .i64 X1, .string X2, .slice va13 x3.length vc13, .slice ua13 x4.length uc13] 37) := BH.out.below hbb (by omega); replace HH : Hid (TabX la13 ra13 lb13 rb13 w15 (.slice va13 x3.length vc13) (.slice ua13 x4.length uc13) x3 x4) := HH.out.keep fun k kk => hbb.block k (by omega); replace HB : Hid (Below w.heap.size w w15) := HB.out.trans (hbb.mono (by omega)); clear hb hbb))
          go_ret
          exact ⟨rfl, HB.out⟩
end Go.Proofs.Ytelfejhopjbhpaa
