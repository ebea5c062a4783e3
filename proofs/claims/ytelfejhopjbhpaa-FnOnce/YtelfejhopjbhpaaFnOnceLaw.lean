/-
  The walk of the law FnOnce.
-/
import Derived.Test.YtelfejhopjbhpaaOnTwice
import Derived.Test.YtelfejhopjbhpaaOnSame
import Derived.Test.YtelfejhopjbhpaaTlImpl
import Derived.Test.YtelfejhopjbhpaaTlSpec
import Derived.Test.YtelfejhopjbhpaaTbCmdI
import Derived.BigQuiet
namespace Go.Proofs.Ytelfejhopjbhpaa
open Go.RowKit Go.Maps
set_option linter.unusedVariables false
set_option linter.unusedSimpArgs false

theorem sizeTabN : (Try.prog.info? 29).map (·.size) = some 2 := by kernel_rfl
theorem TabO.sl {w : World} {B : Nat} {v u : Value} {ps : List Pr} {ss : List Se} (h : TabO w B v u ps ss) (hn : ps.length ≤ maxLen) (hm : ss.length ≤ maxLen) : Ps w v ps ∧ Ss w u ss := ⟨h.prs.sl prLaw hn, h.ses.sl seLaw hm⟩
theorem maxSeq_take (l : List Ent) (c : Int) (k : Nat) (h : k < l.length) : maxSeq (l.take (k + 1)) c = maxStep c (maxSeq (l.take k) c) l[k] := by rw [List.take_succ_eq_append_getElem h, maxSeq_snoc]
theorem maxSeq_nat (l : List Ent) (c : Int) : 0 ≤ maxSeq l c := by
  induction l using List.reverseRecOn' with
  | nil => exact Int.le_refl _
  | snoc l a ih => rw [maxSeq_snoc]; unfold maxStep; split <;> omega

set_option maxHeartbeats 16000000 in
set_option maxRecDepth 100000 in
theorem lawOnce_walk (vl : Value) (l : List Int) {w : World} (hv : Bs w vl l) :
    Calls Try.prog 3 #[vl] w fun e w' => e = .returned (.bool true) ∧ Below w.heap.size w w' := by
  have HV : Hid (Bs w vl l) := hv
  obtain ⟨hlm, h8, a0, cap0, rfl, _⟩ := hv
  unfold maxLen at hlm
  by_cases hL : l.length ≤ 1048576
  case neg =>
    have hLd : (1048576 : Int) < (l.length : Int) := by omega
    go_enter Try.func3, Try.ntmps3
    go_wp2
    go_ret
    exact ⟨rfl, Below.refl _ _⟩
  have hLd : ¬ (1048576 : Int) < (l.length : Int) := by omega
  have HDR := drawLogTwice_any a0 cap0 l w HV.out hL
  have HD : Hid (Calls Try.prog 6 #[.slice a0 l.length cap0] w _) := HDR
  clear HDR h8
  have g1 : True := trivial
  have g2 : True := trivial
  go_enter Try.func3, Try.ntmps3
  go_wp2_with (first
    | (go_at_call 6; refine HD.out.mono ?_; rintro r w1 ⟨la, lc, lb, ld, es, rfl, hle, hall, hoe, hon, hb1⟩; have HALL : Hid (∀ e ∈ es, entB e = true) := hall; have HNL : Hid (∀ e ∈ onceP es es.length, entB e = true) := fun e he => hall e (onceP_mem es _ e he); have hnn : (onceP es es.length).length ≤ es.length := onceP_len es _; have HOE : Hid (OwnE w1 w.heap.size (.slice la es.length lc) es) := hoe; have HON : Hid (OwnE w1 w.heap.size (.slice lb (onceP es es.length).length ld) (onceP es es.length)) := hon; have HB1 : Hid (Below w.heap.size w w1) := hb1; have hz1 := hb1.size; have hce := hoe.capE rfl; have hcn := hon.capE rfl; have HEE : Hid (Es w1 (.slice la es.length lc) es) := hoe.es (by unfold maxLen; omega); have HEN : Hid (Es w1 (.slice lb (onceP es es.length).length ld) (onceP es es.length)) := hon.es (by unfold maxLen; omega); have hR := runT_ok es; obtain ⟨X, hX⟩ : ∃ X, X = runT es := ⟨_, rfl⟩; have HX : Hid (X = runT es) := hX; have HL1 : Hid (logAns (onceP es es.length) ((onceP es es.length).length : Int) = X) := (by show _ = _; rw [logAns_all _ HNL.out (by omega) _ (Int.le_refl _), once_all es hall, hX]); have HL2 : Hid (logAns es (es.length : Int) = X) := (by show _ = _; rw [logAns_all _ hall (by omega) _ (Int.le_refl _), hX]); have HL3 : Hid (logAns (onceP es es.length) ((onceP es es.length).length + 1 : Int) = X) := (by show _ = _; rw [logAns_all _ HNL.out (by omega) _ (by omega), once_all es hall, hX]); rw [← hX] at hR; obtain ⟨ps, ss⟩ := X; have hpl : ps.length ≤ 256 := hR.1.len; have hsl : ss.length ≤ 8 := hR.2.len; have hpm : ps.length ≤ maxLen := (by unfold maxLen; omega); have hsm : ss.length ≤ maxLen := (by unfold maxLen; omega); have HR : Hid (PsOk ps ∧ SsOk ss) := hR; generalize onceP es es.length = N at *; clear hall hoe hon hb1 hX hR)
    | (go_at_call 7; refine (sApplyLog_any lb ld N (N.length : Int) w1 HEN.out (by omega)).mono ?_; rw [HL1.out]; rintro r w2 ⟨va2, vc2, ua2, uc2, rfl, hT, hb⟩; have PT2 : Hid (Ps w2 (.slice va2 ps.length vc2) ps ∧ Ss w2 (.slice ua2 ss.length uc2) ss) := hT.sl hpm hsm; have hbb : Below w1.heap.size w1 w2 := hb; have hz2 : w1.heap.size ≤ w2.heap.size := hb.size; have HC2 : Hid (Below w1.heap.size w1 w2) := hbb; clear hb hbb hT)
    | (have hBA := PT2; refine gate_st 29 (.tmp 5) _ rfl ?_; clear hBA; refine wpl_store_last rfl 29 (.tmp 5) _ rfl (w2.heap.size) rfl rfl rfl sizeTabN rfl rfl (by simp [Value.oneCell']) ?_)
    | (go_at_call 8; clear g1; refine (implApplyLog_any la lc es (es.length : Int) _ (HEE.out.below (HC2.out.alloc (by omega) _)) hce (by omega)).mono ?_; rw [HL2.out]; rintro r w3 ⟨va3, vc3, ua3, uc3, rfl, hT, hb⟩; have PT3 : Hid (Ps w3 (.slice va3 ps.length vc3) ps ∧ Ss w3 (.slice ua3 ss.length uc3) ss) := hT.sl hpm hsm; have hbb : Below w2.heap.size w2 w3 := ((Below.refl _ _).alloc (Nat.le_refl _) _).trans (hb.mono (by simp)); have hz3 : w2.heap.size < w3.heap.size := (by have := hb.size; simp at this; omega); have HC3 : Hid (Below w1.heap.size w1 w3) := HC2.out.trans (hbb.mono (by omega)); have BW : Hid (Blk w3 w2.heap.size #[.slice va2 ps.length vc2, .slice ua2 ss.length uc2] 29) := (Blk.new w2 _ _).below hb (by simp); replace PT2 : Hid (Ps w3 (.slice va2 ps.length vc2) ps ∧ Ss w3 (.slice ua2 ss.length uc2) ss) := ⟨PT2.out.1.below hbb, PT2.out.2.below hbb⟩; clear hb hbb hT)
    | (have hBA := PT3; refine gate_st 29 (.tmp 6) _ rfl ?_; clear hBA; refine wpl_store_last rfl 29 (.tmp 6) _ rfl (w3.heap.size) rfl rfl rfl sizeTabN rfl rfl (by simp [Value.oneCell']) ?_)
    | (go_at_call 8; refine (implApplyLog_any lb ld N ((N.length : Int) + 1) _ (HEN.out.below (HC3.out.alloc (by omega) _)) hcn (by omega)).mono ?_; rw [HL3.out]; rintro r w4 ⟨va4, vc4, ua4, uc4, rfl, hT, hb⟩; have PT4 : Hid (Ps w4 (.slice va4 ps.length vc4) ps ∧ Ss w4 (.slice ua4 ss.length uc4) ss) := hT.sl hpm hsm; have hbb : Below w3.heap.size w3 w4 := ((Below.refl _ _).alloc (Nat.le_refl _) _).trans (hb.mono (by simp)); have hz4 : w3.heap.size < w4.heap.size := (by have := hb.size; simp at this; omega); have HC4 : Hid (Below w1.heap.size w1 w4) := HC3.out.trans (hbb.mono (by omega)); have BA : Hid (Blk w4 w3.heap.size #[.slice va3 ps.length vc3, .slice ua3 ss.length uc3] 29) := (Blk.new w3 _ _).below hb (by simp); replace PT2 : Hid (Ps w4 (.slice va2 ps.length vc2) ps ∧ Ss w4 (.slice ua2 ss.length uc2) ss) := ⟨PT2.out.1.below hbb, PT2.out.2.below hbb⟩; replace PT3 : Hid (Ps w4 (.slice va3 ps.length vc3) ps ∧ Ss w4 (.slice ua3 ss.length uc3) ss) := ⟨PT3.out.1.below hbb, PT3.out.2.below hbb⟩; replace BW : Hid (Blk w4 _ _ _) := BW.out.below hbb (by omega); clear hb hbb hT)
    | (have hBA := PT4; refine gate_st 29 (.tmp 7) _ rfl ?_; clear hBA; refine wpl_store_last rfl 29 (.tmp 7) _ rfl (w4.heap.size) rfl rfl rfl sizeTabN rfl rfl (by simp [Value.oneCell']) ?_)
    | (have hBA := PT4; refine gate_ld 29 (.tmp 6) rfl ?_; clear hBA; refine wpl_load_blk rfl 29 (.tmp 6) rfl (w3.heap.size) rfl (BA.out.alloc _) Try.underlying29 rfl sizeTabN rfl ?_)
    | (have hBA := PT4; refine gate_ld 29 (.tmp 5) rfl ?_; clear hBA; refine wpl_load_blk rfl 29 (.tmp 5) rfl (w2.heap.size) rfl (BW.out.alloc _) Try.underlying29 rfl sizeTabN rfl ?_)
    | (go_at_call 9; clear g2; refine (sameTable_u _ _ _ _ _ _ _ _ ps ss _ (PT3.out.1.below ((Below.refl _ _).alloc (Nat.le_refl _) _)) (PT3.out.2.below ((Below.refl _ _).alloc (Nat.le_refl _) _)) (PT2.out.1.below ((Below.refl _ _).alloc (Nat.le_refl _) _)) (PT2.out.2.below ((Below.refl _ _).alloc (Nat.le_refl _) _)) (by omega) (by omega)).mono ?_; rintro r w5 ⟨rfl, hb⟩; have hbb : Below w4.heap.size w4 w5 := ((Below.refl _ _).alloc (Nat.le_refl _) _).trans (hb.mono (by simp)); have hz5 : w4.heap.size < w5.heap.size := (by have := hb.size; simp at this; omega); have HC5 : Hid (Below w1.heap.size w1 w5) := HC4.out.trans (hbb.mono (by omega)); have BB : Hid (Blk w5 w4.heap.size #[.slice va4 ps.length vc4, .slice ua4 ss.length uc4] 29) := (Blk.new w4 _ _).below hb (by simp); replace PT2 : Hid (Ps w5 (.slice va2 ps.length vc2) ps ∧ Ss w5 (.slice ua2 ss.length uc2) ss) := ⟨PT2.out.1.below hbb, PT2.out.2.below hbb⟩; replace PT3 : Hid (Ps w5 (.slice va3 ps.length vc3) ps ∧ Ss w5 (.slice ua3 ss.length uc3) ss) := ⟨PT3.out.1.below hbb, PT3.out.2.below hbb⟩; replace PT4 : Hid (Ps w5 (.slice va4 ps.length vc4) ps ∧ Ss w5 (.slice ua4 ss.length uc4) ss) := ⟨PT4.out.1.below hbb, PT4.out.2.below hbb⟩; replace BW : Hid (Blk w5 _ _ _) := BW.out.below hbb (by omega); replace BA : Hid (Blk w5 _ _ _) := BA.out.below hbb (by omega); clear hb hbb)
    | (have hBA := BB; refine gate_ld 29 (.tmp 7) rfl ?_; clear hBA; refine wpl_load_blkG rfl rfl 29 (.tmp 7) rfl (w4.heap.size) rfl BB.out Try.underlying29 rfl sizeTabN rfl ?_)
    | (have hBA := BB; refine gate_ld 29 (.tmp 5) rfl ?_; clear hBA; refine wpl_load_blkG rfl rfl 29 (.tmp 5) rfl (w2.heap.size) rfl BW.out Try.underlying29 rfl sizeTabN rfl ?_)
    | (go_at_call 9; refine (sameTable_u _ _ _ _ _ _ _ _ ps ss _ PT4.out.1 PT4.out.2 PT2.out.1 PT2.out.2 (by omega) (by omega)).mono ?_; rintro r w6 ⟨rfl, hb⟩; have hbb : Below w5.heap.size w5 w6 := hb; have hz6 : w5.heap.size ≤ w6.heap.size := hb.size; have HC6 : Hid (Below w1.heap.size w1 w6) := HC5.out.trans (hbb.mono (by omega)); replace PT2 : Hid (Ps w6 (.slice va2 ps.length vc2) ps ∧ Ss w6 (.slice ua2 ss.length uc2) ss) := ⟨PT2.out.1.below hbb, PT2.out.2.below hbb⟩; replace PT3 : Hid (Ps w6 (.slice va3 ps.length vc3) ps ∧ Ss w6 (.slice ua3 ss.length uc3) ss) := ⟨PT3.out.1.below hbb, PT3.out.2.below hbb⟩; replace BW : Hid (Blk w6 _ _ _) := BW.out.below hbb (by omega); replace BA : Hid (Blk w6 _ _ _) := BA.out.below hbb (by omega); clear hb hbb))
  have HE6 : Hid (Es w6 (.slice la es.length lc) es) := HEE.out.below HC6.out
  have HB6 : Hid (Below w.heap.size w w6) := HB1.out.trans (HC6.out.mono (by omega))
  have HAC : Hid (∀ e ∈ es, ∀ u, Below w6.heap.size w6 u → Calls Try.prog 10 #[.agg #[.slice va3 ps.length vc3, .slice ua3 ss.length uc3], .agg #[.int .i64 e.cl, .int .i64 e.sq, .int .i64 e.op, .string e.k, .string e.v, .string e.o]] u fun r w' => ∃ va9 vc9 ua9 uc9 X1 X2, r = .returned (.agg #[.int .i64 (codeT es e), .int .i64 X1, .string X2, .slice va9 ps.length vc9, .slice ua9 ss.length uc9]) ∧ (Ps w' (.slice va9 ps.length vc9) ps ∧ Ss w' (.slice ua9 ss.length uc9) ss) ∧ Below u.heap.size u w') := fun e he u hb => by
    have hB := HALL.out e he
    have hc := entB_cmd hB
    have hwf := cmdF_wf hc
    refine (implApplyCmd_any _ _ ps ss e.cl e.sq e.op e.k e.v e.o u (PT3.out.1.below hb) (PT3.out.2.below hb) (fun p hp => by have := HR.out.1.all p hp; unfold PrOk at this; omega) (fun p hp => by have := HR.out.2.all p hp; unfold SeOk at this; omega) (by omega) (by omega) hwf.1 hwf.2.1 hwf.2.2.1 hwf.2.2.2).mono ?_
    rw [applyA_yes HR.out, applyI, if_pos hc]
    have hag := again es HALL.out e hB (fun _ => maxSeq_ge es e.cl e he rfl)
    rw [← HX.out] at hag
    dsimp only at hag
    generalize applyC ps ss e.cl e.sq e.op e.k e.v e.o = x at hag ⊢
    obtain ⟨X0, X1, X2, x3, x4⟩ := x
    obtain ⟨h1, h2⟩ := hag
    dsimp only at h1 h2
    injection h2 with h3 h4
    subst h1 h3 h4
    rintro r w' ⟨va9, vc9, ua9, uc9, rfl, hT, hb'⟩
    exact ⟨va9, vc9, ua9, uc9, X1, X2, rfl, hT.sl hpm hsm, hb'⟩
  have hz16 : w1.heap.size ≤ w6.heap.size := HC6.out.size
  have hz2w : w2.heap.size < w6.heap.size := BW.out.lt
  have hz3w : w3.heap.size < w6.heap.size := BA.out.lt
  clear HEE HEN HON HOE HD HL1 HL2 HL3 HNL HC2 HC3 HC4 HC5 HB1
  go_loopw [8] (fun iv wr => ∃ i : Int, -1 ≤ i ∧ i < es.length ∧ iv = .int .i64 i ∧ Below w6.heap.size w6 wr) (fun i _ => (RowKit.intOf i + 1).toNat)
  case atStart => exact ⟨_, by omega, by omega, rfl, Below.refl _ _⟩
  case round =>
    obtain ⟨i, hi1, hi2, rfl, hB⟩ := hrel
    have HB : Hid (Below w6.heap.size w6 wr) := hB
    have hzr := hB.size
    by_cases h0 : 0 ≤ i
    case neg =>
      go_wp2
      go_ret
      exact ⟨rfl, HB6.out.trans (hB.mono (by have := HB6.out.size; omega))⟩
    by_cases h40 : (es.length : Int) - 40 ≤ i
    case neg =>
      go_wp2
      go_ret
      exact ⟨rfl, HB6.out.trans (hB.mono (by have := HB6.out.size; omega))⟩
    obtain ⟨j, rfl⟩ : ∃ j : Nat, i = j := ⟨i.toNat, by omega⟩
    have hj : j < es.length := by omega
    obtain ⟨b, off, hla, c0, c1, c2, c3, c4, c5, c6⟩ := (HE6.out.below hB).at7 hj
    subst hla
    have hbl : b < w6.heap.size := by
      obtain ⟨b', off', e', k0, _⟩ := HE6.out.at7 hj
      injection e' with e'
      injection e' with e1 _ _
      rw [e1]
      exact cell_lt k0
    have HACj := HAC.out es[j] (List.getElem_mem hj)
    have hBj := HALL.out es[j] (List.getElem_mem hj)
    have hge := maxSeq_ge es es[j].cl es[j] (List.getElem_mem hj) rfl
    obtain ⟨e, he⟩ : ∃ e, es[j] = e := ⟨_, rfl⟩
    rw [he] at c0 c1 c2 c3 c4 c5 c6 HACj hBj hge
    have HA9 : Hid (∀ u, Below w6.heap.size w6 u → Calls Try.prog 10 #[.agg #[.slice va3 ps.length vc3, .slice ua3 ss.length uc3], .agg #[.int .i64 e.cl, .int .i64 e.sq, .int .i64 e.op, .string e.k, .string e.v, .string e.o]] u _) := HACj
    clear hB HACj he hBj
    go_wp2
    obtain ⟨W7, hW7⟩ : ∃ W7, W7 = wr.alloc (.cells #[.int .i64 e.cl, .int .i64 e.sq, .int .i64 e.op, .string e.k, .string e.v, .string e.o] 33) := ⟨_, rfl⟩
    have BC7 : Hid (Blk W7 wr.heap.size #[.int .i64 e.cl, .int .i64 e.sq, .int .i64 e.op, .string e.k, .string e.v, .string e.o] 33) := by show Blk _ _ _ _; rw [hW7]; exact Blk.new _ _ _
    have HB7 : Hid (Below w6.heap.size w6 W7) := by show Below _ _ _; rw [hW7]; exact HB.out.alloc hzr _
    have hz7 : W7.heap.size = wr.heap.size + 1 := by rw [hW7]; simp
    rw [← hW7]
    clear hW7 c0 c1 c2 c3 c4 c5 c6
    have q0 : W7.cell? ⟨wr.heap.size, 0, none⟩ = some (.int .i64 e.cl) := BC7.out.cell 0
    have q1 : W7.cell? ⟨wr.heap.size, 1, none⟩ = some (.int .i64 e.sq) := BC7.out.cell 1
    have q2 : W7.cell? ⟨wr.heap.size, 2, none⟩ = some (.int .i64 e.op) := BC7.out.cell 2
    have q3 : W7.cell? ⟨wr.heap.size, 3, none⟩ = some (.string e.k) := BC7.out.cell 3
    have q4 : W7.cell? ⟨wr.heap.size, 4, none⟩ = some (.string e.v) := BC7.out.cell 4
    have q5 : W7.cell? ⟨wr.heap.size, 5, none⟩ = some (.string e.o) := BC7.out.cell 5
    go_loopw [10, 11] (fun lv kv wr' => ∃ k q : Nat, k ≤ es.length ∧ kv = .int .i64 k ∧ lv = .int .i64 (maxSeq (es.take k) e.cl) ∧ wr' = W7.drewN q) (fun _ k _ => es.length - (RowKit.intOf k).toNat)
    case atStart => exact ⟨0, 0, Nat.zero_le _, rfl, rfl, rfl⟩
    case round =>
      obtain ⟨k, q, hk, rfl, rfl, rfl⟩ := hrel
      by_cases hkl : k < es.length
      · have hkl' : (k : Int) < (es.length : Int) := by omega
        obtain ⟨b', off', hb', d0, d1, d2, d3, d4, d5, d6⟩ := (HE6.out.below HB7.out).at7 hkl
        injection hb' with hb'
        injection hb' with e1 e2 _
        subst e1 e2
        have HM : Hid (maxSeq (es.take (k + 1)) e.cl = maxStep e.cl (maxSeq (es.take k) e.cl) es[k]) := maxSeq_take es e.cl k hkl
        generalize es[k] = x at *
        generalize maxSeq (es.take k) e.cl = M at *
        clear d0 d3 d4 d5 d6
        cases hC : (x.cl == e.cl)
        · have HM' : Hid (maxSeq (es.take (k + 1)) e.cl = M) := by show _ = _; rw [HM.out, maxStep, if_neg (fun h => by simp [h.1] at hC)]
          go_wp2
          go_quiet (fail)
          go_wp2
          go_roundw
          case rel => exact ⟨k + 1, _, by omega, by go_num, by rw [HM'.out], by first | rfl | exact (World.drewN_drew _ _).symm⟩
          case measure => simp [RowKit.intOf]; omega
        · by_cases hQ : M < x.sq
          · have HM' : Hid (maxSeq (es.take (k + 1)) e.cl = x.sq) := by show _ = _; rw [HM.out, maxStep, if_pos ⟨by simpa using hC, hQ⟩]
            go_wp2
            go_quiet (fail)
            go_wp2
            go_roundw
            case rel => exact ⟨k + 1, _, by omega, by go_num, by rw [HM'.out], by first | rfl | exact (World.drewN_drew _ _).symm⟩
            case measure => simp [RowKit.intOf]; omega
          · have HM' : Hid (maxSeq (es.take (k + 1)) e.cl = M) := by show _ = _; rw [HM.out, maxStep, if_neg (fun h => hQ h.2)]
            go_wp2
            go_quiet (fail)
            go_wp2
            go_roundw
            case rel => exact ⟨k + 1, _, by omega, by go_num, by rw [HM'.out], by first | rfl | exact (World.drewN_drew _ _).symm⟩
            case measure => simp [RowKit.intOf]; omega
      · obtain rfl : k = es.length := by omega
        rw [List.take_length]
        obtain ⟨W8, hW8⟩ : ∃ W8, W8 = W7.drewN q := ⟨_, rfl⟩
        have HB8 : Hid (Below w6.heap.size w6 W8) := by show Below _ _ _; rw [hW8]; exact HB7.out.trans (below_drewO _ _ q)
        have BA8 : Hid (Blk W8 w3.heap.size #[.slice va3 ps.length vc3, .slice ua3 ss.length uc3] 29) := BA.out.below HB8.out hz3w
        have BW8 : Hid (Blk W8 w2.heap.size #[.slice va2 ps.length vc2, .slice ua2 ss.length uc2] 29) := BW.out.below HB8.out hz2w
        have hz8 : W8.heap.size = wr.heap.size + 1 := by rw [hW8]; exact hz7
        replace q0 : W8.cell? ⟨wr.heap.size, 0, none⟩ = some (.int .i64 e.cl) := by rw [hW8]; exact q0
        replace q1 : W8.cell? ⟨wr.heap.size, 1, none⟩ = some (.int .i64 e.sq) := by rw [hW8]; exact q1
        replace q2 : W8.cell? ⟨wr.heap.size, 2, none⟩ = some (.int .i64 e.op) := by rw [hW8]; exact q2
        replace q3 : W8.cell? ⟨wr.heap.size, 3, none⟩ = some (.string e.k) := by rw [hW8]; exact q3
        replace q4 : W8.cell? ⟨wr.heap.size, 4, none⟩ = some (.string e.v) := by rw [hW8]; exact q4
        replace q5 : W8.cell? ⟨wr.heap.size, 5, none⟩ = some (.string e.o) := by rw [hW8]; exact q5
        rw [← hW8]
        have HA := HA9.out W8 HB8.out
        have HCT : Hid (codeT es e = if e.op = 0 then 1 else if e.sq = maxSeq es e.cl then 2 else 3) := rfl
        clear HA9 HB7 BC7 hW8 hz7
        generalize maxSeq es e.cl = M at *
        cases hO : (e.op != 0)
        · rw [HCT.out, if_pos (by simpa using hO)] at HA
          have HA9 : Hid (Calls Try.prog 10 #[.agg #[.slice va3 ps.length vc3, .slice ua3 ss.length uc3], .agg #[.int .i64 e.cl, .int .i64 e.sq, .int .i64 e.op, .string e.k, .string e.v, .string e.o]] W8 _) := HA
          clear HA
          go_upto_region 24 with (fail)
          clear hO
          go_upto_region 25 with (first
            | (have hBA := BW8; refine gate_ld 29 (.tmp 6) rfl ?_; clear hBA; refine wpl_load_blk rfl 29 (.tmp 6) rfl (w3.heap.size) rfl BA8.out Try.underlying29 rfl sizeTabN rfl ?_)
            | (go_at_call 10; refine HA9.out.mono ?_; rintro r w8 ⟨va9, vc9, ua9, uc9, X1, X2, rfl, hT, hb⟩; have PT9 : Hid (Ps w8 (.slice va9 ps.length vc9) ps ∧ Ss w8 (.slice ua9 ss.length uc9) ss) := hT; have HB9 : Hid (Below w6.heap.size w6 w8) := HB8.out.trans (hb.mono (by omega)); have hz9 : W8.heap.size ≤ w8.heap.size := hb.size; clear hT hb HA9))
          obtain ⟨W9, hW9⟩ : ∃ W9, W9 = w8.alloc (.cells #[.int .i64 1, .int .i64 X1, .string X2, .slice va9 ps.length vc9, .slice ua9 ss.length uc9] 37) := ⟨_, rfl⟩
          have HB10 : Hid (Below w6.heap.size w6 W9) := by show Below _ _ _; rw [hW9]; exact HB9.out.alloc (by omega) _
          have hb11 : Below w8.heap.size w8 W9 := by rw [hW9]; exact (Below.refl _ _).alloc (Nat.le_refl _) _
          have BC9 : Hid (Blk W9 w8.heap.size #[.int .i64 1, .int .i64 X1, .string X2, .slice va9 ps.length vc9, .slice ua9 ss.length uc9] 37) := by show Blk _ _ _ _; rw [hW9]; exact Blk.new _ _ _
          have BW9 : Hid (Blk W9 w2.heap.size #[.slice va2 ps.length vc2, .slice ua2 ss.length uc2] 29) := BW.out.below HB10.out hz2w
          have PT10 : Hid (Ps W9 (.slice va9 ps.length vc9) ps ∧ Ss W9 (.slice ua9 ss.length uc9) ss) := ⟨PT9.out.1.below hb11, PT9.out.2.below hb11⟩
          have PT11 : Hid (Ps W9 (.slice va2 ps.length vc2) ps ∧ Ss W9 (.slice ua2 ss.length uc2) ss) := ⟨PT2.out.1.below HB10.out, PT2.out.2.below HB10.out⟩
          rw [← hW9]
          have r0 : W9.cell? ⟨w8.heap.size, 0, none⟩ = some (.int .i64 1) := BC9.out.cell 0
          have r3 : W9.cell? ⟨w8.heap.size, 3, none⟩ = some (.slice va9 ps.length vc9) := BC9.out.cell 3
          have r4 : W9.cell? ⟨w8.heap.size, 4, none⟩ = some (.slice ua9 ss.length uc9) := BC9.out.cell 4
          clear hW9 hb11 BC9 q0 q1 q2 q3 q4 q5
          go_wp2_with (first
            | (have hBA := r0; refine gate_ld 29 (.tmp 5) rfl ?_; clear hBA; refine wpl_load_blkG rfl rfl 29 (.tmp 5) rfl (w2.heap.size) rfl BW9.out Try.underlying29 rfl sizeTabN rfl ?_)
            | (go_at_call 9; refine (sameTable_u _ _ _ _ _ _ _ _ ps ss _ PT10.out.1 PT10.out.2 PT11.out.1 PT11.out.2 (by omega) (by omega)).mono ?_; rintro r w10 ⟨rfl, hb⟩; have HB12 : Hid (Below w6.heap.size w6 w10) := HB10.out.trans (hb.mono HB10.out.size); clear hb))
          go_roundw
          case rel => exact ⟨(j : Int) - 1, by omega, by omega, by go_num, HB12.out⟩
          case measure => simp [RowKit.intOf]
        · cases hS : (e.sq == M)
          · rw [HCT.out, if_neg (by simpa using hO), if_neg (by simpa using hS)] at HA
            have HA9 : Hid (Calls Try.prog 10 #[.agg #[.slice va3 ps.length vc3, .slice ua3 ss.length uc3], .agg #[.int .i64 e.cl, .int .i64 e.sq, .int .i64 e.op, .string e.k, .string e.v, .string e.o]] W8 _) := HA
            clear HA
            go_upto_region 24 with (fail)
            clear hO hS
            go_upto_region 25 with (first
              | (have hBA := BW8; refine gate_ld 29 (.tmp 6) rfl ?_; clear hBA; refine wpl_load_blk rfl 29 (.tmp 6) rfl (w3.heap.size) rfl BA8.out Try.underlying29 rfl sizeTabN rfl ?_)
              | (go_at_call 10; refine HA9.out.mono ?_; rintro r w8 ⟨va9, vc9, ua9, uc9, X1, X2, rfl, hT, hb⟩; have PT9 : Hid (Ps w8 (.slice va9 ps.length vc9) ps ∧ Ss w8 (.slice ua9 ss.length uc9) ss) := hT; have HB9 : Hid (Below w6.heap.size w6 w8) := HB8.out.trans (hb.mono (by omega)); have hz9 : W8.heap.size ≤ w8.heap.size := hb.size; clear hT hb HA9))
            obtain ⟨W9, hW9⟩ : ∃ W9, W9 = w8.alloc (.cells #[.int .i64 3, .int .i64 X1, .string X2, .slice va9 ps.length vc9, .slice ua9 ss.length uc9] 37) := ⟨_, rfl⟩
            have HB10 : Hid (Below w6.heap.size w6 W9) := by show Below _ _ _; rw [hW9]; exact HB9.out.alloc (by omega) _
            have hb11 : Below w8.heap.size w8 W9 := by rw [hW9]; exact (Below.refl _ _).alloc (Nat.le_refl _) _
            have BC9 : Hid (Blk W9 w8.heap.size #[.int .i64 3, .int .i64 X1, .string X2, .slice va9 ps.length vc9, .slice ua9 ss.length uc9] 37) := by show Blk _ _ _ _; rw [hW9]; exact Blk.new _ _ _
            have BW9 : Hid (Blk W9 w2.heap.size #[.slice va2 ps.length vc2, .slice ua2 ss.length uc2] 29) := BW.out.below HB10.out hz2w
            have PT10 : Hid (Ps W9 (.slice va9 ps.length vc9) ps ∧ Ss W9 (.slice ua9 ss.length uc9) ss) := ⟨PT9.out.1.below hb11, PT9.out.2.below hb11⟩
            have PT11 : Hid (Ps W9 (.slice va2 ps.length vc2) ps ∧ Ss W9 (.slice ua2 ss.length uc2) ss) := ⟨PT2.out.1.below HB10.out, PT2.out.2.below HB10.out⟩
            rw [← hW9]
            have r0 : W9.cell? ⟨w8.heap.size, 0, none⟩ = some (.int .i64 3) := BC9.out.cell 0
            have r3 : W9.cell? ⟨w8.heap.size, 3, none⟩ = some (.slice va9 ps.length vc9) := BC9.out.cell 3
            have r4 : W9.cell? ⟨w8.heap.size, 4, none⟩ = some (.slice ua9 ss.length uc9) := BC9.out.cell 4
            clear hW9 hb11 BC9 q0 q1 q2 q3 q4 q5
            go_wp2_with (first
              | (have hBA := r0; refine gate_ld 29 (.tmp 5) rfl ?_; clear hBA; refine wpl_load_blkG rfl rfl 29 (.tmp 5) rfl (w2.heap.size) rfl BW9.out Try.underlying29 rfl sizeTabN rfl ?_)
              | (go_at_call 9; refine (sameTable_u _ _ _ _ _ _ _ _ ps ss _ PT10.out.1 PT10.out.2 PT11.out.1 PT11.out.2 (by omega) (by omega)).mono ?_; rintro r w10 ⟨rfl, hb⟩; have HB12 : Hid (Below w6.heap.size w6 w10) := HB10.out.trans (hb.mono HB10.out.size); clear hb))
            go_roundw
            case rel => exact ⟨(j : Int) - 1, by omega, by omega, by go_num, HB12.out⟩
            case measure => simp [RowKit.intOf]
          · rw [HCT.out, if_neg (by simpa using hO), if_pos (by simpa using hS)] at HA
            have HA9 : Hid (Calls Try.prog 10 #[.agg #[.slice va3 ps.length vc3, .slice ua3 ss.length uc3], .agg #[.int .i64 e.cl, .int .i64 e.sq, .int .i64 e.op, .string e.k, .string e.v, .string e.o]] W8 _) := HA
            clear HA
            go_upto_region 24 with (fail)
            clear hO hS
            go_upto_region 25 with (first
              | (have hBA := BW8; refine gate_ld 29 (.tmp 6) rfl ?_; clear hBA; refine wpl_load_blk rfl 29 (.tmp 6) rfl (w3.heap.size) rfl BA8.out Try.underlying29 rfl sizeTabN rfl ?_)
              | (go_at_call 10; refine HA9.out.mono ?_; rintro r w8 ⟨va9, vc9, ua9, uc9, X1, X2, rfl, hT, hb⟩; have PT9 : Hid (Ps w8 (.slice va9 ps.length vc9) ps ∧ Ss w8 (.slice ua9 ss.length uc9) ss) := hT; have HB9 : Hid (Below w6.heap.size w6 w8) := HB8.out.trans (hb.mono (by omega)); have hz9 : W8.heap.size ≤ w8.heap.size := hb.size; clear hT hb HA9))
            obtain ⟨W9, hW9⟩ : ∃ W9, W9 = w8.alloc (.cells #[.int .i64 2, .int .i64 X1, .string X2, .slice va9 ps.length vc9, .slice ua9 ss.length uc9] 37) := ⟨_, rfl⟩
            have HB10 : Hid (Below w6.heap.size w6 W9) := by show Below _ _ _; rw [hW9]; exact HB9.out.alloc (by omega) _
            have hb11 : Below w8.heap.size w8 W9 := by rw [hW9]; exact (Below.refl _ _).alloc (Nat.le_refl _) _
            have BC9 : Hid (Blk W9 w8.heap.size #[.int .i64 2, .int .i64 X1, .string X2, .slice va9 ps.length vc9, .slice ua9 ss.length uc9] 37) := by show Blk _ _ _ _; rw [hW9]; exact Blk.new _ _ _
            have BW9 : Hid (Blk W9 w2.heap.size #[.slice va2 ps.length vc2, .slice ua2 ss.length uc2] 29) := BW.out.below HB10.out hz2w
            have PT10 : Hid (Ps W9 (.slice va9 ps.length vc9) ps ∧ Ss W9 (.slice ua9 ss.length uc9) ss) := ⟨PT9.out.1.below hb11, PT9.out.2.below hb11⟩
            have PT11 : Hid (Ps W9 (.slice va2 ps.length vc2) ps ∧ Ss W9 (.slice ua2 ss.length uc2) ss) := ⟨PT2.out.1.below HB10.out, PT2.out.2.below HB10.out⟩
            rw [← hW9]
            have r0 : W9.cell? ⟨w8.heap.size, 0, none⟩ = some (.int .i64 2) := BC9.out.cell 0
            have r3 : W9.cell? ⟨w8.heap.size, 3, none⟩ = some (.slice va9 ps.length vc9) := BC9.out.cell 3
            have r4 : W9.cell? ⟨w8.heap.size, 4, none⟩ = some (.slice ua9 ss.length uc9) := BC9.out.cell 4
            clear hW9 hb11 BC9 q0 q1 q2 q3 q4 q5
            go_wp2_with (first
              | (have hBA := r0; refine gate_ld 29 (.tmp 5) rfl ?_; clear hBA; refine wpl_load_blkG rfl rfl 29 (.tmp 5) rfl (w2.heap.size) rfl BW9.out Try.underlying29 rfl sizeTabN rfl ?_)
              | (go_at_call 9; refine (sameTable_u _ _ _ _ _ _ _ _ ps ss _ PT10.out.1 PT10.out.2 PT11.out.1 PT11.out.2 (by omega) (by omega)).mono ?_; rintro r w10 ⟨rfl, hb⟩; have HB12 : Hid (Below w6.heap.size w6 w10) := HB10.out.trans (hb.mono HB10.out.size); clear hb))
            go_roundw
            case rel => exact ⟨(j : Int) - 1, by omega, by omega, by go_num, HB12.out⟩
            case measure => simp [RowKit.intOf]

end Go.Proofs.Ytelfejhopjbhpaa
