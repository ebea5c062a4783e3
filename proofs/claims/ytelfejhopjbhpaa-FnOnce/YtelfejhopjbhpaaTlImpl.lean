/-
  impl.ApplyLog.
-/
import Derived.Test.YtelfejhopjbhpaaTlPure
import Derived.Test.YtelfejhopjbhpaaTbTold
import Derived.Test.YtelfejhopjbhpaaTbOf
import Derived.Test.YtelfejhopjbhpaaTbApply
import Derived.Test.YtelfejhopjbhpaaBlk
import Derived.Test.YtelfejhopjbhpaaRegInv
namespace Go.Proofs.Ytelfejhopjbhpaa
open Go.RowKit Go.Maps
set_option linter.unusedVariables false
set_option linter.unusedSimpArgs false

theorem sizeTabI : (Try.prog.info? 29).map (·.size) = some 2 := by kernel_rfl
set_option maxHeartbeats 8000000 in
set_option maxRecDepth 100000 in
theorem implApplyLog_any (a : Option Addr) (cap : Nat) (l : List Ent) (u : Int) (w : World) (hv : Es w (.slice a l.length cap) l) (hcap : l.length ≤ cap) (hl : l.length ≤ 1048576) :
    Calls Try.prog 8 #[.slice a l.length cap, .int .i64 u] w fun e w' => LogT w w' e (logAns l u) := by
  have HV : Hid (Es w (.slice a l.length cap) l) := hv
  have HFT : Hid (∀ e ∈ l, e.fits) := hv.2.1
  clear hv
  by_cases h4 : l.length ≤ 4096
  case neg =>
    rw [show logAns l u = ([], []) by unfold logAns; rw [if_neg (fun h => h4 h.1)]]
    have h4d : (4096 : Int) < (l.length : Int) := by omega
    go_enter Try.func8, Try.ntmps8
    go_wp2
    refine bodyPost_ret (v := .agg #[.slice none 0 0, .slice none 0 0]) (by simp [results, Try.results8, go_sem]) rfl ⟨none, 0, none, 0, rfl, TabO.nil _ _, ?_⟩
    exact (Below.refl _ _).alloc (Nat.le_refl _) _
  have h4d : ¬ (4096 : Int) < (l.length : Int) := by omega
  go_enter Try.func8, Try.ntmps8
  go_wp2
  obtain ⟨W0, hW0⟩ : ∃ W0, W0 = w.alloc (.cells #[.slice none 0 0, .slice none 0 0] 29) := ⟨_, rfl⟩
  have BR0 : Hid (Blk W0 w.heap.size #[.slice none 0 0, .slice none 0 0] 29) := by show Blk _ _ _ _; rw [hW0]; exact Blk.new _ _ _
  have HB0 : Hid (Below w.heap.size w W0) := by show Below _ _ _; rw [hW0]; exact (Below.refl _ _).alloc (Nat.le_refl _) _
  have hz0 : W0.heap.size = w.heap.size + 1 := by rw [hW0]; simp
  rw [← hW0]
  clear hW0
  go_loopw [16] (fun i wr => ∃ k : Nat, k ≤ l.length ∧ i = .int .i64 k ∧ (∀ e ∈ l.take k, entB e = true) ∧ Below W0.heap.size W0 wr) (fun i _ => l.length - (RowKit.intOf i).toNat)
  case atStart => exact ⟨0, Nat.zero_le _, rfl, by simp, Below.refl _ _⟩
  case round =>
    obtain ⟨k, hk, rfl, hA, hB⟩ := hrel
    have HB : Hid (Below W0.heap.size W0 wr) := hB
    have HA : Hid (∀ e ∈ l.take k, entB e = true) := hA
    have hz := hB.size
    clear hA
    by_cases hlt : k < l.length
    · have HBW : Hid (Below w.heap.size w wr) := HB0.out.trans (hB.mono (by omega))
      obtain ⟨b, off, rfl, c0, c1, c2, c3, c4, c5, c6⟩ := (HV.out.below HBW.out).at7 hlt
      have hfk := HFT.out l[k] (List.getElem_mem hlt)
      have HEF : Hid (∀ u, Calls Try.prog 31 #[.agg #[.int .i64 l[k].t, .int .i64 l[k].cl, .int .i64 l[k].sq, .int .i64 l[k].op, .string l[k].k, .string l[k].v, .string l[k].o]] u fun r w' => r = .returned (.bool (entB l[k])) ∧ Below u.heap.size u w') := fun u => entryFits_any l[k] hfk u
      clear hB
      cases he : entB l[k]
      · rw [he] at HEF
        have HL : Hid (logAns l u = ([], [])) := by show _ = _; unfold logAns; rw [if_neg (fun h => by have := h.2 l[k] (List.getElem_mem hlt); rw [he] at this; cases this)]
        clear he
        generalize l[k] = e at *
        go_wp2_with (go_at_call 31; refine (HEF.out _).mono ?_; rintro r w1 ⟨rfl, hb⟩; have HB1 : Hid (Below W0.heap.size W0 w1) := (HB.out.alloc hz _).trans (hb.mono (by simp; omega)); have BR1 : Hid (Blk w1 w.heap.size #[.slice none 0 0, .slice none 0 0] 29) := BR0.out.below HB1.out (by omega); have r0 : w1.cell? ⟨w.heap.size, 0, none⟩ = some (.slice none 0 0) := BR1.out.cell 0; have r1 : w1.cell? ⟨w.heap.size, 1, none⟩ = some (.slice none 0 0) := BR1.out.cell 1; have fr := BR1.out.free; clear hb)
        refine bodyPost_ret (v := .agg #[.slice none 0 0, .slice none 0 0]) (by simp [results, Try.results8, go_sem, *]) rfl (by rw [HL.out]; exact ⟨none, 0, none, 0, rfl, TabO.nil _ _, (((HB0.out.trans (HB1.out.mono (by omega))).setCell (Nat.le_refl _) _).setCell (Nat.le_refl _) _)⟩)
      · rw [he] at HEF
        have HN : Hid (∀ e ∈ l.take (k + 1), entB e = true) := all_take HA.out hlt he
        clear he
        generalize l[k] = e at *
        go_wp2_with (go_at_call 31; refine (HEF.out _).mono ?_; rintro r w1 ⟨rfl, hb⟩; have HB1 : Hid (Below W0.heap.size W0 w1) := (HB.out.alloc hz _).trans (hb.mono (by simp; omega)); clear hb)
        go_roundw
        case rel => exact ⟨k + 1, by omega, by go_num, HN.out, HB1.out⟩
        case measure => simp [RowKit.intOf]; omega
    · obtain rfl : k = l.length := by omega
      have hall := HA.out
      rw [List.take_length] at hall
      have HLA : Hid (logAns l u = runT (l.take (uptoN l.length u))) := by show _ = _; unfold logAns; rw [if_pos ⟨h4, hall⟩]
      have HALL : Hid (∀ e ∈ l, entB e = true) := hall
      clear HA hall hB hlt
      obtain ⟨n, hn⟩ : ∃ n, n = uptoN l.length u := ⟨_, rfl⟩
      rw [← hn] at HLA
      have hnl : n ≤ l.length := by rw [hn]; unfold uptoN; split <;> omega
      have hnc : n ≤ cap := by omega
      have hmx : max (0 : Int) (min u (l.length : Int)) = (n : Int) := by rw [hn]; unfold uptoN; split <;> omega
      clear hn
      have HTO : Hid (Calls Try.prog 32 #[.agg #[.slice none 0 0, .slice none 0 0]] wr fun e w' => e = .returned (.agg #[.map (some (wr.heap.size + 2)), .map (some (wr.heap.size + 3))]) ∧ MP w' (wr.heap.size + 2) [] ∧ MS w' (wr.heap.size + 3) [] ∧ Below wr.heap.size wr w') := tableOf_any _ _ [] [] wr ⟨by simp, _, _, rfl, fun i hi => absurd hi (by simp)⟩ ⟨by simp, _, _, rfl, fun i hi => absurd hi (by simp)⟩ nilP_ok nilS_ok (by simp)
      go_wp2_with (go_at_call 32; refine HTO.out.mono ?_; rintro r w2 ⟨rfl, hm2, hs2, hb2⟩; have HM2 : Hid (MP w2 (wr.heap.size + 2) []) := hm2; have HS2 : Hid (MS w2 (wr.heap.size + 3) []) := hs2; have HB2 : Hid (Below W0.heap.size W0 w2) := HB.out.trans (hb2.mono (by omega)); have hz2 := hm2.lt; have hz3 := hs2.lt; clear hm2 hs2 hb2)
      obtain ⟨M, hM⟩ : ∃ M, M = wr.heap.size := ⟨_, rfl⟩
      rw [← hM] at HM2 HS2 hz2 hz3 ⊢
      have hMz : w.heap.size + 1 ≤ M := by omega
      clear HB HTO hM
      obtain ⟨W2, hW2⟩ : ∃ W2, W2 = w2.alloc (.cells #[.map (some (M + 2)), .map (some (M + 3))] 69) := ⟨_, rfl⟩
      have BT2 : Hid (Blk W2 w2.heap.size #[.map (some (M + 2)), .map (some (M + 3))] 69) := by show Blk _ _ _ _; rw [hW2]; exact Blk.new _ _ _
      have BR2 : Hid (Blk W2 w.heap.size #[.slice none 0 0, .slice none 0 0] 29) := by show Blk _ _ _ _; rw [hW2]; exact (BR0.out.below HB2.out (by omega)).alloc _
      have HM3 : Hid (MP W2 (M + 2) []) := by show MP _ _ _; rw [hW2]; exact HM2.out.alloc _
      have HS3 : Hid (MS W2 (M + 3) []) := by show MS _ _ _; rw [hW2]; exact HS2.out.alloc _
      have HBW2 : Hid (Below w.heap.size w W2) := by show Below _ _ _; rw [hW2]; exact (HB0.out.trans (HB2.out.mono (by omega))).alloc (by omega) _
      have hz4 : W2.heap.size = w2.heap.size + 1 := by rw [hW2]; simp
      rw [← hW2]
      clear hW2 HM2 HS2 HB2 HB0 BR0
      obtain ⟨tb, htb⟩ : ∃ tb, tb = w2.heap.size := ⟨_, rfl⟩
      rw [← htb] at BT2 hz2 hz3 hz4 ⊢
      clear htb
      go_loopw [35] (fun i wr => ∃ k : Nat, k ≤ n ∧ i = .int .i64 k ∧ MP wr (M + 2) (runT (l.take k)).1 ∧ MS wr (M + 3) (runT (l.take k)).2 ∧ Blk wr tb #[.map (some (M + 2)), .map (some (M + 3))] 69 ∧ Blk wr w.heap.size #[.slice none 0 0, .slice none 0 0] 29 ∧ Below w.heap.size w wr) (fun i _ => n - (RowKit.intOf i).toNat)
      case atStart => exact ⟨0, Nat.zero_le _, rfl, HM3.out, HS3.out, BT2.out, BR2.out, HBW2.out⟩
      case round =>
        obtain ⟨k, hk, rfl, hMk, hSk, hBT, hBR, hBw⟩ := hrel
        have HMk : Hid (MP wr (M + 2) (runT (l.take k)).1) := hMk
        have HSk : Hid (MS wr (M + 3) (runT (l.take k)).2) := hSk
        have HBT : Hid (Blk wr tb #[.map (some (M + 2)), .map (some (M + 3))] 69) := hBT
        have HBR : Hid (Blk wr w.heap.size #[.slice none 0 0, .slice none 0 0] 29) := hBR
        have HBw : Hid (Below w.heap.size w wr) := hBw
        have htw := hBT.lt
        have hok := runT_ok (l.take k)
        have t0 : wr.cell? ⟨tb, 0, none⟩ = some (.map (some (M + 2))) := hBT.cell 0
        have t1 : wr.cell? ⟨tb, 1, none⟩ = some (.map (some (M + 3))) := hBT.cell 1
        have ta : ∀ (ob : Obj) (j : Nat), (wr.alloc ob).cell? ⟨tb, j, none⟩ = wr.cell? ⟨tb, j, none⟩ := fun ob j => World.cell?_alloc_lt _ _ _ (by show tb < wr.heap.size; omega)
        clear HM3 HS3 BT2 BR2 HBW2 hMk hSk hBT hBR
        by_cases hlt : k < n
        · have hkl : k < l.length := by omega
          have hlt' : (k : Int) < (n : Int) := by omega
          obtain ⟨b, off, rfl, c0, c1, c2, c3, c4, c5, c6⟩ := (HV.out.below hBw).at7 hkl
          have hc := entB_cmd (HALL.out l[k] (List.getElem_mem hkl))
          have hwf := cmdF_wf hc
          have HST : Hid (runT (l.take (k + 1)) = stepT (runT (l.take k)) l[k]) := by show _ = _; rw [List.take_succ_eq_append_getElem hkl, runT_snoc]
          have HAP : Hid (∀ u', Below wr.heap.size wr u' → Calls Try.prog 33 #[.agg #[.map (some (M + 2)), .map (some (M + 3))], .agg #[.int .i64 l[k].cl, .int .i64 l[k].sq, .int .i64 l[k].op, .string l[k].k, .string l[k].v, .string l[k].o]] u' fun e w' => (∃ y1 y2 y3, e = .returned (.agg #[.int .i64 y1, .int .i64 y2, .string y3])) ∧ MP w' (M + 2) (stepT (runT (l.take k)) l[k]).1 ∧ MS w' (M + 3) (stepT (runT (l.take k)) l[k]).2 ∧ TchT (fun j => j = M + 2 ∨ j = M + 3) u' w') := fun u' hb => (apply_any (M + 2) (M + 3) _ _ _ _ _ _ _ _ u' (HMk.out.below hb) (HSk.out.below hb) (by omega) hok.1 hok.2 hwf.1 hwf.2.1 hwf.2.2.1 hwf.2.2.2).mono fun e w' ⟨h1, h2, h3, h4⟩ => ⟨⟨_, _, _, h1⟩, h2, h3, h4⟩
          rw [← HST.out] at HAP
          clear hBw hok hc hwf HST HMk HSk
          obtain ⟨RN, hRN⟩ : ∃ RN, RN = runT (l.take (k + 1)) := ⟨_, rfl⟩
          rw [← hRN] at HAP
          have HRN : Hid (RN = runT (l.take (k + 1))) := hRN
          clear hRN
          generalize l[k] = e at *
          go_wp2_with (go_at_call 33; refine (HAP.out _ ((Below.refl _ _).alloc (Nat.le_refl _) _)).mono ?_; rintro r w3 ⟨⟨y1, y2, y3, rfl⟩, hm3, hs3, ht3⟩; have HT3 : Hid (TchT (fun j => j = M + 2 ∨ j = M + 3) _ w3) := ht3; have HM3 : Hid (MP w3 (M + 2) RN.1) := hm3; have HS3 : Hid (MS w3 (M + 3) RN.2) := hs3; clear hm3 hs3 ht3)
          go_roundw
          case rel =>
            have hs3 := HT3.out.size
            simp at hs3
            exact ⟨k + 1, by omega, by go_num, by rw [← HRN.out]; exact HM3.out, by rw [← HRN.out]; exact HS3.out, (HBT.out.alloc _).keep (HT3.out.block _ (by simp; omega) (by rintro (e | e) <;> omega)), (HBR.out.alloc _).keep (HT3.out.block _ (by simp; omega) (by rintro (e | e) <;> omega)), HBw.out.trans ⟨HT3.out.os, HT3.out.tape, HT3.out.output, by omega, fun j hj => by rw [HT3.out.block j (by simp; omega) (by rintro (e | e) <;> omega), Below.heap_alloc wr _ j (by omega)]⟩⟩
          case measure => simp [RowKit.intOf]; omega
        · obtain rfl : k = n := by omega
          have HTD : Hid (Calls Try.prog 34 #[.agg #[.map (some (M + 2)), .map (some (M + 3))]] wr fun e w' => ∃ v u, e = .returned (.agg #[v, u]) ∧ OwnPr w' wr.heap.size v (runT (l.take k)).1 ∧ OwnSe w' wr.heap.size u (runT (l.take k)).2 ∧ (∀ j, u.ownBlock = some j → v.ownBlock ≠ some j) ∧ Below wr.heap.size wr w') := told_any _ _ _ _ wr HMk.out HSk.out hok.1 hok.2
          clear hok HMk HSk hBw
          generalize runT (l.take k) = x at *
          obtain ⟨x3, x4⟩ := x
          dsimp only at HTD
          go_wp2_with (go_at_call 34; refine HTD.out.mono ?_; rintro r w6 ⟨v6, u6, rfl, hp6, hs6, hap6, hb6⟩; obtain ⟨va, vc, rfl⟩ := hp6.shape; obtain ⟨ua, uc, rfl⟩ := hs6.shape; have HT6 : Hid (TabO w6 wr.heap.size (.slice va x3.length vc) (.slice ua x4.length uc) x3 x4) := ⟨hp6, hs6, hap6⟩; have hz6 := hb6.size; have BR6 : Hid (Blk w6 w.heap.size #[.slice none 0 0, .slice none 0 0] 29) := HBR.out.below hb6 (by omega); have HB6 : Hid (Below w.heap.size w w6) := HBw.out.trans (hb6.mono (by omega)); have r0 : w6.cell? ⟨w.heap.size, 0, none⟩ = some (.slice none 0 0) := BR6.out.cell 0; have r1 : w6.cell? ⟨w.heap.size, 1, none⟩ = some (.slice none 0 0) := BR6.out.cell 1; have fr := BR6.out.free; clear hp6 hs6 hap6 hb6)
          refine bodyPost_ret (v := .agg #[.slice va x3.length vc, .slice ua x4.length uc]) (by simp [results, Try.results8, go_sem, *]) rfl (by rw [HLA.out]; exact ⟨va, vc, ua, uc, rfl, HT6.out.keep (by omega) fun j h1 _ => (by rw [Below.heap_setCell _ _ _ _ (by simp only []; omega), Below.heap_setCell _ _ _ _ (by simp only []; omega)]), (HB6.out.setCell (Nat.le_refl _) _).setCell (Nat.le_refl _) _⟩)

end Go.Proofs.Ytelfejhopjbhpaa
