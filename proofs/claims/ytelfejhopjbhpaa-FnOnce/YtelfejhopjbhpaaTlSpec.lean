/-
  spec.ApplyLog.
-/
import Derived.Test.YtelfejhopjbhpaaTlPure
import Derived.Test.YtelfejhopjbhpaaTsCmd
import Derived.Test.YtelfejhopjbhpaaBlk
import Derived.Test.YtelfejhopjbhpaaRegInv
import Derived.Deep.RegionLaw
namespace Go.Proofs.Ytelfejhopjbhpaa
open Go.RowKit Go.Maps
set_option linter.unusedVariables false
set_option linter.unusedSimpArgs false

theorem field_tab (x0 x1 : Int) (x2 : ByteArray) (d e : Value) (u : World) : (Instr.field 37 (.agg #[.int .i64 x0, .int .i64 x1, .string x2, d, e]) 3).run Try.prog u = .ok (.agg #[d, e]) u := by kernel_rfl
theorem upto_lt {n k : Nat} {u : Int} (h : k < uptoN n u) : k < n ∧ (k : Int) < u := by
  unfold uptoN at h
  split at h <;> omega
theorem upto_ge {n k : Nat} {u : Int} (h : ¬ k < uptoN n u) (hk : k ≤ uptoN n u) : k = n ∨ (k < n ∧ ¬ (k : Int) < u) := by
  by_cases hu : u < 0
  · rw [uptoN, if_pos hu] at h hk
    omega
  · rw [uptoN, if_neg hu] at h hk
    omega
theorem upto_le (n : Nat) (u : Int) : uptoN n u ≤ n := by unfold uptoN; split <;> omega
set_option maxHeartbeats 8000000 in
set_option maxRecDepth 100000 in
theorem sApplyLog_any (a : Option Addr) (cap : Nat) (l : List Ent) (u : Int) (w : World) (hv : Es w (.slice a l.length cap) l) (hl : l.length ≤ 1048576) :
    Calls Try.prog 7 #[.slice a l.length cap, .int .i64 u] w fun e w' => LogT w w' e (logAns l u) := by
  have HV : Hid (Es w (.slice a l.length cap) l) := hv
  have HFT : Hid (∀ e ∈ l, e.fits) := hv.2.1
  clear hv
  by_cases h4 : l.length ≤ 4096
  case neg =>
    rw [show logAns l u = ([], []) by unfold logAns; rw [if_neg (fun h => h4 h.1)]]
    have h4d : (4096 : Int) < (l.length : Int) := by omega
    go_enter Try.func7, Try.ntmps7
    go_wp2
    refine bodyPost_ret (v := .agg #[.slice none 0 0, .slice none 0 0]) (by simp [results, Try.results7, go_sem]) rfl ⟨none, 0, none, 0, rfl, TabO.nil _ _, ?_⟩
    exact ((Below.refl _ _).alloc (Nat.le_refl _) _).alloc (by simp) _
  have h4d : ¬ (4096 : Int) < (l.length : Int) := by omega
  go_enter Try.func7, Try.ntmps7
  go_wp2
  obtain ⟨W0, hW0⟩ : ∃ W0, W0 = (w.alloc (.cells #[.slice none 0 0, .slice none 0 0] 29)).alloc (.cells #[.slice none 0 0, .slice none 0 0] 29) := ⟨_, rfl⟩
  have BR0 : Hid (Blk W0 w.heap.size #[.slice none 0 0, .slice none 0 0] 29) := by show Blk _ _ _ _; rw [hW0]; exact (Blk.new _ _ _).alloc _
  have BT0 : Hid (Blk W0 (w.heap.size + 1) #[.slice none 0 0, .slice none 0 0] 29) := by show Blk _ _ _ _; rw [hW0]; exact Blk.new' _ _ _ (by simp)
  have HB0 : Hid (Below w.heap.size w W0) := by show Below _ _ _; rw [hW0]; exact ((Below.refl _ _).alloc (Nat.le_refl _) _).alloc (by simp) _
  have hz0 : W0.heap.size = w.heap.size + 2 := by rw [hW0]; simp
  rw [← hW0]
  clear hW0
  go_loopw [6] (fun i wr => ∃ k : Nat, k ≤ l.length ∧ i = .int .i64 k ∧ (∀ e ∈ l.take k, entB e = true) ∧ Below W0.heap.size W0 wr) (fun i _ => l.length - (RowKit.intOf i).toNat)
  case atStart => exact ⟨0, Nat.zero_le _, rfl, by simp, Below.refl _ _⟩
  case round =>
    obtain ⟨k, hk, rfl, hA, hB⟩ := hrel
    have HB : Hid (Below W0.heap.size W0 wr) := hB
    have HA : Hid (∀ e ∈ l.take k, entB e = true) := hA
    have hz := hB.size
    clear hA
    by_cases hlt : k < l.length
    · have HBW : Hid (Below w.heap.size w wr) := HB0.out.trans (hB.mono (by omega))
      obtain ⟨b, off, rfl, c0, c1, c2, c3, c4, c5, c6⟩ := (HV.out.below HBW.out).at7 hlt
      have hfk := HFT.out l[k] (List.getElem_mem hlt)
      have HEF : Hid (∀ u, Calls Try.prog 29 #[.agg #[.int .i64 l[k].t, .int .i64 l[k].cl, .int .i64 l[k].sq, .int .i64 l[k].op, .string l[k].k, .string l[k].v, .string l[k].o]] u fun r w' => r = .returned (.bool (entB l[k])) ∧ Below u.heap.size u w') := fun u => entryOk_any l[k] hfk u
      clear hB
      cases he : entB l[k]
      · rw [he] at HEF
        have HL : Hid (logAns l u = ([], [])) := by show _ = _; unfold logAns; rw [if_neg (fun h => by have := h.2 l[k] (List.getElem_mem hlt); rw [he] at this; cases this)]
        clear he
        generalize l[k] = e at *
        go_wp2_with (go_at_call 29; refine (HEF.out _).mono ?_; rintro r w1 ⟨rfl, hb⟩; have HB1 : Hid (Below W0.heap.size W0 w1) := HB.out.trans (hb.mono (by omega)); have BR1 : Hid (Blk w1 w.heap.size #[.slice none 0 0, .slice none 0 0] 29) := BR0.out.below HB1.out (by omega); have BT1 : Hid (Blk w1 (w.heap.size + 1) #[.slice none 0 0, .slice none 0 0] 29) := BT0.out.below HB1.out (by omega); have r0 : w1.cell? ⟨w.heap.size, 0, none⟩ = some (.slice none 0 0) := BR1.out.cell 0; have r1 : w1.cell? ⟨w.heap.size, 1, none⟩ = some (.slice none 0 0) := BR1.out.cell 1; have t0 : w1.cell? ⟨w.heap.size + 1, 0, none⟩ = some (.slice none 0 0) := BT1.out.cell 0; have t1 : w1.cell? ⟨w.heap.size + 1, 1, none⟩ = some (.slice none 0 0) := BT1.out.cell 1; have fr := BR1.out.free; clear hb)
        refine bodyPost_ret (v := .agg #[.slice none 0 0, .slice none 0 0]) (by simp [results, Try.results7, go_sem, *]) rfl (by rw [HL.out]; exact ⟨none, 0, none, 0, rfl, TabO.nil _ _, (((HB0.out.trans (HB1.out.mono (by omega))).setCell (Nat.le_refl _) _).setCell (Nat.le_refl _) _)⟩)
      · rw [he] at HEF
        have HN : Hid (∀ e ∈ l.take (k + 1), entB e = true) := all_take HA.out hlt he
        clear he
        generalize l[k] = e at *
        go_wp2_with (go_at_call 29; refine (HEF.out _).mono ?_; rintro r w1 ⟨rfl, hb⟩; have HB1 : Hid (Below W0.heap.size W0 w1) := HB.out.trans (hb.mono (by omega)); clear hb)
        go_roundw
        case rel => exact ⟨k + 1, by omega, by go_num, HN.out, HB1.out⟩
        case measure => simp [RowKit.intOf]; omega
    · obtain rfl : k = l.length := by omega
      have hall := HA.out
      rw [List.take_length] at hall
      have HLA : Hid (logAns l u = runT (l.take (uptoN l.length u))) := by show _ = _; unfold logAns; rw [if_pos ⟨h4, hall⟩]
      have HALL : Hid (∀ e ∈ l, entB e = true) := hall
      have BR1 : Hid (Blk wr w.heap.size #[.slice none 0 0, .slice none 0 0] 29) := BR0.out.below hB (by omega)
      have BT1 : Hid (Blk wr (w.heap.size + 1) #[.slice none 0 0, .slice none 0 0] 29) := BT0.out.below hB (by omega)
      have HB1 : Hid (Below w.heap.size w wr) := HB0.out.trans (hB.mono (by omega))
      obtain ⟨W1, hW1⟩ : ∃ W1, W1 = wr := ⟨_, rfl⟩
      rw [← hW1]
      rw [← hW1] at BR1 BT1 HB1 hz
      clear HA hall hB hlt HB hW1 HB0 BR0 BT0
      go_wp2
      go_loopw [7] (fun i wr => ∃ (k : Nat) (va : Option Addr) (vc : Nat) (ua : Option Addr) (uc : Nat), k ≤ uptoN l.length u ∧ i = .int .i64 k ∧ TabO wr (w.heap.size + 2) (.slice va (runT (l.take k)).1.length vc) (.slice ua (runT (l.take k)).2.length uc) (runT (l.take k)).1 (runT (l.take k)).2 ∧ Blk wr (w.heap.size + 1) #[.slice va (runT (l.take k)).1.length vc, .slice ua (runT (l.take k)).2.length uc] 29 ∧ Blk wr w.heap.size #[.slice none 0 0, .slice none 0 0] 29 ∧ Below w.heap.size w wr ∧ w.heap.size + 2 ≤ wr.heap.size) (fun i _ => l.length - (RowKit.intOf i).toNat)
      case atStart => exact ⟨0, none, 0, none, 0, Nat.zero_le _, rfl, TabO.nil _ _, BT1.out, BR1.out, HB1.out, by omega⟩
      case round =>
        obtain ⟨k, va, vc, ua, uc, hk, rfl, hT, hBT, hBR, hBw, hz9⟩ := hrel
        have HT : Hid (TabO wr (w.heap.size + 2) (.slice va (runT (l.take k)).1.length vc) (.slice ua (runT (l.take k)).2.length uc) (runT (l.take k)).1 (runT (l.take k)).2) := hT
        have HBT : Hid (Blk wr (w.heap.size + 1) #[.slice va (runT (l.take k)).1.length vc, .slice ua (runT (l.take k)).2.length uc] 29) := hBT
        have HBR : Hid (Blk wr w.heap.size #[.slice none 0 0, .slice none 0 0] 29) := hBR
        have HBw : Hid (Below w.heap.size w wr) := hBw
        have hok := runT_ok (l.take k)
        have hle := upto_le l.length u
        clear BR1 BT1 HB1 hT hBT hBR hz
        by_cases hlt : k < uptoN l.length u
        · obtain ⟨hkl, hku⟩ := upto_lt hlt
          have hkl' : (k : Int) < (l.length : Int) := by omega
          obtain ⟨b, off, rfl, c0, c1, c2, c3, c4, c5, c6⟩ := (HV.out.below hBw).at7 hkl
          have hc := entB_cmd (HALL.out l[k] (List.getElem_mem hkl))
          have hbl := cell_lt c0
          have hbw : b < w.heap.size := by
            obtain ⟨b', off', e', h0', _⟩ := HV.out.at7 hkl
            injection e' with e'
            injection e' with e1 _ _
            rw [e1]
            exact cell_lt h0'
          have hnb : ¬ b = w.heap.size + 1 := by omega
          have hnb' : ¬ w.heap.size + 1 = b := by omega
          have HST : Hid (runT (l.take (k + 1)) = stepT (runT (l.take k)) l[k]) := by show _ = _; rw [List.take_succ_eq_append_getElem hkl, runT_snoc]
          have HAP : Hid (∀ u', Below wr.heap.size wr u' → Calls Try.prog 30 #[.agg #[.slice va (runT (l.take k)).1.length vc, .slice ua (runT (l.take k)).2.length uc], .agg #[.int .i64 l[k].cl, .int .i64 l[k].sq, .int .i64 l[k].op, .string l[k].k, .string l[k].v, .string l[k].o]] u' fun e w' => AnsT u' w' e (applyC (runT (l.take k)).1 (runT (l.take k)).2 l[k].cl l[k].sq l[k].op l[k].k l[k].v l[k].o)) := fun u' hb => l5apply_any _ _ _ _ _ _ _ _ _ _ u' ((HT.out.prs.sl prLaw (by have := hok.1.len; unfold maxLen; omega)).below hb) ((HT.out.ses.sl seLaw (by have := hok.2.len; unfold maxLen; omega)).below hb) hok.1 hok.2 (by have := hok.2.len; omega) (cmdF_ok hc).1 (cmdF_ok hc).2
          rw [stepT, applyI, if_pos hc] at HST
          clear hBw hok hc
          generalize applyC (runT (l.take k)).1 (runT (l.take k)).2 l[k].cl l[k].sq l[k].op l[k].k l[k].v l[k].o = x at *
          obtain ⟨X0, X1, X2, x3, x4⟩ := x
          unfold AnsT at HAP
          dsimp only at HAP HST
          generalize (runT (l.take k)).1.length = pn at *
          generalize (runT (l.take k)).2.length = sn at *
          generalize l[k] = e at *
          have hfd := field_tab
          have t0 : wr.cell? ⟨w.heap.size + 1, 0, none⟩ = some (.slice va pn vc) := HBT.out.cell 0
          have t1 : wr.cell? ⟨w.heap.size + 1, 1, none⟩ = some (.slice ua sn uc) := HBT.out.cell 1
          go_wp2
          go_region_law
            (first | (refine stp_callT (N := 30) rfl rfl (fun _ _ => by go_simp) #[.agg #[.slice va pn vc, .slice ua sn uc], .agg #[.int .i64 e.cl, .int .i64 e.sq, .int .i64 e.op, .string e.k, .string e.v, .string e.o]] (by first | rfl | simp [Act.eval]) ?_; refine (HAP.out _ (Below.refl _ _).drew).mono ?_; rintro r w2 ⟨va2, vc2, ua2, uc2, rfl, hT2, hb2⟩; refine ⟨_, rfl, ?_⟩; have hz2 : wr.heap.size ≤ w2.heap.size := (by have := hb2.size; simpa using this); have HT2 : Hid (TabO w2 wr.heap.size (.slice va2 x3.length vc2) (.slice ua2 x4.length uc2) x3 x4) := hT2; have HB2 : Hid (Below wr.heap.size wr w2) := (Below.refl _ _).drew.trans hb2; have BT2 : Hid (Blk w2 (w.heap.size + 1) #[.slice va pn vc, .slice ua sn uc] 29) := HBT.out.below HB2.out (by omega); have BR2 : Hid (Blk w2 w.heap.size #[.slice none 0 0, .slice none 0 0] 29) := HBR.out.below HB2.out (by omega); have y0 : w2.cell? ⟨w.heap.size + 1, 0, none⟩ = some (.slice va pn vc) := BT2.out.cell 0; have y1 : w2.cell? ⟨w.heap.size + 1, 1, none⟩ = some (.slice ua sn uc) := BT2.out.cell 1; have fy := BT2.out.free; have le1 : w2.cell? ⟨b, off + k * 7 + 1, none⟩ = some (.int .i64 e.cl) := (HB2.out.cell (p := ⟨b, off + k * 7 + 1, none⟩) hbl).trans c1; have le2 : w2.cell? ⟨b, off + k * 7 + 2, none⟩ = some (.int .i64 e.sq) := (HB2.out.cell (p := ⟨b, off + k * 7 + 2, none⟩) hbl).trans c2; have le3 : w2.cell? ⟨b, off + k * 7 + 3, none⟩ = some (.int .i64 e.op) := (HB2.out.cell (p := ⟨b, off + k * 7 + 3, none⟩) hbl).trans c3; have le4 : w2.cell? ⟨b, off + k * 7 + 4, none⟩ = some (.string e.k) := (HB2.out.cell (p := ⟨b, off + k * 7 + 4, none⟩) hbl).trans c4; have le5 : w2.cell? ⟨b, off + k * 7 + 5, none⟩ = some (.string e.v) := (HB2.out.cell (p := ⟨b, off + k * 7 + 5, none⟩) hbl).trans c5; have le6 : w2.cell? ⟨b, off + k * 7 + 6, none⟩ = some (.string e.o) := (HB2.out.cell (p := ⟨b, off + k * 7 + 6, none⟩) hbl).trans c6;  clear hT2 hb2))
          all_goals go_wp2
          all_goals go_roundw
          all_goals try (case rel => exact ⟨k + 1, va2, vc2, ua2, uc2, by omega, by go_num, (by rw [HST.out]; exact HT2.out.keep (by omega) fun j h1 _ => (by rw [Below.heap_setCell _ _ _ _ (by simp only []; omega), Below.heap_setCell _ _ _ _ (by simp only []; omega)])), (by rw [HST.out]; simpa using (BT2.out.set 0 (.slice va2 x3.length vc2)).set 1 (.slice ua2 x4.length uc2)), (BR2.out.set_other _ (by simp)).set_other _ (by simp), (((HBw.out.trans (HB2.out.mono (by omega))).setCell (by show w.heap.size ≤ w.heap.size + 1; omega) _).setCell (by show w.heap.size ≤ w.heap.size + 1; omega) _), by simp [World.setCell]; omega⟩)
          all_goals try (case measure => simp [RowKit.intOf]; omega)
        · have hex := upto_ge hlt hk
          obtain rfl : k = uptoN l.length u := by omega
          generalize uptoN l.length u = n at *
          generalize runT (l.take n) = x at *
          obtain ⟨x3, x4⟩ := x
          dsimp only at HT HBT hok
          have t0 : wr.cell? ⟨w.heap.size + 1, 0, none⟩ = some (.slice va x3.length vc) := HBT.out.cell 0
          have t1 : wr.cell? ⟨w.heap.size + 1, 1, none⟩ = some (.slice ua x4.length uc) := HBT.out.cell 1
          have r0 : wr.cell? ⟨w.heap.size, 0, none⟩ = some (.slice none 0 0) := HBR.out.cell 0
          have r1 : wr.cell? ⟨w.heap.size, 1, none⟩ = some (.slice none 0 0) := HBR.out.cell 1
          have fr := HBR.out.free
          clear hlt hBw hok
          rcases hex with rfl | ⟨hkl, hku⟩
          · go_wp2
            refine bodyPost_ret (v := .agg #[.slice va x3.length vc, .slice ua x4.length uc]) (by simp [results, Try.results7, go_sem, *]) rfl (by rw [HLA.out]; exact ⟨va, vc, ua, uc, rfl, HT.out.keep (by omega) fun j h1 _ => (by rw [Below.heap_setCell _ _ _ _ (by simp only []; omega), Below.heap_setCell _ _ _ _ (by simp only []; omega)]), (HBw.out.setCell (Nat.le_refl _) _).setCell (Nat.le_refl _) _⟩)
          · have hkl' : (n : Int) < (l.length : Int) := by omega
            go_wp2
            refine bodyPost_ret (v := .agg #[.slice va x3.length vc, .slice ua x4.length uc]) (by simp [results, Try.results7, go_sem, *]) rfl (by rw [HLA.out]; exact ⟨va, vc, ua, uc, rfl, HT.out.keep (by omega) fun j h1 _ => (by rw [Below.heap_setCell _ _ _ _ (by simp only []; omega), Below.heap_setCell _ _ _ _ (by simp only []; omega)]), (HBw.out.setCell (Nat.le_refl _) _).setCell (Nat.le_refl _) _⟩)

end Go.Proofs.Ytelfejhopjbhpaa
