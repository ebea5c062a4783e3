/-
  (*impl.judge).missing.
-/
import Derived.Test.YtnoihfincifphaaLnPlace
namespace Go.Proofs.Ytnoihfincifphaa
open Go.RowKit Go.Maps
set_option linter.unusedVariables false
set_option linter.unusedSimpArgs false

set_option maxHeartbeats 8000000 in
set_option maxRecDepth 100000 in
theorem missing_any (jb bt bp bl bo : Nat) (ea : Option Addr) (ec : Nat) (oa : Option Addr) (on oc : Nat) (es : List Evn) (os : List Cm) (n : Nat) (w : World)
    (h : JB w jb bt bp bl bo (.slice ea es.length ec) (.slice oa on oc)) (hP : PL w bp n os) (hE : Evs w (.slice ea es.length ec) es) (hl : es.length ≤ 4096) :
    Calls Try.prog 42 #[.pointer (some ⟨jb, 0, none⟩)] w fun e w' => e = .returned (.int .i64 (fstOf (q3 es os) es.length)) ∧ Below w.heap.size w w' := by
  have HJB : Hid (Blk w jb #[.slice ea es.length ec, .slice oa on oc, .map (some bt), .map (some bp), .map (some bl), .map (some bo)] 84) := h.blk
  have HE : Hid (Evs w (.slice ea es.length ec) es) := hE
  have HP : Hid (PL w bp n os) := hP
  have j0 : w.cell? ⟨jb, 0, none⟩ = some (.slice ea es.length ec) := h.blk.cell 0
  have hjl := h.blk.lt
  have hlp := hP.lt
  clear h hE hP
  obtain ⟨F, hF⟩ : ∃ F, F = fstOf (q3 es os) es.length := ⟨_, rfl⟩
  have HF : Hid (F = fstOf (q3 es os) es.length) := hF
  rw [← hF]
  clear hF
  go_enter Try.func42, Try.ntmps42
  go_wp2
  go_loopw [12] (fun i wr => ∃ k : Nat, k ≤ es.length ∧ i = .int .i64 k ∧ (∀ j, j < k → q3 es os j = false) ∧ Below w.heap.size w wr) (fun i _ => es.length - (RowKit.intOf i).toNat)
  case atStart => exact ⟨0, Nat.zero_le _, rfl, by simp, Below.refl _ _⟩
  case round =>
    obtain ⟨k, hk, rfl, hA, hBw⟩ := hrel
    have HA : Hid (∀ j, j < k → q3 es os j = false) := hA
    have HBw : Hid (Below w.heap.size w wr) := hBw
    have hzw := hBw.size
    clear hA hBw
    by_cases hlt : k < es.length
    · have hE := HE.out.below HBw.out
      obtain ⟨b, off, rfl, hr⟩ := hE.at_ hlt
      have HR : Hid (wr.rangeAt b (off + k * 9) [.int .i64 es[k].kd, .int .i64 es[k].c.cl, .int .i64 es[k].c.sq, .int .i64 es[k].c.op, .string es[k].c.k, .string es[k].c.v, .string es[k].c.o, .int .i64 es[k].cd, .string es[k].v]) := hr k hlt
      have hfit := HE.out.fits es[k] (List.getElem_mem hlt)
      have HQ : Hid (q3 es os k = (decide (es[k].kd = 2) && !inCs os es[k].c)) := by show _ = _; rw [q3, evAt_eq hlt]
      obtain ⟨⟨kd, c, cd, v⟩, he⟩ : ∃ e, e = es[k] := ⟨_, rfl⟩
      rw [← he] at HR hfit HQ
      clear he hr hE
      dsimp only at HR HQ
      have hcf : c.fits := hfit.c
      clear hfit
      have hkl : (k : Int) < (es.length : Int) := by omega
      obtain ⟨f, hMP, hf⟩ := HP.out
      obtain ⟨y, hy⟩ := pl_elim (f c)
      obtain ⟨ag, hag⟩ : ∃ ag, ag = inCs os c := ⟨_, rfl⟩
      obtain ⟨W, hW⟩ : ∃ W, W = wr.alloc (.cells #[.int .i64 kd, .int .i64 c.cl, .int .i64 c.sq, .int .i64 c.op, .string c.k, .string c.v, .string c.o, .int .i64 cd, .string v] 76) := ⟨_, rfl⟩
      have HB : Hid (Below wr.heap.size wr W) := by show Below _ _ _; rw [hW]; exact (Below.refl _ _).alloc (Nat.le_refl _) _
      have HEB : Hid (Blk W wr.heap.size #[.int .i64 kd, .int .i64 c.cl, .int .i64 c.sq, .int .i64 c.op, .string c.k, .string c.v, .string c.o, .int .i64 cd, .string v] 76) := by show Blk _ _ _ _; rw [hW]; exact Blk.new _ _ _
      have l0 : ∀ q, (Instr.lookup 80 (.map (some bp)) (.agg #[.int .i64 c.cl, .int .i64 c.sq, .int .i64 c.op, .string c.k, .string c.v, .string c.o]) true).run Try.prog (W.drewN q) = .ok (.tuple #[.int .i64 y, .bool ag]) (W.drewN q) := fun q => by
        have := hMP.lookOk lawC Try.underlying80 zeroIn c hcf (W.drewN q) ((HB.out.block bp (by omega)).trans (HBw.out.block bp hlp))
        rw [hy, hf, ← hag] at this
        exact this
      have j3 : W.cell? ⟨jb, 3, none⟩ = some (.map (some bp)) := (HJB.out.keep ((HB.out.block jb (by omega)).trans (HBw.out.block jb hjl))).cell 3
      have e0 : W.cell? ⟨wr.heap.size, 0, none⟩ = some (.int .i64 kd) := HEB.out.cell 0
      have e1 : W.cell? ⟨wr.heap.size, 1, none⟩ = some (.int .i64 c.cl) := HEB.out.cell 1
      have e2 : W.cell? ⟨wr.heap.size, 2, none⟩ = some (.int .i64 c.sq) := HEB.out.cell 2
      have e3 : W.cell? ⟨wr.heap.size, 3, none⟩ = some (.int .i64 c.op) := HEB.out.cell 3
      have e4 : W.cell? ⟨wr.heap.size, 4, none⟩ = some (.string c.k) := HEB.out.cell 4
      have e5 : W.cell? ⟨wr.heap.size, 5, none⟩ = some (.string c.v) := HEB.out.cell 5
      have e6 : W.cell? ⟨wr.heap.size, 6, none⟩ = some (.string c.o) := HEB.out.cell 6
      have e7 : W.cell? ⟨wr.heap.size, 7, none⟩ = some (.int .i64 cd) := HEB.out.cell 7
      have e8 : W.cell? ⟨wr.heap.size, 8, none⟩ = some (.string v) := HEB.out.cell 8
      have HW : Hid (W = wr.alloc (.cells #[.int .i64 kd, .int .i64 c.cl, .int .i64 c.sq, .int .i64 c.op, .string c.k, .string c.v, .string c.o, .int .i64 cd, .string v] 76)) := hW
      have HQ2 : Hid (q3 es os k = (decide (kd = 2) && !ag)) := by show _ = _; rw [HQ.out, hag]
      clear hW hy hf hag hMP HQ HEB
      have g1 : True := trivial
      have g2 : True := trivial
      by_cases h2 : kd = 2
      · subst h2
        cases ag
        · have HFk : Hid (F = k) := by show _ = _; rw [HF.out]; exact fst_hit HA.out hlt (by rw [HQ2.out]; rfl)
          go_upto_region 4 with (first
            | (have hG := g1; refine gate_ld 76 (.tmp 15) rfl ?_; clear hG g1; refine wpList_load_mid rfl 76 (.tmp 15) rfl b (off + k * 9) rfl _ _ HR.out Try.underlying76 rfl infoEv ?_)
            | (have hG := g2; refine gate_st 76 (.tmp 4) (.tmp 16) rfl ?_; clear hG g2; refine wpl_store_last rfl 76 (.tmp 4) (.tmp 16) rfl wr.heap.size rfl rfl rfl infoEv rfl rfl (by simp [Value.oneCell']) ?_))
          rw [← HW.out]
          go_quiet (fail)
          go_wp2
          go_ret
          exact ⟨by rw [HFk.out]; rfl, HBw.out.trans ((below_dN HB.out _).mono hzw)⟩
        · have HN : Hid (∀ j, j < k + 1 → q3 es os j = false) := fun j hj => by
            by_cases e : j = k
            · subst e; rw [HQ2.out]; rfl
            · exact HA.out j (by omega)
          go_upto_region 4 with (first
            | (have hG := g1; refine gate_ld 76 (.tmp 15) rfl ?_; clear hG g1; refine wpList_load_mid rfl 76 (.tmp 15) rfl b (off + k * 9) rfl _ _ HR.out Try.underlying76 rfl infoEv ?_)
            | (have hG := g2; refine gate_st 76 (.tmp 4) (.tmp 16) rfl ?_; clear hG g2; refine wpl_store_last rfl 76 (.tmp 4) (.tmp 16) rfl wr.heap.size rfl rfl rfl infoEv rfl rfl (by simp [Value.oneCell']) ?_))
          rw [← HW.out]
          go_quiet (fail)
          go_wp2
          go_roundw
          case rel => exact ⟨k + 1, by omega, by go_num, HN.out, HBw.out.trans ((below_dN HB.out _).mono hzw)⟩
          case measure => simp [RowKit.intOf]; omega
      · have h2b : (kd == 2) = false := by simpa using h2
        have HN : Hid (∀ j, j < k + 1 → q3 es os j = false) := fun j hj => by
          by_cases e : j = k
          · subst e; rw [HQ2.out]; simp [h2]
          · exact HA.out j (by omega)
        go_upto_region 4 with (first
          | (have hG := g1; refine gate_ld 76 (.tmp 15) rfl ?_; clear hG g1; refine wpList_load_mid rfl 76 (.tmp 15) rfl b (off + k * 9) rfl _ _ HR.out Try.underlying76 rfl infoEv ?_)
          | (have hG := g2; refine gate_st 76 (.tmp 4) (.tmp 16) rfl ?_; clear hG g2; refine wpl_store_last rfl 76 (.tmp 4) (.tmp 16) rfl wr.heap.size rfl rfl rfl infoEv rfl rfl (by simp [Value.oneCell']) ?_))
        rw [← HW.out]
        go_quiet (fail)
        go_wp2
        go_roundw
        case rel => exact ⟨k + 1, by omega, by go_num, HN.out, HBw.out.trans ((below_dN HB.out _).mono hzw)⟩
        case measure => simp [RowKit.intOf]; omega
    · obtain rfl : k = es.length := by omega
      have HFk : Hid (F = -1) := by show _ = _; rw [HF.out]; exact fst_no HA.out
      go_wp2
      go_ret
      exact ⟨by rw [HFk.out]; rfl, HBw.out⟩
end Go.Proofs.Ytnoihfincifphaa
