/-
  spec.l7turns.
-/
import Derived.Test.YtnoihfincifphaaLnTurn
import Derived.Test.YtnoihfincifphaaLnFind
import Derived.Test.YtnoihfincifphaaL1in
import Derived.Laws.MakeOwn
namespace Go.Proofs.Ytnoihfincifphaa
open Go.RowKit Go.Maps
set_option linter.unusedVariables false
set_option linter.unusedSimpArgs false

/-- the numbers and the open commands of the clients, in two rows of one's own -/
structure SO (w : World) (lb ob : Nat) (s : TSt) : Prop where
  la : ∀ x : Nat, x < 9 → w.cell? ⟨lb, x, none⟩ = some (.int .i64 (s.la x))
  lt : w.there lb 0 9
  op : ∀ x : Nat, x < 9 → w.rangeAt ob (x * 6) (cmC ((s.op x).getD cm0))
  ot : w.there ob 0 54
  ne : lb ≠ ob
theorem SO.llt {w : World} {lb ob : Nat} {s : TSt} (h : SO w lb ob s) : lb < w.heap.size := cell_lt (h.la 0 (by omega))
theorem SO.olt {w : World} {lb ob : Nat} {s : TSt} (h : SO w lb ob s) : ob < w.heap.size := cell_lt (h.op 0 (by omega) 0 _ rfl)
theorem SO.below {w w' : World} {lb ob : Nat} {s : TSt} (h : SO w lb ob s) (hb : Below w.heap.size w w') : SO w' lb ob s :=
  ⟨fun x hx => (hb.cell (p := ⟨lb, x, none⟩) h.llt).trans (h.la x hx), there_below h.lt hb h.llt, fun x hx => range_below (h.op x hx) hb, there_below h.ot hb h.olt, h.ne⟩
theorem SO.setLa {w : World} {lb ob : Nat} {s : TSt} (h : SO w lb ob s) {x : Nat} (hx : x < 9) (y : Int) : SO (w.setCell ⟨lb, x, none⟩ (.int .i64 y)) lb ob ⟨s.op, setI s.la x y⟩ := by
  refine ⟨fun z hz => ?_, there_set' h.lt _ _ _, fun z hz => ?_, there_set' h.ot _ _ _, h.ne⟩
  · by_cases e : z = x
    · subst e
      rw [World.cell?_setCell_same w ⟨lb, z, none⟩ _ (h.la z hz)]
      simp [setI]
    · rw [World.cell?_setCell_other w ⟨lb, x, none⟩ ⟨lb, z, none⟩ _ (by intro h; injection h with h1 h2; omega), h.la z hz]
      have : ¬ (z : Int) = (x : Int) := by omega
      simp [setI, this]
  · have := World.rangeAt_setCells_apart (h.op z hz) lb x [.int .i64 y] (.inl h.ne.symm)
    simpa [World.setCells] using this
theorem SO.setOp {w : World} {lb ob : Nat} {s : TSt} (h : SO w lb ob s) {x : Nat} (hx : x < 9) (o : Option Cm) : SO (w.setCells ob (x * 6) (cmC (o.getD cm0))) lb ob ⟨setI s.op x o, s.la⟩ := by
  refine ⟨fun z hz => ?_, World.there_setCells h.lt _ _ _, fun z hz => ?_, World.there_setCells h.ot _ _ _, h.ne⟩
  · have := World.rangeAt_setCells_apart (w := w) (b' := lb) (o' := z) (cs := [.int .i64 (s.la z)]) (fun j v hv => by
      cases j with
      | zero => simp at hv; subst hv; exact h.la z hz
      | succ j => simp at hv) ob (x * 6) (cmC (o.getD cm0)) (.inl h.ne)
    exact this 0 _ rfl
  · by_cases e : z = x
    · subst e
      have hs : setI s.op (z : Int) o z = o := setI_same _ _ _
      show World.rangeAt _ _ _ (cmC ((setI s.op (z : Int) o z).getD cm0))
      rw [hs]
      exact World.rangeAt_setCells_same _ _ _ _ (there_sub h.ot _ _ (by show z * 6 + 6 ≤ 54; omega))
    · have hs : setI s.op (x : Int) o z = s.op z := setI_other _ _ (by omega)
      show World.rangeAt _ _ _ (cmC ((setI s.op (x : Int) o z).getD cm0))
      rw [hs]
      refine World.rangeAt_setCells_apart (h.op z hz) _ _ _ (.inr ?_)
      show z * 6 + 6 ≤ x * 6 ∨ x * 6 + 6 ≤ z * 6
      omega
theorem infoEvS : (Try.prog.info? 76).map (·.size) = some 9 := by kernel_rfl
theorem infoCmS : (Try.prog.info? 63).map (fun i => (i.zero, i.size, i.bytes)) = some (some (.agg #[.int .i64 0, .int .i64 0, .int .i64 0, .string ⟨#[]⟩, .string ⟨#[]⟩, .string ⟨#[]⟩]), 6, 72) := by kernel_rfl
theorem infoCm6 : (Try.prog.info? 63).map (·.size) = some 6 := by kernel_rfl
theorem cmF_cmd {c : Cm} (h : cmdF c.cl c.sq c.op c.k.size c.v.size c.o.size = 0) (ho : c.op ≠ 0) : cmF c = 0 := by
  unfold cmF callF
  rw [if_neg (fun x => ho x.2)]; exact h
theorem cmF_bad {c : Cm} (h : cmdF c.cl c.sq c.op c.k.size c.v.size c.o.size ≠ 0 ∨ c.op = 0) : cmF c ≠ 0 := by
  unfold cmF callF
  split
  · omega
  · rename_i hn
    rcases h with h | h
    · exact h
    · exact fun e => hn ⟨e, h⟩
theorem op_pos {es : List Evn} {k : Nat} (hk : k ≤ es.length) (h : ∀ j, j < k → q1 es j = false) (x : Int) (d : Cm) (hd : (tRun (es.take k)).op x = some d) : d.op ≠ 0 := by
  have hI := tinv_take k hk h
  obtain ⟨_, b2, _⟩ := hI.b _ _ hd
  have := (cmF_ok (hI.f _ b2)).2.2
  omega
theorem made_rows (w : World) (x : Nat) (hx : x < 9) : (w.alloc (.cells (madeCells #[.int .i64 0, .int .i64 0, .int .i64 0, .string ⟨#[]⟩, .string ⟨#[]⟩, .string ⟨#[]⟩] 54) 63)).rangeAt w.heap.size (x * 6) (cmC cm0) := by
  intro j v hv
  have hj : j < 6 := (List.getElem?_eq_some_iff.1 hv).1
  rw [World.cell?_alloc_new]
  have e : (x * 6 + j) % 6 = j := by omega
  have hlt : x * 6 + j < 54 := by omega
  rw [← hv]
  simp only [madeCells, Array.getElem?_map]
  rw [show (Array.range 54)[x * 6 + j]? = some (x * 6 + j) by simp [hlt]]
  simp only [Option.map_some, List.size_toArray, List.length_cons, List.length_nil, e]
  rcases (show j = 0 ∨ j = 1 ∨ j = 2 ∨ j = 3 ∨ j = 4 ∨ j = 5 by omega) with rfl | rfl | rfl | rfl | rfl | rfl <;> rfl

set_option maxHeartbeats 16000000 in
set_option maxRecDepth 100000 in
theorem turns_any (ea : Option Addr) (ec : Nat) (es : List Evn) (w : World) (hE : Evs w (.slice ea es.length ec) es) (hl : es.length ≤ 4096) :
    Calls Try.prog 34 #[.slice ea es.length ec] w fun e w' => e = .returned (.int .i64 (fstOf (q1 es) es.length)) ∧ Below w.heap.size w w' := by
  have HE : Hid (Evs w (.slice ea es.length ec) es) := hE
  obtain ⟨F, hF⟩ : ∃ F, F = fstOf (q1 es) es.length := ⟨_, rfl⟩
  have HF : Hid (F = fstOf (q1 es) es.length) := hF
  rw [← hF]
  clear hF hE
  obtain ⟨i0, hi, hz0, hz1, hz2⟩ := info_parts infoCmS
  have hmk : ∀ u : World, (Instr.makeSlice 31 (.int .i64 9) (.int .i64 9)).run Try.prog u =
      .ok (.slice (some ⟨u.heap.size, 0, none⟩) 9 9) (u.alloc (.cells (madeCells #[.int .i64 0, .int .i64 0, .int .i64 0, .string ⟨#[]⟩, .string ⟨#[]⟩, .string ⟨#[]⟩] 54) 63)) := fun u => by
    have h := run_make (P := Try.prog) u 31 63 i0 _ Try.underlying31 hi hz0 .i64 .i64 9 9 (by omega) (Int.le_refl _) (by rw [hz2]; omega) (by omega)
    simpa [hz1, Value.cells] using h
  obtain ⟨W, hW⟩ : ∃ W, W = (w.alloc (.cells #[.int .i64 0, .int .i64 0, .int .i64 0, .int .i64 0, .int .i64 0, .int .i64 0, .int .i64 0, .int .i64 0, .int .i64 0] 3)).alloc (.cells (madeCells #[.int .i64 0, .int .i64 0, .int .i64 0, .string ⟨#[]⟩, .string ⟨#[]⟩, .string ⟨#[]⟩] 54) 63) := ⟨_, rfl⟩
  have HB : Hid (Below w.heap.size w W) := by show Below _ _ _; rw [hW]; exact ((Below.refl _ _).alloc (Nat.le_refl _) _).alloc (by simp) _
  have HS : Hid (SO W w.heap.size (w.heap.size + 1) (tRun [])) := by
    show SO _ _ _ _
    rw [hW]
    refine ⟨fun x hx => ?_, ?_, fun x hx => ?_, ?_, by omega⟩
    · rw [World.cell?_alloc_lt _ _ _ (by show w.heap.size < (w.alloc _).heap.size; simp), World.cell?_alloc_new]
      rcases (show x = 0 ∨ x = 1 ∨ x = 2 ∨ x = 3 ∨ x = 4 ∨ x = 5 ∨ x = 6 ∨ x = 7 ∨ x = 8 by omega) with rfl | rfl | rfl | rfl | rfl | rfl | rfl | rfl | rfl <;> rfl
    · exact there_below (there_new' w _ _) ((Below.refl _ _).alloc (Nat.le_refl _) _) (by simp)
    · have := made_rows (w.alloc (.cells #[.int .i64 0, .int .i64 0, .int .i64 0, .int .i64 0, .int .i64 0, .int .i64 0, .int .i64 0, .int .i64 0, .int .i64 0] 3)) x hx
      simpa [tRun] using this
    · have h := there_new' (w.alloc (.cells #[.int .i64 0, .int .i64 0, .int .i64 0, .int .i64 0, .int .i64 0, .int .i64 0, .int .i64 0, .int .i64 0, .int .i64 0] 3)) (madeCells #[.int .i64 0, .int .i64 0, .int .i64 0, .string ⟨#[]⟩, .string ⟨#[]⟩, .string ⟨#[]⟩] 54) 63
      rw [size_madeCells] at h
      simpa using h
  go_enter Try.func34, Try.ntmps34
  go_upto_region 3 with fail
  rw [← hW]
  clear hW hmk hi hz0 hz1 hz2
  clear i0
  have hzW : W.heap.size = w.heap.size + 2 ∨ True := .inr trivial
  go_wp2
  go_loopw [5] (fun i wr => ∃ k : Nat, k ≤ es.length ∧ i = .int .i64 k ∧ (∀ j, j < k → q1 es j = false) ∧ SO wr w.heap.size (w.heap.size + 1) (tRun (es.take k)) ∧ Below w.heap.size w wr) (fun i _ => es.length - (RowKit.intOf i).toNat)
  case atStart => exact ⟨0, Nat.zero_le _, rfl, by simp, HS.out, HB.out⟩
  case round =>
    obtain ⟨k, hk, rfl, hA, hS, hBw⟩ := hrel
    have HA : Hid (∀ j, j < k → q1 es j = false) := hA
    have HSk : Hid (SO wr w.heap.size (w.heap.size + 1) (tRun (es.take k))) := hS
    have HBw : Hid (Below w.heap.size w wr) := hBw
    have hzw : w.heap.size + 1 < wr.heap.size := hS.olt
    clear hA hS hBw
    by_cases hlt : k < es.length
    · obtain ⟨b, off, rfl, hr⟩ := (HE.out.below HBw.out).at_ hlt
      have HR : Hid (wr.rangeAt b (off + k * 9) [.int .i64 es[k].kd, .int .i64 es[k].c.cl, .int .i64 es[k].c.sq, .int .i64 es[k].c.op, .string es[k].c.k, .string es[k].c.v, .string es[k].c.o, .int .i64 es[k].cd, .string es[k].v]) := hr k hlt
      have hfit := HE.out.fits es[k] (List.getElem_mem hlt)
      have hla := la_ok k hk HA.out es[k].c.cl
      have HOP : Hid (∀ d, (tRun (es.take k)).op es[k].c.cl = some d → d.op ≠ 0) := fun d hd => op_pos hk HA.out _ d hd
      have HQ : Hid (q1 es k = !(decide (cmF es[k].c = 0) && tkQ (tRun (es.take k)) es[k])) := by show _ = _; rw [q1, evAt_eq hlt, tOk_eq]
      have HST : Hid (tRun (es.take (k + 1)) = tStep (tRun (es.take k)) es[k]) := by show _ = _; rw [List.take_succ_eq_append_getElem hlt]; exact tRun_snoc _ _
      obtain ⟨⟨kd, ⟨cl, sq, op, ck, cv, co⟩, cd, v⟩, he⟩ : ∃ e, e = es[k] := ⟨_, rfl⟩
      rw [← he] at HR hfit hla HOP HQ HST
      clear he hr
      obtain ⟨s, hs⟩ : ∃ s, s = tRun (es.take k) := ⟨_, rfl⟩
      rw [← hs] at hla HOP HQ HST HSk
      clear hs
      dsimp only at HR hla HOP HQ
      have hck : ck.size ≤ 1048576 := hfit.c.k
      have hcv : cv.size ≤ 1048576 := hfit.c.v
      have hco : co.size ≤ 1048576 := hfit.c.o
      have hvf : v.size ≤ 1048576 := hfit.v
      clear hfit
      have HCF : Hid (∀ u, Calls Try.prog 65 #[.agg #[.int .i64 cl, .int .i64 sq, .int .i64 op, .string ck, .string cv, .string co]] u fun e w' => e = .returned (.int .i64 (cmdF cl sq op ck.size cv.size co.size)) ∧ Below u.heap.size u w') := fun u => specCmdFault_any cl sq op ck cv co (by unfold maxLen; omega) (by unfold maxLen; omega) (by unfold maxLen; omega) u
      have hkl : (k : Int) < (es.length : Int) := by omega
      have g1 : True := trivial
      have g2 : True := trivial
      by_cases hcm : cmdF cl sq op ck.size cv.size co.size = 0
      case neg =>
        have HFk : Hid (F = k) := by show _ = _; rw [HF.out]; exact fst_hit HA.out hlt (by rw [HQ.out]; have := cmF_bad (c := ⟨cl, sq, op, ck, cv, co⟩) (.inl hcm); simp [this])
        have hcn : (cmdF cl sq op ck.size cv.size co.size != 0) = true := by simpa using hcm
        obtain ⟨Y, hY⟩ : ∃ Y, Y = cmdF cl sq op ck.size cv.size co.size := ⟨_, rfl⟩
        rw [← hY] at HCF hcn
        clear hY hcm
        go_wp2_with (first
          | (have hG := g1; refine gate_ld 76 (.tmp 18) rfl ?_; clear hG g1; refine wpList_load_mid rfl 76 (.tmp 18) rfl b (off + k * 9) rfl _ _ HR.out Try.underlying76 rfl infoEvS ?_)
          | (have hG := g2; refine gate_st 76 (.tmp 6) (.tmp 19) rfl ?_; clear hG g2; refine wpl_store_last rfl 76 (.tmp 6) (.tmp 19) rfl wr.heap.size rfl rfl rfl infoEvS rfl rfl (by simp [Value.oneCell']) ?_)
          | (go_at_call 65; refine (HCF.out _).mono ?_; rintro e w1 ⟨rfl, hb⟩; have HB1 : Hid (Below wr.heap.size wr w1) := ((Below.refl _ _).alloc (Nat.le_refl _) _).trans (hb.mono (by simp)); have BE : Hid (Blk w1 wr.heap.size #[.int .i64 kd, .int .i64 cl, .int .i64 sq, .int .i64 op, .string ck, .string cv, .string co, .int .i64 cd, .string v] 76) := (Blk.new wr _ _).below hb (by simp); clear hb; have e0 : w1.cell? ⟨wr.heap.size, 0, none⟩ = some (.int .i64 kd) := BE.out.cell 0; have e1 : w1.cell? ⟨wr.heap.size, 1, none⟩ = some (.int .i64 cl) := BE.out.cell 1; have e2 : w1.cell? ⟨wr.heap.size, 2, none⟩ = some (.int .i64 sq) := BE.out.cell 2; have e3 : w1.cell? ⟨wr.heap.size, 3, none⟩ = some (.int .i64 op) := BE.out.cell 3; have e4 : w1.cell? ⟨wr.heap.size, 4, none⟩ = some (.string ck) := BE.out.cell 4; have e5 : w1.cell? ⟨wr.heap.size, 5, none⟩ = some (.string cv) := BE.out.cell 5; have e6 : w1.cell? ⟨wr.heap.size, 6, none⟩ = some (.string co) := BE.out.cell 6; have e7 : w1.cell? ⟨wr.heap.size, 7, none⟩ = some (.int .i64 cd) := BE.out.cell 7; have e8 : w1.cell? ⟨wr.heap.size, 8, none⟩ = some (.string v) := BE.out.cell 8))
        go_ret
        exact ⟨by rw [HFk.out]; rfl, HBw.out.trans (HB1.out.mono (by omega))⟩
      case pos =>
        rw [hcm] at HCF
        by_cases hop : op = 0
        · have HFk : Hid (F = k) := by show _ = _; rw [HF.out]; exact fst_hit HA.out hlt (by rw [HQ.out]; have := cmF_bad (c := ⟨cl, sq, op, ck, cv, co⟩) (.inr hop); simp [this])
          subst hop
          clear hcm
          go_wp2_with (first
            | (have hG := g1; refine gate_ld 76 (.tmp 18) rfl ?_; clear hG g1; refine wpList_load_mid rfl 76 (.tmp 18) rfl b (off + k * 9) rfl _ _ HR.out Try.underlying76 rfl infoEvS ?_)
            | (have hG := g2; refine gate_st 76 (.tmp 6) (.tmp 19) rfl ?_; clear hG g2; refine wpl_store_last rfl 76 (.tmp 6) (.tmp 19) rfl wr.heap.size rfl rfl rfl infoEvS rfl rfl (by simp [Value.oneCell']) ?_)
            | (go_at_call 65; refine (HCF.out _).mono ?_; rintro e w1 ⟨rfl, hb⟩; have HB1 : Hid (Below wr.heap.size wr w1) := ((Below.refl _ _).alloc (Nat.le_refl _) _).trans (hb.mono (by simp)); have BE : Hid (Blk w1 wr.heap.size #[.int .i64 kd, .int .i64 cl, .int .i64 sq, .int .i64 0, .string ck, .string cv, .string co, .int .i64 cd, .string v] 76) := (Blk.new wr _ _).below hb (by simp); clear hb; have e0 : w1.cell? ⟨wr.heap.size, 0, none⟩ = some (.int .i64 kd) := BE.out.cell 0; have e1 : w1.cell? ⟨wr.heap.size, 1, none⟩ = some (.int .i64 cl) := BE.out.cell 1; have e2 : w1.cell? ⟨wr.heap.size, 2, none⟩ = some (.int .i64 sq) := BE.out.cell 2; have e3 : w1.cell? ⟨wr.heap.size, 3, none⟩ = some (.int .i64 0) := BE.out.cell 3; have e4 : w1.cell? ⟨wr.heap.size, 4, none⟩ = some (.string ck) := BE.out.cell 4; have e5 : w1.cell? ⟨wr.heap.size, 5, none⟩ = some (.string cv) := BE.out.cell 5; have e6 : w1.cell? ⟨wr.heap.size, 6, none⟩ = some (.string co) := BE.out.cell 6; have e7 : w1.cell? ⟨wr.heap.size, 7, none⟩ = some (.int .i64 cd) := BE.out.cell 7; have e8 : w1.cell? ⟨wr.heap.size, 8, none⟩ = some (.string v) := BE.out.cell 8))
          go_ret
          exact ⟨by rw [HFk.out]; rfl, HBw.out.trans (HB1.out.mono (by omega))⟩
        · have hcf : cmF ⟨cl, sq, op, ck, cv, co⟩ = 0 := cmF_cmd hcm hop
          have hopb : (op == 0) = false := by simpa using hop
          have hcl := (cmF_ok hcf).1
          have HQ2 : Hid (q1 es k = !tkQ s ⟨kd, ⟨cl, sq, op, ck, cv, co⟩, cd, v⟩) := by show _ = _; rw [HQ.out, hcf]; simp
          clear HQ hcf hcm
          dsimp only at hcl
          obtain ⟨x, hx⟩ : ∃ x : Nat, cl = (x : Int) := ⟨cl.toNat, by omega⟩
          subst hx
          have hx9 : x < 9 := by omega
          have hx9i : (x : Int) < 9 := by omega
          go_upto_region 10 with (first
            | (have hG := g1; refine gate_ld 76 (.tmp 18) rfl ?_; clear hG g1; refine wpList_load_mid rfl 76 (.tmp 18) rfl b (off + k * 9) rfl _ _ HR.out Try.underlying76 rfl infoEvS ?_)
            | (have hG := g2; refine gate_st 76 (.tmp 6) (.tmp 19) rfl ?_; clear hG g2; refine wpl_store_last rfl 76 (.tmp 6) (.tmp 19) rfl wr.heap.size rfl rfl rfl infoEvS rfl rfl (by simp [Value.oneCell']) ?_)
            | (go_at_call 65; refine (HCF.out _).mono ?_; rintro e w1 ⟨rfl, hb⟩; have HB1 : Hid (Below wr.heap.size wr w1) := ((Below.refl _ _).alloc (Nat.le_refl _) _).trans (hb.mono (by simp)); have BE : Hid (Blk w1 wr.heap.size #[.int .i64 kd, .int .i64 (x : Int), .int .i64 sq, .int .i64 op, .string ck, .string cv, .string co, .int .i64 cd, .string v] 76) := (Blk.new wr _ _).below hb (by simp); clear hb; have e0 : w1.cell? ⟨wr.heap.size, 0, none⟩ = some (.int .i64 kd) := BE.out.cell 0; have e1 : w1.cell? ⟨wr.heap.size, 1, none⟩ = some (.int .i64 (x : Int)) := BE.out.cell 1; have e2 : w1.cell? ⟨wr.heap.size, 2, none⟩ = some (.int .i64 sq) := BE.out.cell 2; have e3 : w1.cell? ⟨wr.heap.size, 3, none⟩ = some (.int .i64 op) := BE.out.cell 3; have e4 : w1.cell? ⟨wr.heap.size, 4, none⟩ = some (.string ck) := BE.out.cell 4; have e5 : w1.cell? ⟨wr.heap.size, 5, none⟩ = some (.string cv) := BE.out.cell 5; have e6 : w1.cell? ⟨wr.heap.size, 6, none⟩ = some (.string co) := BE.out.cell 6; have e7 : w1.cell? ⟨wr.heap.size, 7, none⟩ = some (.int .i64 cd) := BE.out.cell 7; have e8 : w1.cell? ⟨wr.heap.size, 8, none⟩ = some (.string v) := BE.out.cell 8))
          have HS1 : Hid (SO w1 w.heap.size (w.heap.size + 1) s) := HSk.out.below HB1.out
          have HBw1 : Hid (Below w.heap.size w w1) := HBw.out.trans (HB1.out.mono (by omega))
          have hz1 := HB1.out.size
          clear HSk HCF HR HB1
          have l1 : w1.cell? ⟨w.heap.size, x, none⟩ = some (.int .i64 (s.la x)) := HS1.out.la x hx9
          have lf : w1.frozen? ⟨w.heap.size, x, none⟩ = false := there_free' HS1.out.lt x hx9
          obtain ⟨d, hd⟩ : ∃ d, d = (s.op x).getD cm0 := ⟨_, rfl⟩
          have HD : Hid (d = (s.op x).getD cm0) := hd
          have hro := HS1.out.op x hx9
          rw [← hd] at hro
          have d0 : w1.cell? ⟨w.heap.size + 1, x * 6, none⟩ = some (.int .i64 d.cl) := hro 0 _ rfl
          have d1 : w1.cell? ⟨w.heap.size + 1, x * 6 + 1, none⟩ = some (.int .i64 d.sq) := hro 1 _ rfl
          have d2 : w1.cell? ⟨w.heap.size + 1, x * 6 + 2, none⟩ = some (.int .i64 d.op) := hro 2 _ rfl
          have d3 : w1.cell? ⟨w.heap.size + 1, x * 6 + 3, none⟩ = some (.string d.k) := hro 3 _ rfl
          have d4 : w1.cell? ⟨w.heap.size + 1, x * 6 + 4, none⟩ = some (.string d.v) := hro 4 _ rfl
          have d5 : w1.cell? ⟨w.heap.size + 1, x * 6 + 5, none⟩ = some (.string d.o) := hro 5 _ rfl
          clear hro hd
          have hwr : IntKind.i64.wrap (s.la x + 1) = s.la x + 1 := by rw [IntKind.wrap_i64]; omega
          by_cases h1 : kd = 1
          · subst h1
            have HTK : Hid (tkQ s ⟨1, ⟨x, sq, op, ck, cv, co⟩, cd, v⟩ = askOk s ⟨1, ⟨x, sq, op, ck, cv, co⟩, cd, v⟩) := rfl
            by_cases hcd : cd = 0
            case neg =>
              have hcn : (cd != 0) = true := by simpa using hcd
              have HFk : Hid (F = k) := by show _ = _; rw [HF.out]; exact fst_hit HA.out hlt (by rw [HQ2.out]; rw [HTK.out]; unfold askOk; simp [hcd])
              go_wp2_with fail
              go_quiet (fail)
              go_wp2
              go_ret
              exact ⟨by rw [HFk.out]; rfl, below_dN HBw1.out _⟩
            case pos =>
              subst hcd
              by_cases hvs : v.size = 0
              case neg =>
                have hv1 : decide (0 < v.size) = true := decide_eq_true (by omega)
                have hv2 : decide ((0 : Int) < (v.size : Int)) = true := decide_eq_true (by omega)
                have hv3 : (0 : Int) < (v.size : Int) := by omega
                have HFk : Hid (F = k) := by show _ = _; rw [HF.out]; exact fst_hit HA.out hlt (by rw [HQ2.out]; rw [HTK.out]; unfold askOk; simp [hvs])
                go_wp2_with fail
                go_quiet (fail)
                go_wp2
                go_ret
                exact ⟨by rw [HFk.out]; rfl, below_dN HBw1.out _⟩
              case pos =>
                have hv1 : decide (0 < v.size) = false := decide_eq_false (by omega)
                have hv2 : decide ((0 : Int) < (v.size : Int)) = false := decide_eq_false (by omega)
                have HVS : Hid (v.size = 0) := hvs
                clear hvs
                cases hso : s.op x with
                | some dd =>
                  have hdo : d = dd := by rw [HD.out, hso]; rfl
                  have hdn : (d.op != 0) = true := by have := HOP.out dd hso; rw [hdo]; simpa using this
                  have HFk : Hid (F = k) := by show _ = _; rw [HF.out]; exact fst_hit HA.out hlt (by rw [HQ2.out]; rw [HTK.out]; unfold askOk; simp [hso])
                  clear hdo hso
                  go_wp2_with fail
                  go_quiet (fail)
                  go_wp2
                  go_ret
                  exact ⟨by rw [HFk.out]; rfl, below_dN HBw1.out _⟩
                | none =>
                  have hdo : d = cm0 := by rw [HD.out, hso]; rfl
                  have hdn : (d.op != 0) = false := by rw [hdo]; rfl
                  have HSO : Hid (s.op x = none) := hso
                  clear hdo hso
                  by_cases hsq : sq = s.la x + 1
                  case neg =>
                    have hsn : (sq != s.la x + 1) = true := by simpa using hsq
                    have HFk : Hid (F = k) := by show _ = _; rw [HF.out]; exact fst_hit HA.out hlt (by rw [HQ2.out]; rw [HTK.out]; unfold askOk; simp [hsq])
                    clear hsq
                    go_wp2_with fail
                    go_quiet (fail)
                    go_wp2
                    go_ret
                    exact ⟨by rw [HFk.out]; rfl, below_dN HBw1.out _⟩
                  case pos =>
                    have hsn : (sq != s.la x + 1) = false := by simpa using hsq
                    have HN : Hid (∀ j, j < k + 1 → q1 es j = false) := fun j hj => by
                      by_cases e : j = k
                      · subst e; rw [HQ2.out, HTK.out]; unfold askOk; have := HVS.out; have := HSO.out; simp_all
                      · exact HA.out j (by omega)
                    have HSN : Hid (tStep s ⟨1, ⟨x, sq, op, ck, cv, co⟩, 0, v⟩ = ⟨setI s.op x (some ⟨x, sq, op, ck, cv, co⟩), setI s.la x sq⟩) := rfl
                    clear hsq
                    go_wp2_with fail
                    go_quiet (fail)
                    obtain ⟨W3, hW3⟩ : ∃ W3, W3 = w1.drewN nq := ⟨_, rfl⟩
                    have HS3 : Hid (SO W3 w.heap.size (w.heap.size + 1) s) := by show SO _ _ _ _; rw [hW3]; exact HS1.out.below ⟨rfl, rfl, rfl, Nat.le_refl _, fun _ _ => rfl⟩
                    have HB3 : Hid (Below w.heap.size w W3) := by show Below _ _ _; rw [hW3]; exact below_dN HBw1.out _
                    have HE3 : Hid (Blk W3 wr.heap.size #[.int .i64 1, .int .i64 (x : Int), .int .i64 sq, .int .i64 op, .string ck, .string cv, .string co, .int .i64 0, .string v] 76) := by show Blk _ _ _ _; rw [hW3]; exact BE.out
                    have hz3 : wr.heap.size < W3.heap.size := HE3.out.lt
                    go_upto_region 13 with fail
                    rw [← hW3]
                    clear hW3 l1 lf d0 d1 d2 d3 d4 d5 e0 e1 e2 e3 e4 e5 e6 e7 e8 HS1 HBw1 BE
                    have l1 : W3.cell? ⟨w.heap.size, x, none⟩ = some (.int .i64 (s.la x)) := HS3.out.la x hx9
                    have lf : W3.frozen? ⟨w.heap.size, x, none⟩ = false := there_free' HS3.out.lt x hx9
                    have e2 : W3.cell? ⟨wr.heap.size, 2, none⟩ = some (.int .i64 sq) := HE3.out.cell 2
                    go_upto_region 14 with fail
                    obtain ⟨W4, hW4⟩ : ∃ W4, W4 = W3.setCell ⟨w.heap.size, x, none⟩ (.int .i64 sq) := ⟨_, rfl⟩
                    have HS4 : Hid (SO W4 w.heap.size (w.heap.size + 1) ⟨s.op, setI s.la x sq⟩) := by show SO _ _ _ _; rw [hW4]; exact HS3.out.setLa hx9 sq
                    have HB4 : Hid (Below w.heap.size w W4) := by show Below _ _ _; rw [hW4]; exact HB3.out.setCell (Nat.le_refl _) _
                    have HE4 : Hid (Blk W4 wr.heap.size #[.int .i64 1, .int .i64 (x : Int), .int .i64 sq, .int .i64 op, .string ck, .string cv, .string co, .int .i64 0, .string v] 76) := by show Blk _ _ _ _; rw [hW4]; exact HE3.out.set_other _ (by simp only []; omega)
                    rw [← hW4]
                    clear hW4 l1 lf e2
                    have HTH : Hid (W4.there (w.heap.size + 1) (x * 6) 6) := there_sub HS4.out.ot _ _ (by omega)
                    have e1 : W4.cell? ⟨wr.heap.size, 1, none⟩ = some (.int .i64 (x : Int)) := HE4.out.cell 1
                    have e2 : W4.cell? ⟨wr.heap.size, 2, none⟩ = some (.int .i64 sq) := HE4.out.cell 2
                    have e3 : W4.cell? ⟨wr.heap.size, 3, none⟩ = some (.int .i64 op) := HE4.out.cell 3
                    have e4 : W4.cell? ⟨wr.heap.size, 4, none⟩ = some (.string ck) := HE4.out.cell 4
                    have e5 : W4.cell? ⟨wr.heap.size, 5, none⟩ = some (.string cv) := HE4.out.cell 5
                    have e6 : W4.cell? ⟨wr.heap.size, 6, none⟩ = some (.string co) := HE4.out.cell 6
                    go_wp2_with (refine gate_st 63 (.tmp 76) (.tmp 75) rfl ?_; refine wpList_store_mid rfl 63 (.tmp 76) (.tmp 75) rfl (w.heap.size + 1) (x * 6) _ (by simp [Act.eval, Act.put]) rfl HTH.out infoCm6 (by simp [Value.oneCell']) ?_)
                    go_roundw
                    case rel => exact ⟨k + 1, by omega, by go_num, HN.out, by rw [HST.out, HSN.out]; exact HS4.out.setOp hx9 (some ⟨x, sq, op, ck, cv, co⟩), below_setCells' (by omega) _ _ _ HB4.out⟩
                    case measure => simp [RowKit.intOf]; omega
          · have h1b : (kd == 1) = false := by simpa using h1
            by_cases h2 : kd = 2
            · subst h2
              have HTK : Hid (tkQ s ⟨2, ⟨x, sq, op, ck, cv, co⟩, cd, v⟩ = repOk s ⟨2, ⟨x, sq, op, ck, cv, co⟩, cd, v⟩) := rfl
              cases hin : inB cd 1 4
              · have HIN : Hid (∀ u, Calls Try.prog 70 #[.int .i64 cd, .int .i64 1, .int .i64 4] u fun e w' => e = .returned (.bool false) ∧ w' = u) := fun u => by rw [← hin]; exact l1in_any cd 1 4 u
                have HFk : Hid (F = k) := by show _ = _; rw [HF.out]; exact fst_hit HA.out hlt (by rw [HQ2.out]; rw [HTK.out]; have := (inB_not cd 1 4).1 hin; unfold repOk; simp; omega)
                clear hin
                go_wp2_with fail
                go_quiet (first | (go_at_call 70; exact Calls.quiet_of_same (HIN.out _)))
                go_wp2
                go_ret
                exact ⟨by rw [HFk.out]; rfl, below_dN HBw1.out _⟩
              · have HIN : Hid (∀ u, Calls Try.prog 70 #[.int .i64 cd, .int .i64 1, .int .i64 4] u fun e w' => e = .returned (.bool true) ∧ w' = u) := fun u => by rw [← hin]; exact l1in_any cd 1 4 u
                have hcds : 1 ≤ cd ∧ cd ≤ 4 := by
                  have h' : ¬ (cd < 1 ∨ 4 < cd) := fun x => by rw [(inB_not cd 1 4).2 x] at hin; cases hin
                  omega
                clear hin
                by_cases hvs : v.size ≤ 64
                case neg =>
                  have hv1 : decide (64 < v.size) = true := decide_eq_true (by omega)
                  have hv2 : decide ((64 : Int) < (v.size : Int)) = true := decide_eq_true (by omega)
                  have hv3 : (64 : Int) < (v.size : Int) := by omega
                  have HFk : Hid (F = k) := by show _ = _; rw [HF.out]; exact fst_hit HA.out hlt (by rw [HQ2.out]; rw [HTK.out]; unfold repOk; simp [hvs])
                  go_wp2_with fail
                  go_quiet (first | (go_at_call 70; exact Calls.quiet_of_same (HIN.out _)))
                  go_wp2
                  go_ret
                  exact ⟨by rw [HFk.out]; rfl, below_dN HBw1.out _⟩
                case pos =>
                  have hv1 : decide (64 < v.size) = false := decide_eq_false (by omega)
                  have hv2 : decide ((64 : Int) < (v.size : Int)) = false := decide_eq_false (by omega)
                  have hEq : ∀ u : World, (Op.equalIn 10000 63 (.agg #[.int .i64 d.cl, .int .i64 d.sq, .int .i64 d.op, .string d.k, .string d.v, .string d.o]) (.agg #[.int .i64 (x : Int), .int .i64 sq, .int .i64 op, .string ck, .string cv, .string co])).run Try.prog u = .ok (d.is ⟨x, sq, op, ck, cv, co⟩) u := fun u => cm_eq_run d ⟨x, sq, op, ck, cv, co⟩ u
                  have HIS : Hid (d.is ⟨x, sq, op, ck, cv, co⟩ = opIs s ⟨x, sq, op, ck, cv, co⟩) := by
                    show _ = _
                    rw [HD.out]
                    unfold opIs
                    show _ = (match s.op x with | some d => d.is ⟨x, sq, op, ck, cv, co⟩ | none => false)
                    cases s.op x with
                    | some dd => rfl
                    | none =>
                      refine Cm.is_no fun e => ?_
                      have : (cm0).op = op := by rw [show ((none : Option Cm).getD cm0) = cm0 from rfl] at e; rw [e]
                      exact hop this.symm
                  cases hdc : d.is ⟨x, sq, op, ck, cv, co⟩
                  · rw [hdc] at HIS hEq
                    have HFk : Hid (F = k) := by show _ = _; rw [HF.out]; exact fst_hit HA.out hlt (by rw [HQ2.out]; rw [HTK.out]; unfold repOk; rw [show opIs s _ = false from HIS.out.symm]; simp)
                    clear hdc
                    go_wp2_with fail
                    go_quiet (first | (go_at_call 70; exact Calls.quiet_of_same (HIN.out _)))
                    go_wp2
                    go_ret
                    exact ⟨by rw [HFk.out]; rfl, below_dN HBw1.out _⟩
                  · rw [hdc] at HIS hEq
                    have HN : Hid (∀ j, j < k + 1 → q1 es j = false) := fun j hj => by
                      by_cases e : j = k
                      · subst e; rw [HQ2.out, HTK.out]; unfold repOk; rw [show opIs s _ = true from HIS.out.symm]; simp [hcds, hvs]
                      · exact HA.out j (by omega)
                    have HSN : Hid (tStep s ⟨2, ⟨x, sq, op, ck, cv, co⟩, cd, v⟩ = ⟨setI s.op x none, s.la⟩) := rfl
                    clear hdc
                    go_wp2_with fail
                    go_quiet (first | (go_at_call 70; exact Calls.quiet_of_same (HIN.out _)))
                    obtain ⟨W3, hW3⟩ : ∃ W3, W3 = w1.drewN nq := ⟨_, rfl⟩
                    have HS3 : Hid (SO W3 w.heap.size (w.heap.size + 1) s) := by show SO _ _ _ _; rw [hW3]; exact HS1.out.below ⟨rfl, rfl, rfl, Nat.le_refl _, fun _ _ => rfl⟩
                    have HB3 : Hid (Below w.heap.size w W3) := by show Below _ _ _; rw [hW3]; exact below_dN HBw1.out _
                    go_upto_region 18 with fail
                    rw [← hW3]
                    clear hW3 l1 lf d0 d1 d2 d3 d4 d5 e0 e1 e2 e3 e4 e5 e6 e7 e8 HS1 HBw1 BE
                    have HTH : Hid (W3.there (w.heap.size + 1) (x * 6) 6) := there_sub HS3.out.ot _ _ (by omega)
                    go_wp2_with (refine gate_st 63 (.tmp 103) (.tmp 102) rfl ?_; refine wpList_store_mid rfl 63 (.tmp 103) (.tmp 102) rfl (w.heap.size + 1) (x * 6) _ (by simp [Act.eval, Act.put]) rfl HTH.out infoCm6 (by simp [Value.oneCell']) ?_)
                    go_roundw
                    case rel => exact ⟨k + 1, by omega, by go_num, HN.out, by rw [HST.out, HSN.out]; exact HS3.out.setOp hx9 none, below_setCells' (by omega) _ _ _ HB3.out⟩
                    case measure => simp [RowKit.intOf]; omega
            · have h2b : (kd == 2) = false := by simpa using h2
              have HFk : Hid (F = k) := by show _ = _; rw [HF.out]; exact fst_hit HA.out hlt (by rw [HQ2.out]; unfold tkQ; simp [h1, h2])
              go_wp2_with fail
              go_ret
              exact ⟨by rw [HFk.out]; rfl, HBw1.out⟩
    · obtain rfl : k = es.length := by omega
      have HFk : Hid (F = -1) := by show _ = _; rw [HF.out]; exact fst_no HA.out
      go_wp2
      go_ret
      exact ⟨by rw [HFk.out]; rfl, HBw.out⟩
end Go.Proofs.Ytnoihfincifphaa
