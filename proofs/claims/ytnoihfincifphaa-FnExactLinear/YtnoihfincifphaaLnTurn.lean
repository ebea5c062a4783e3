/-
  (*impl.judge).outOfTurn.
-/
import Derived.Test.YtnoihfincifphaaLnTake
namespace Go.Proofs.Ytnoihfincifphaa
open Go.RowKit Go.Maps
set_option linter.unusedVariables false
set_option linter.unusedSimpArgs false

theorem FM.nocell {κ γ : Type} {k : TypeId} {kv : κ → Value} {good : κ → Prop} {vl : γ → Value} {w : World} {b n : Nat} {f : κ → Option γ} (h : FM k kv good vl w b n f) {c o : Nat} {x : Value} (hc : w.cell? ⟨c, o, none⟩ = some x) : c ≠ b := by
  rintro rfl
  obtain ⟨D, ⟨es, clock, hb, _⟩, _⟩ := h
  simp [World.cell?, hb] at hc
theorem JS.nocell {w : World} {jb bt bp bl bo : Nat} {ea : Option Addr} {en ec : Nat} {oa : Option Addr} {on oc : Nat} {s : TSt} {tu : Cm → Option (Nat × Nat)} {n : Nat} (h : JS w jb bt bp bl bo ea en ec oa on oc s tu n) {c o : Nat} {x : Value} (hc : w.cell? ⟨c, o, none⟩ = some x) : ¬ tJ bt bl bo c :=
  fun e => e.elim (h.o.nocell hc) fun e => e.elim (h.l.nocell hc) (h.t.nocell hc)
theorem range_tch {S : Nat → Prop} {w w' : World} {b o : Nat} {cs : List Value} (h : w.rangeAt b o cs) (ht : TchT S w w') (hS : ∀ c o x, w.cell? ⟨c, o, none⟩ = some x → ¬ S c) : w'.rangeAt b o cs := fun j v hj => by
  have hc := h j v hj
  exact (World.cell?_of_block (ht.block b (cell_lt hc) (hS _ _ _ hc))).trans hc
theorem Evs.tch {S : Nat → Prop} {w w' : World} {v : Value} {l : List Evn} (h : Evs w v l) (ht : TchT S w w') (hS : ∀ c o x, w.cell? ⟨c, o, none⟩ = some x → ¬ S c) : Evs w' v l := by
  obtain ⟨⟨hl, a, cap, rfl, hc⟩, hf⟩ := h
  refine ⟨⟨hl, a, cap, rfl, fun i hi => ?_⟩, hf⟩
  obtain ⟨b, off, rfl, hj⟩ := hc i hi
  exact ⟨b, off, rfl, fun j hj' => range_tch (hj j hj') ht hS⟩
theorem Cms.tch {S : Nat → Prop} {w w' : World} {v : Value} {l : List Cm} (h : Cms w v l) (ht : TchT S w w') (hS : ∀ c o x, w.cell? ⟨c, o, none⟩ = some x → ¬ S c) : Cms w' v l := by
  obtain ⟨⟨hl, a, cap, rfl, hc⟩, hf⟩ := h
  refine ⟨⟨hl, a, cap, rfl, fun i hi => ?_⟩, hf⟩
  obtain ⟨b, off, rfl, hj⟩ := hc i hi
  exact ⟨b, off, rfl, fun j hj' => range_tch (hj j hj') ht hS⟩
theorem cmF_ok {c : Cm} (h : cmF c = 0) : (1 ≤ c.cl ∧ c.cl ≤ 8) ∧ (1 ≤ c.sq ∧ c.sq ≤ 1073741824) ∧ 1 ≤ c.op ∧ c.op ≤ 4 := by
  unfold cmF callF at h
  have h1 : ¬ (cmdF c.cl c.sq c.op c.k.size c.v.size c.o.size = 0 ∧ c.op = 0) := fun x => by rw [if_pos x] at h; cases h
  rw [if_neg h1] at h
  have hop : ¬ c.op = 0 := fun e => h1 ⟨h, e⟩
  unfold cmdF at h
  by_cases a1 : c.op < 0 ∨ 4 < c.op
  · rw [if_pos a1] at h; cases h
  · rw [if_neg a1, if_neg hop] at h
    by_cases a2 : c.cl < 1 ∨ 8 < c.cl
    · rw [if_pos a2] at h; cases h
    · rw [if_neg a2] at h
      by_cases a3 : c.sq < 1 ∨ 1073741824 < c.sq
      · rw [if_pos a3] at h; cases h
      · omega
theorem tOk_eq (s : TSt) (e : Evn) : tOk s e = (decide (cmF e.c = 0) && tkQ s e) := rfl
theorem la_ok {es : List Evn} : ∀ k, k ≤ es.length → (∀ j, j < k → q1 es j = false) → ∀ x, 0 ≤ (tRun (es.take k)).la x ∧ (tRun (es.take k)).la x ≤ 1073741824
  | 0, _, _ => fun x => by simp [tRun]
  | k + 1, hk, h => fun x => by
    have ih := la_ok k (by omega) (fun j hj => h j (by omega)) x
    have h1 := h k (by omega)
    rw [q1, evAt_eq (by omega)] at h1
    obtain ⟨hf, hkd⟩ := tOk_parts (by simpa using h1)
    have hsq := (cmF_ok hf).2.1
    rw [List.take_succ_eq_append_getElem (by omega), tRun_snoc, tStep]
    split
    · show 0 ≤ setI _ _ _ x ∧ setI _ _ _ x ≤ _
      unfold setI
      split
      · omega
      · exact ih
    · exact ih
theorem infoEv : (Try.prog.info? 76).map (·.size) = some 9 := by kernel_rfl
/-- the turn behind one more event -/
theorem turn_step {N : Nat} {l : List Evn} {e : Evn} (h : TInv l) (hk : tOk (tRun l) e = true) : tn N (l ++ [e]) = tkT (tn N l) l.length N ((findK 1 l e.c).getD 0) e := by
  obtain ⟨hf, ⟨k1, _⟩ | ⟨k2, _⟩⟩ := tOk_parts hk
  · rw [tn_ask h hk k1, tkT, if_pos k1]
  · obtain ⟨a, r, h1, h2⟩ := tn_rep (N := N) h hk k2
    rw [h2, tkT, if_neg (by omega)]
    unfold tn at h1
    cases hx : findK 1 l e.c with
    | none => rw [hx] at h1; cases h1
    | some y =>
      rw [hx] at h1
      simp at h1
      rw [← h1.1]; rfl

set_option maxHeartbeats 8000000 in
set_option maxRecDepth 100000 in
theorem outOfTurn_any (jb bt bp bl bo : Nat) (ea : Option Addr) (ec : Nat) (oa : Option Addr) (on oc : Nat) (es : List Evn) (w : World)
    (h : JS w jb bt bp bl bo ea es.length ec oa on oc (tRun []) (tn es.length []) 0) (hE : Evs w (.slice ea es.length ec) es) (hl : es.length ≤ 4096) :
    Calls Try.prog 40 #[.pointer (some ⟨jb, 0, none⟩)] w fun e w' => e = .returned (.int .i64 (fstOf (q1 es) es.length)) ∧ (fstOf (q1 es) es.length < 0 → JS w' jb bt bp bl bo ea es.length ec oa on oc (tRun es) (tn es.length es) es.length) ∧ TchT (tJ bt bl bo) w w' := by
  have HJS : Hid (JS w jb bt bp bl bo ea es.length ec oa on oc (tRun []) (tn es.length []) 0) := h
  have HE : Hid (Evs w (.slice ea es.length ec) es) := hE
  have HNC : Hid (∀ c o x, w.cell? ⟨c, o, none⟩ = some x → ¬ tJ bt bl bo c) := fun c o x hc => h.nocell hc
  have j0 : w.cell? ⟨jb, 0, none⟩ = some (.slice ea es.length ec) := h.j.blk.cell 0
  clear h hE
  obtain ⟨F, hF⟩ : ∃ F, F = fstOf (q1 es) es.length := ⟨_, rfl⟩
  have HF : Hid (F = fstOf (q1 es) es.length) := hF
  rw [← hF]
  clear hF
  go_enter Try.func40, Try.ntmps40
  go_wp2
  go_loopw [10] (fun i wr => ∃ k : Nat, k ≤ es.length ∧ i = .int .i64 k ∧ (∀ j, j < k → q1 es j = false) ∧ JS wr jb bt bp bl bo ea es.length ec oa on oc (tRun (es.take k)) (tn es.length (es.take k)) k ∧ TchT (tJ bt bl bo) w wr) (fun i _ => es.length - (RowKit.intOf i).toNat)
  case atStart => exact ⟨0, Nat.zero_le _, rfl, by simp, by simpa using HJS.out, .below (Below.refl _ _)⟩
  case round =>
    obtain ⟨k, hk, rfl, hA, hJ, hT⟩ := hrel
    have HJ : Hid (JS wr jb bt bp bl bo ea es.length ec oa on oc (tRun (es.take k)) (tn es.length (es.take k)) k) := hJ
    have HA : Hid (∀ j, j < k → q1 es j = false) := hA
    have HT : Hid (TchT (tJ bt bl bo) w wr) := hT
    clear hA hJ hT
    by_cases hlt : k < es.length
    · have hE := HE.out.tch HT.out HNC.out
      obtain ⟨b, off, rfl, hr⟩ := hE.at_ hlt
      have HR : Hid (wr.rangeAt b (off + k * 9) [.int .i64 es[k].kd, .int .i64 es[k].c.cl, .int .i64 es[k].c.sq, .int .i64 es[k].c.op, .string es[k].c.k, .string es[k].c.v, .string es[k].c.o, .int .i64 es[k].cd, .string es[k].v]) := hr k hlt
      have hfit := HE.out.fits es[k] (List.getElem_mem hlt)
      have hI := tinv_take k hk HA.out
      have hla := la_ok k hk HA.out es[k].c.cl
      have HQ : Hid (q1 es k = !(decide (cmF es[k].c = 0) && tkQ (tRun (es.take k)) es[k])) := by show _ = _; rw [q1, evAt_eq hlt, tOk_eq]
      have hlen : (es.take k).length = k := by rw [List.length_take]; omega
      have HST : Hid (tOk (tRun (es.take k)) es[k] = true → tRun (es.take (k + 1)) = tStep (tRun (es.take k)) es[k] ∧ tn es.length (es.take (k + 1)) = tkT (tn es.length (es.take k)) k es.length ((findK 1 (es.take k) es[k].c).getD 0) es[k]) := fun hok => by
        rw [List.take_succ_eq_append_getElem hlt]
        refine ⟨tRun_snoc _ _, ?_⟩
        rw [turn_step hI hok, hlen]
      have HTU : Hid ((tRun (es.take k)).op es[k].c.cl = some es[k].c → ∃ rp, tn es.length (es.take k) es[k].c = some ((findK 1 (es.take k) es[k].c).getD 0, rp)) := fun ho => by
        obtain ⟨_, b2, _⟩ := hI.b _ _ ho
        obtain ⟨a, ha⟩ := Option.isSome_iff_exists.1 b2
        exact ⟨_, by unfold tn; rw [ha]; rfl⟩
      generalize (findK 1 (es.take k) es[k].c).getD 0 = ak at HST HTU
      obtain ⟨⟨kd, c, cd, v⟩, he⟩ : ∃ e, e = es[k] := ⟨_, rfl⟩
      rw [← he] at HR hfit hla HQ HST HTU
      clear he hr hE hI hlen
      dsimp only at HR hla HQ HST HTU
      have hcf : c.fits := hfit.c
      have hvf : v.size ≤ 1048576 := hfit.v
      clear hfit
      have HCF : Hid (∀ u, Calls Try.prog 75 #[.agg #[.int .i64 c.cl, .int .i64 c.sq, .int .i64 c.op, .string c.k, .string c.v, .string c.o]] u fun e w' => e = .returned (.int .i64 (cmF c)) ∧ Below u.heap.size u w') := fun u => callFault_any c.cl c.sq c.op c.k c.v c.o (by have := hcf.k; unfold maxLen; omega) (by have := hcf.v; unfold maxLen; omega) (by have := hcf.o; unfold maxLen; omega) u
      obtain ⟨s, hs⟩ : ∃ s, s = tRun (es.take k) := ⟨_, rfl⟩
      obtain ⟨tu, htu⟩ : ∃ tu, tu = tn es.length (es.take k) := ⟨_, rfl⟩
      rw [← hs, ← htu] at HJ HST HTU
      rw [← hs] at hla HQ
      clear hs htu
      have g1 : True := trivial
      have g2 : True := trivial
      have hkl : (k : Int) < (es.length : Int) := by omega
      by_cases hcm : cmF c = 0
      · rw [hcm] at HCF
        obtain ⟨q, hq⟩ : ∃ q, q = tkQ s ⟨kd, c, cd, v⟩ := ⟨_, rfl⟩
        have HTK : Hid (∀ u, Below wr.heap.size wr u → Calls Try.prog 76 #[.pointer (some ⟨jb, 0, none⟩), .int .i64 k, .agg #[.int .i64 kd, .int .i64 c.cl, .int .i64 c.sq, .int .i64 c.op, .string c.k, .string c.v, .string c.o, .int .i64 cd, .string v]] u fun e w' => e = .returned (.bool q) ∧ (q = true → JS w' jb bt bp bl bo (some ⟨b, off, none⟩) es.length ec oa on oc (tStep s ⟨kd, c, cd, v⟩) (tkT tu k es.length ak ⟨kd, c, cd, v⟩) (k + 1)) ∧ TchT (tJ bt bl bo) u w') := fun u hb => (take_any jb bt bp bl bo (some ⟨b, off, none⟩) es.length ec oa on oc k kd cd v c k s tu u ⟨HJ.out.j.tch (.below hb), HJ.out.o.below hb, HJ.out.l.below hb, HJ.out.t.below hb⟩ hcf hvf (by omega) hla ak HTU.out).mono fun e w' ⟨q', h1, h2, h3, h4⟩ => by
            have : q' = q := by rw [h2, hq]
            subst this
            exact ⟨h1, h3, h4⟩
        have HQ2 : Hid (q1 es k = !q) := by show _ = _; rw [HQ.out, hcm, ← hq]; simp
        have HST2 : Hid (q = true → tRun (es.take (k + 1)) = tStep s ⟨kd, c, cd, v⟩ ∧ tn es.length (es.take (k + 1)) = tkT tu k es.length ak ⟨kd, c, cd, v⟩) := fun hqt => HST.out (by rw [tOk_eq, ← hq, hqt, hcm]; rfl)
        clear hq HQ HST HTU hla hcm
        cases q
        · have HFk : Hid (F = k) := by show _ = _; rw [HF.out]; exact fst_hit HA.out hlt (by rw [HQ2.out]; rfl)
          go_wp2_with (first
            | (have hG := g1; refine gate_ld 76 (.tmp 13) rfl ?_; clear hG g1; refine wpList_load_mid rfl 76 (.tmp 13) rfl b (off + k * 9) rfl _ _ HR.out Try.underlying76 rfl infoEv ?_)
            | (have hG := g2; refine gate_st 76 (.tmp 4) (.tmp 14) rfl ?_; clear hG g2; refine wpl_store_last rfl 76 (.tmp 4) (.tmp 14) rfl wr.heap.size rfl rfl rfl infoEv rfl rfl (by simp [Value.oneCell']) ?_)
            | (go_at_call 75; refine (HCF.out _).mono ?_; rintro e w1 ⟨rfl, hb⟩; have HB1 : Hid (Below wr.heap.size wr w1) := ((Below.refl _ _).alloc (Nat.le_refl _) _).trans (hb.mono (by simp)); have BE : Hid (Blk w1 wr.heap.size _ 76) := (Blk.new wr _ _).below hb (by simp); clear hb)
            | (have hBA := BE; refine gate_ld 76 (.tmp 4) rfl ?_; clear hBA; refine wpl_load_blkG rfl rfl 76 (.tmp 4) rfl wr.heap.size rfl BE.out Try.underlying76 rfl infoEv rfl ?_)
            | (go_at_call 76; refine (HTK.out _ HB1.out).mono ?_; rintro e w2 ⟨rfl, hj2, ht2⟩))
          go_ret
          exact ⟨by rw [HFk.out]; rfl, fun hneg => absurd hneg (by rw [HFk.out]; omega), (HT.out.trans (.below HB1.out)).trans ht2⟩
        · have HN : Hid (∀ j, j < k + 1 → q1 es j = false) := fun j hj => by
            by_cases e : j = k
            · subst e; rw [HQ2.out]; rfl
            · exact HA.out j (by omega)
          go_wp2_with (first
            | (have hG := g1; refine gate_ld 76 (.tmp 13) rfl ?_; clear hG g1; refine wpList_load_mid rfl 76 (.tmp 13) rfl b (off + k * 9) rfl _ _ HR.out Try.underlying76 rfl infoEv ?_)
            | (have hG := g2; refine gate_st 76 (.tmp 4) (.tmp 14) rfl ?_; clear hG g2; refine wpl_store_last rfl 76 (.tmp 4) (.tmp 14) rfl wr.heap.size rfl rfl rfl infoEv rfl rfl (by simp [Value.oneCell']) ?_)
            | (go_at_call 75; refine (HCF.out _).mono ?_; rintro e w1 ⟨rfl, hb⟩; have HB1 : Hid (Below wr.heap.size wr w1) := ((Below.refl _ _).alloc (Nat.le_refl _) _).trans (hb.mono (by simp)); have BE : Hid (Blk w1 wr.heap.size _ 76) := (Blk.new wr _ _).below hb (by simp); clear hb)
            | (have hBA := BE; refine gate_ld 76 (.tmp 4) rfl ?_; clear hBA; refine wpl_load_blkG rfl rfl 76 (.tmp 4) rfl wr.heap.size rfl BE.out Try.underlying76 rfl infoEv rfl ?_)
            | (go_at_call 76; refine (HTK.out _ HB1.out).mono ?_; rintro e w2 ⟨rfl, hj2, ht2⟩))
          go_roundw
          case rel =>
            obtain ⟨r1, r2⟩ := HST2.out trivial
            exact ⟨k + 1, by omega, by go_num, HN.out, by rw [r1, r2]; exact hj2 trivial, (HT.out.trans (.below HB1.out)).trans ht2⟩
          case measure => simp [RowKit.intOf]; omega
      · have hcb : (cmF c == 0) = false := by simpa using hcm
        have hcn : (cmF c != 0) = true := by simpa using hcm
        have HFk : Hid (F = k) := by show _ = _; rw [HF.out]; exact fst_hit HA.out hlt (by rw [HQ.out]; simp [hcm])
        obtain ⟨X, hX⟩ : ∃ X, X = cmF c := ⟨_, rfl⟩
        rw [← hX] at HCF hcb hcn
        clear hX hcm HQ HST HTU hla
        go_wp2_with (first
          | (have hG := g1; refine gate_ld 76 (.tmp 13) rfl ?_; clear hG g1; refine wpList_load_mid rfl 76 (.tmp 13) rfl b (off + k * 9) rfl _ _ HR.out Try.underlying76 rfl infoEv ?_)
          | (have hG := g2; refine gate_st 76 (.tmp 4) (.tmp 14) rfl ?_; clear hG g2; refine wpl_store_last rfl 76 (.tmp 4) (.tmp 14) rfl wr.heap.size rfl rfl rfl infoEv rfl rfl (by simp [Value.oneCell']) ?_)
          | (go_at_call 75; refine (HCF.out _).mono ?_; rintro e w1 ⟨rfl, hb⟩; have HB1 : Hid (Below wr.heap.size wr w1) := ((Below.refl _ _).alloc (Nat.le_refl _) _).trans (hb.mono (by simp)); have BE : True := trivial; clear hb))
        go_ret
        exact ⟨by rw [HFk.out]; rfl, fun hneg => absurd hneg (by rw [HFk.out]; omega), HT.out.trans (.below HB1.out)⟩
    · obtain rfl : k = es.length := by omega
      have HFk : Hid (F = -1) := by show _ = _; rw [HF.out]; exact fst_no HA.out
      rw [List.take_length] at HJ
      go_wp2
      go_ret
      exact ⟨by rw [HFk.out]; rfl, fun _ => HJ.out, HT.out⟩
end Go.Proofs.Ytnoihfincifphaa
