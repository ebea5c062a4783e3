/-
  (*impl.judge).outOfPlace.
-/
import Derived.Test.YtnoihfincifphaaLnTurn
namespace Go.Proofs.Ytnoihfincifphaa
open Go.RowKit Go.Maps
set_option linter.unusedVariables false
set_option linter.unusedSimpArgs false

/-- the commands that have been placed -/
def PL (w : World) (bp n : Nat) (l : List Cm) : Prop := ∃ f, MPl w bp n f ∧ ∀ c, (f c).isSome = inCs l c
theorem PL.keep {w w' : World} {bp n : Nat} {l : List Cm} (h : PL w bp n l) (hb : w'.heap[bp]? = w.heap[bp]?) : PL w' bp n l := let ⟨f, h1, h2⟩ := h; ⟨f, h1.keep hb, h2⟩
theorem PL.lt {w : World} {bp n : Nat} {l : List Cm} (h : PL w bp n l) : bp < w.heap.size := let ⟨f, h1, h2⟩ := h; h1.lt
theorem PL.nocell {w : World} {bp n : Nat} {l : List Cm} (h : PL w bp n l) {c o : Nat} {x : Value} (hc : w.cell? ⟨c, o, none⟩ = some x) : c ≠ bp := let ⟨f, h1, h2⟩ := h; h1.nocell hc
theorem JS.keepP {w w' : World} {jb bt bp bl bo : Nat} {ea : Option Addr} {en ec : Nat} {oa : Option Addr} {on oc : Nat} {s : TSt} {tu : Cm → Option (Nat × Nat)} {n : Nat} (h : JS w jb bt bp bl bo ea en ec oa on oc s tu n) (ht : TchT (fun j => j = bp) w w') : JS w' jb bt bp bl bo ea en ec oa on oc s tu n :=
  ⟨h.j.keep (ht.block jb h.j.blk.lt h.j.jp) ht.size, h.o.keep (ht.block bo h.j.lt.2.2.2 h.j.po.symm), h.l.keep (ht.block bl h.j.lt.2.2.1 h.j.pl.symm), h.t.keep (ht.block bt h.j.lt.1 h.j.tp)⟩
theorem JS.below {w w' : World} {jb bt bp bl bo : Nat} {ea : Option Addr} {en ec : Nat} {oa : Option Addr} {on oc : Nat} {s : TSt} {tu : Cm → Option (Nat × Nat)} {n : Nat} (h : JS w jb bt bp bl bo ea en ec oa on oc s tu n) (hb : Below w.heap.size w w') : JS w' jb bt bp bl bo ea en ec oa on oc s tu n := h.keepP (.below hb)
theorem infoCm : (Try.prog.info? 63).map (·.size) = some 6 := by kernel_rfl
theorem tn_elim (N : Nat) (es : List Evn) (c : Cm) : ∃ x1 x2 : Int, (tn N es c).elim (.agg #[.int .i64 0, .int .i64 0]) tnV = .agg #[.int .i64 x1, .int .i64 x2] := by
  cases tn N es c with
  | none => exact ⟨0, 0, rfl⟩
  | some p => exact ⟨p.1, p.2, rfl⟩
theorem tn_some (N : Nat) (es : List Evn) (c : Cm) : (tn N es c).isSome = (findK 1 es c).isSome := by unfold tn; cases findK 1 es c <;> rfl
theorem pl_elim (x : Option Nat) : ∃ y : Int, x.elim (.int .i64 0) (fun i : Nat => Value.int .i64 i) = .int .i64 y := by
  cases x with
  | none => exact ⟨0, rfl⟩
  | some p => exact ⟨p, rfl⟩
theorem inCs_snoc (l : List Cm) (c d : Cm) : inCs (l ++ [c]) d = (inCs l d || c.is d) := by unfold inCs; simp
theorem inCs_take {os : List Cm} {k : Nat} (hk : k < os.length) (d : Cm) : inCs (os.take (k + 1)) d = (inCs (os.take k) d || os[k].is d) := by rw [List.take_succ_eq_append_getElem hk, inCs_snoc]

set_option maxHeartbeats 8000000 in
set_option maxRecDepth 100000 in
theorem outOfPlace_any (jb bt bp bl bo : Nat) (ea : Option Addr) (en ec : Nat) (oa : Option Addr) (oc : Nat) (es : List Evn) (os : List Cm) (s : TSt) (n : Nat) (w : World)
    (h : JS w jb bt bp bl bo ea en ec oa os.length oc s (tn en es) n) (hP : PL w bp 0 []) (hE : Cms w (.slice oa os.length oc) os) (hl : os.length ≤ 4096) :
    Calls Try.prog 41 #[.pointer (some ⟨jb, 0, none⟩)] w fun e w' => e = .returned (.int .i64 (fstOf (q2 es os) os.length)) ∧ (fstOf (q2 es os) os.length < 0 → PL w' bp os.length os) ∧ TchT (fun j => j = bp) w w' := by
  have HJS : Hid (JS w jb bt bp bl bo ea en ec oa os.length oc s (tn en es) n) := h
  have HE : Hid (Cms w (.slice oa os.length oc) os) := hE
  have HP : Hid (PL w bp 0 []) := hP
  have HNC : Hid (∀ c o x, w.cell? ⟨c, o, none⟩ = some x → ¬ c = bp) := fun c o x hc => hP.nocell hc
  have j0 : w.cell? ⟨jb, 1, none⟩ = some (.slice oa os.length oc) := h.j.blk.cell 1
  have hpt := h.j.tp
  clear h hE hP
  obtain ⟨F, hF⟩ : ∃ F, F = fstOf (q2 es os) os.length := ⟨_, rfl⟩
  have HF : Hid (F = fstOf (q2 es os) os.length) := hF
  rw [← hF]
  clear hF
  go_enter Try.func41, Try.ntmps41
  go_wp2
  go_loopw [14] (fun i wr => ∃ k : Nat, k ≤ os.length ∧ i = .int .i64 k ∧ (∀ j, j < k → q2 es os j = false) ∧ PL wr bp k (os.take k) ∧ TchT (fun j => j = bp) w wr) (fun i _ => os.length - (RowKit.intOf i).toNat)
  case atStart => exact ⟨0, Nat.zero_le _, rfl, by simp, HP.out, .below (Below.refl _ _)⟩
  case round =>
    obtain ⟨k, hk, rfl, hA, hP, hT⟩ := hrel
    have HJ : Hid (JS wr jb bt bp bl bo ea en ec oa os.length oc s (tn en es) n) := HJS.out.keepP hT
    have HPk : Hid (PL wr bp k (os.take k)) := hP
    have HA : Hid (∀ j, j < k → q2 es os j = false) := hA
    have HT : Hid (TchT (fun j => j = bp) w wr) := hT
    clear hA hP hT
    by_cases hlt : k < os.length
    · have hE := HE.out.tch HT.out HNC.out
      obtain ⟨b, off, rfl, hr⟩ := hE.at_ hlt
      have HR : Hid (wr.rangeAt b (off + k * 6) [.int .i64 os[k].cl, .int .i64 os[k].sq, .int .i64 os[k].op, .string os[k].k, .string os[k].v, .string os[k].o]) := hr k hlt
      have hcf := HE.out.fits os[k] (List.getElem_mem hlt)
      have HQ : Hid (q2 es os k = ((findK 1 es os[k]).isNone || inCs (os.take k) os[k])) := by show _ = _; rw [q2, cmAt_eq hlt]
      have HIN : Hid (∀ d, inCs (os.take (k + 1)) d = (inCs (os.take k) d || os[k].is d)) := inCs_take hlt
      obtain ⟨c, he⟩ : ∃ c, c = os[k] := ⟨_, rfl⟩
      rw [← he] at HR hcf HQ HIN
      clear he hr hE
      have hkl : (k : Int) < (os.length : Int) := by omega
      obtain ⟨f, hMP, hf⟩ := HPk.out
      obtain ⟨x1, x2, hx⟩ := tn_elim en es c
      obtain ⟨y, hy⟩ := pl_elim (f c)
      obtain ⟨ak, hak⟩ : ∃ ak, ak = (findK 1 es c).isSome := ⟨_, rfl⟩
      obtain ⟨ag, hag⟩ : ∃ ag, ag = inCs (os.take k) c := ⟨_, rfl⟩
      have hlT : ∀ u : World, u.heap[bt]? = wr.heap[bt]? → (Instr.lookup 79 (.map (some bt)) (.agg #[.int .i64 c.cl, .int .i64 c.sq, .int .i64 c.op, .string c.k, .string c.v, .string c.o]) true).run Try.prog u = .ok (.tuple #[.agg #[.int .i64 x1, .int .i64 x2], .bool ak]) u := fun u hu => by
        have := HJ.out.t.lookOk lawC Try.underlying79 zeroTn c hcf u hu
        rw [hx, tn_some, ← hak] at this
        exact this
      have hlP : ∀ u : World, u.heap[bp]? = wr.heap[bp]? → (Instr.lookup 80 (.map (some bp)) (.agg #[.int .i64 c.cl, .int .i64 c.sq, .int .i64 c.op, .string c.k, .string c.v, .string c.o]) true).run Try.prog u = .ok (.tuple #[.int .i64 y, .bool ag]) u := fun u hu => by
        have := hMP.lookOk lawC Try.underlying80 zeroIn c hcf u hu
        rw [hy, hf, ← hag] at this
        exact this
      have HQ2 : Hid (q2 es os k = (!ak || ag)) := by show _ = _; rw [HQ.out, hak, hag]; cases findK 1 es c <;> rfl
      have HMP : Hid (MPl wr bp k f) := hMP
      have HFS : Hid (∀ d, (setC f c (some k) d).isSome = inCs (os.take (k + 1)) d) := fun d => by
        rw [HIN.out]
        by_cases hd : d = c
        · subst hd; rw [setC_same, Cm.is_self]; simp
        · rw [setC_other _ _ hd, hf, Cm.is_no (fun e => hd e.symm)]; simp
      have hlb := HJ.out.j.lt.1
      have hlp := HPk.out.lt
      have hjl := HJ.out.j.blk.lt
      clear hx hy hak hag hMP hf HQ HPk
      obtain ⟨W, hW⟩ : ∃ W, W = wr.alloc (.cells #[.int .i64 c.cl, .int .i64 c.sq, .int .i64 c.op, .string c.k, .string c.v, .string c.o] 63) := ⟨_, rfl⟩
      have hz : W.heap.size = wr.heap.size + 1 := by rw [hW]; simp
      have HB : Hid (Below wr.heap.size wr W) := by show Below _ _ _; rw [hW]; exact (Below.refl _ _).alloc (Nat.le_refl _) _
      have HC : Hid (Blk W wr.heap.size #[.int .i64 c.cl, .int .i64 c.sq, .int .i64 c.op, .string c.k, .string c.v, .string c.o] 63) := by show Blk _ _ _ _; rw [hW]; exact Blk.new _ _ _
      have HJB : Hid (Blk W jb #[.slice ea en ec, .slice (some ⟨b, off, none⟩) os.length oc, .map (some bt), .map (some bp), .map (some bl), .map (some bo)] 84) := HJ.out.j.blk.keep (HB.out.block _ hjl)
      have l0 : (Instr.lookup 79 (.map (some bt)) (.agg #[.int .i64 c.cl, .int .i64 c.sq, .int .i64 c.op, .string c.k, .string c.v, .string c.o]) true).run Try.prog W.drew = .ok (.tuple #[.agg #[.int .i64 x1, .int .i64 x2], .bool ak]) W.drew := hlT _ (HB.out.block bt hlb)
      have l1 : ∀ o : Obj, (Instr.lookup 79 (.map (some bt)) (.agg #[.int .i64 c.cl, .int .i64 c.sq, .int .i64 c.op, .string c.k, .string c.v, .string c.o]) true).run Try.prog (W.drew.alloc o) = .ok (.tuple #[.agg #[.int .i64 x1, .int .i64 x2], .bool ak]) (W.drew.alloc o) := fun o => hlT _ ((Below.heap_alloc _ _ _ (by show bt < W.heap.size; omega)).trans (HB.out.block bt hlb))
      have l2 : ∀ o : Obj, (Instr.lookup 79 (.map (some bt)) (.agg #[.int .i64 c.cl, .int .i64 c.sq, .int .i64 c.op, .string c.k, .string c.v, .string c.o]) true).run Try.prog (W.alloc o).drew = .ok (.tuple #[.agg #[.int .i64 x1, .int .i64 x2], .bool ak]) (W.alloc o).drew := fun o => hlT _ ((Below.heap_alloc _ _ _ (by show bt < W.heap.size; omega)).trans (HB.out.block bt hlb))
      obtain ⟨W2, hW2⟩ : ∃ W2, W2 = (W.alloc (.cells #[.int .i64 x1, .int .i64 x2] 128)).drew := ⟨_, rfl⟩
      have HB2 : Hid (Below wr.heap.size wr W2) := by show Below _ _ _; rw [hW2]; exact (HB.out.alloc (by omega) _).drew
      have HC2 : Hid (Blk W2 wr.heap.size #[.int .i64 c.cl, .int .i64 c.sq, .int .i64 c.op, .string c.k, .string c.v, .string c.o] 63) := by show Blk _ _ _ _; rw [hW2]; exact (HC.out.alloc _).drew
      have HJ2 : Hid (Blk W2 jb #[.slice ea en ec, .slice (some ⟨b, off, none⟩) os.length oc, .map (some bt), .map (some bp), .map (some bl), .map (some bo)] 84) := by show Blk _ _ _ _; rw [hW2]; exact (HJB.out.alloc _).drew
      have hz2 : W2.heap.size = wr.heap.size + 2 := by rw [hW2]; show (W.alloc _).heap.size = _; simp; omega
      have HW2 : Hid (W2 = (W.alloc (.cells #[.int .i64 x1, .int .i64 x2] 128)).drew) := hW2
      have p0 : ∀ q, (Instr.lookup 80 (.map (some bp)) (.agg #[.int .i64 c.cl, .int .i64 c.sq, .int .i64 c.op, .string c.k, .string c.v, .string c.o]) true).run Try.prog (W2.drewN q) = .ok (.tuple #[.int .i64 y, .bool ag]) (W2.drewN q) := fun q => hlP _ (HB2.out.block bp hlp)
      have n1 : ¬ jb = W.heap.size := by omega
      have n2 : ¬ wr.heap.size = W.heap.size := by omega
      clear hW2 hlT hlP
      have HGO : Hid (∀ u : World, Below wr.heap.size wr u → u.heap[bp]? = wr.heap[bp]? → ∃ U, (Instr.mapUpdate 80 (.map (some bp)) (.agg #[.int .i64 c.cl, .int .i64 c.sq, .int .i64 c.op, .string c.k, .string c.v, .string c.o]) (.int .i64 k)).run Try.prog u = .ok () U ∧ PL U bp (k + 1) (os.take (k + 1)) ∧ TchT (fun j => j = bp) wr U) := fun u hb hu => by
        obtain ⟨U, r1, r2, r3⟩ := HMP.out.put lawC Try.underlying80 (by unfold maxLen; omega) c hcf k _ (tn_set f c k) u hu
        refine ⟨U, r1, ⟨_, r2, HFS.out⟩, ⟨r3.os.trans hb.os, r3.tape.trans hb.tape, r3.output.trans hb.output, Nat.le_trans hb.size r3.size, fun j hj hn => (r3.block j (Nat.lt_of_lt_of_le hj hb.size) (by simp; omega)).trans (hb.block j hj)⟩⟩
      go_upto_region 4 with (refine gate_ld 63 (.tmp 17) rfl ?_; refine wpList_load_mid rfl 63 (.tmp 17) rfl b (off + k * 6) rfl _ _ HR.out Try.underlying63 rfl infoCm ?_)
      rw [← hW]
      clear hW
      go_cut [6, 14] from 14 to 49 (fun x6 x14 wc => x6 = .bool ak ∧ x14 = .int .i64 k ∧ wc = W2)
      case first =>
        have c0 : W.cell? ⟨wr.heap.size, 0, none⟩ = some (.int .i64 c.cl) := HC.out.cell 0
        have c1 : W.cell? ⟨wr.heap.size, 1, none⟩ = some (.int .i64 c.sq) := HC.out.cell 1
        have c2 : W.cell? ⟨wr.heap.size, 2, none⟩ = some (.int .i64 c.op) := HC.out.cell 2
        have c3 : W.cell? ⟨wr.heap.size, 3, none⟩ = some (.string c.k) := HC.out.cell 3
        have c4 : W.cell? ⟨wr.heap.size, 4, none⟩ = some (.string c.v) := HC.out.cell 4
        have c5 : W.cell? ⟨wr.heap.size, 5, none⟩ = some (.string c.o) := HC.out.cell 5
        have j2 : W.cell? ⟨jb, 2, none⟩ = some (.map (some bt)) := HJB.out.cell 2
        go_region
        go_wp2_with fail
        go_meet
        exact ⟨rfl, rfl, HW2.out.symm⟩
      case rest =>
        obtain ⟨h6, h14, hwc⟩ := hcut
        rw [h6, h14, hwc]
        clear h6 h14 hwc l0 l1 l2 HW2 n1 n2 HC HJB HB
        clear hz
        clear W
        have d0 : W2.cell? ⟨wr.heap.size, 0, none⟩ = some (.int .i64 c.cl) := HC2.out.cell 0
        have d1 : W2.cell? ⟨wr.heap.size, 1, none⟩ = some (.int .i64 c.sq) := HC2.out.cell 1
        have d2 : W2.cell? ⟨wr.heap.size, 2, none⟩ = some (.int .i64 c.op) := HC2.out.cell 2
        have d3 : W2.cell? ⟨wr.heap.size, 3, none⟩ = some (.string c.k) := HC2.out.cell 3
        have d4 : W2.cell? ⟨wr.heap.size, 4, none⟩ = some (.string c.v) := HC2.out.cell 4
        have d5 : W2.cell? ⟨wr.heap.size, 5, none⟩ = some (.string c.o) := HC2.out.cell 5
        have j3 : W2.cell? ⟨jb, 3, none⟩ = some (.map (some bp)) := HJ2.out.cell 3
        cases ak
        · have HFk : Hid (F = k) := by show _ = _; rw [HF.out]; exact fst_hit HA.out hlt (by rw [HQ2.out]; rfl)
          go_wp2_with fail
          go_quiet (fail)
          go_wp2
          go_ret
          exact ⟨by rw [HFk.out]; rfl, fun hneg => absurd hneg (by rw [HFk.out]; omega), HT.out.trans (.below (below_dN HB2.out _))⟩
        · cases ag
          · have HN : Hid (∀ j, j < k + 1 → q2 es os j = false) := fun j hj => by
              by_cases e : j = k
              · subst e; rw [HQ2.out]; rfl
              · exact HA.out j (by omega)
            go_wp2_with fail
            go_quiet (fail)
            go_upto_region 8 with fail
            obtain ⟨W3, hW3⟩ : ∃ W3, W3 = W2.drewN nq := ⟨_, rfl⟩
            obtain ⟨U, hrun, hPU, hTU⟩ := HGO.out W3.drew (by rw [hW3]; exact (below_dN HB2.out _).drew) (by rw [hW3]; exact HB2.out.block bp hlp)
            have HPU : Hid (PL U bp (k + 1) (os.take (k + 1))) := hPU
            have HTU : Hid (TchT (fun j => j = bp) wr U) := hTU
            have HC3 : Hid (Blk W3 wr.heap.size #[.int .i64 c.cl, .int .i64 c.sq, .int .i64 c.op, .string c.k, .string c.v, .string c.o] 63) := by show Blk _ _ _ _; rw [hW3]; exact HC2.out
            have HJ3 : Hid (Blk W3 jb #[.slice ea en ec, .slice (some ⟨b, off, none⟩) os.length oc, .map (some bt), .map (some bp), .map (some bl), .map (some bo)] 84) := by show Blk _ _ _ _; rw [hW3]; exact HJ2.out
            rw [← hW3]
            clear hW3 hPU hTU p0 d0 d1 d2 d3 d4 d5 j3
            have f0 : W3.cell? ⟨wr.heap.size, 0, none⟩ = some (.int .i64 c.cl) := HC3.out.cell 0
            have f1 : W3.cell? ⟨wr.heap.size, 1, none⟩ = some (.int .i64 c.sq) := HC3.out.cell 1
            have f2 : W3.cell? ⟨wr.heap.size, 2, none⟩ = some (.int .i64 c.op) := HC3.out.cell 2
            have f3 : W3.cell? ⟨wr.heap.size, 3, none⟩ = some (.string c.k) := HC3.out.cell 3
            have f4 : W3.cell? ⟨wr.heap.size, 4, none⟩ = some (.string c.v) := HC3.out.cell 4
            have f5 : W3.cell? ⟨wr.heap.size, 5, none⟩ = some (.string c.o) := HC3.out.cell 5
            have i3 : W3.cell? ⟨jb, 3, none⟩ = some (.map (some bp)) := HJ3.out.cell 3
            go_region
            go_wp2_with fail
            go_roundw
            case rel => exact ⟨k + 1, by omega, by go_num, HN.out, HPU.out, HT.out.trans HTU.out⟩
            case measure => simp [RowKit.intOf]; omega
          · have HFk : Hid (F = k) := by show _ = _; rw [HF.out]; exact fst_hit HA.out hlt (by rw [HQ2.out]; rfl)
            go_wp2_with fail
            go_quiet (fail)
            go_wp2
            go_ret
            exact ⟨by rw [HFk.out]; rfl, fun hneg => absurd hneg (by rw [HFk.out]; omega), HT.out.trans (.below (below_dN HB2.out _))⟩
    · obtain rfl : k = os.length := by omega
      have HFk : Hid (F = -1) := by show _ = _; rw [HF.out]; exact fst_no HA.out
      rw [List.take_length] at HPk
      go_wp2
      go_ret
      exact ⟨by rw [HFk.out]; rfl, fun _ => HPk.out, HT.out⟩
end Go.Proofs.Ytnoihfincifphaa
