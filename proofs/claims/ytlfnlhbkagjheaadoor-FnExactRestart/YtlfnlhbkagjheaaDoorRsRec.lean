/-
  spec.Recover.
-/
import Derived.Test.YtlfnlhbkagjheaaDoorRsCut
import Derived.Test.YtlfnlhbkagjheaaDoorRsFits
import Derived.Test.YtlfnlhbkagjheaaDoorRsThen
import Derived.Test.YtlfnlhbkagjheaaDoorRsRead
import Derived.Test.YtlfnlhbkagjheaaDoorRcAns
import Derived.Test.YtlfnlhbkagjheaaDoorRcStop
import Derived.Deep.LoopGhost
namespace Go.Proofs.YtlfnlhbkagjheaaDoor
open Go.RowKit
set_option linter.unusedVariables false
set_option linter.unusedSimpArgs false

theorem cells_all (r : Rec) : r.cells.toArray.all (·.oneCell') = true := by simp [Rec.cells, Value.oneCell']
/-- what a round of spec finds -/
theorem stop_cut {r : List Int} {s : Stt} (h : cutC r ≠ 0) : oneE r s ≠ 0 ∧ stopC (oneE r s) = (cutC r : Nat) ∧ (cutC r = 1 ∨ cutC r = 2) := by
  have h12 : cutC r = 1 ∨ cutC r = 2 := by
    unfold cutC at h ⊢
    repeat' split
    all_goals simp_all
  have hO : oneE r s = cutC r + 6 := by unfold oneE; rw [if_pos h]
  rw [hO]
  refine ⟨by omega, ?_, h12⟩
  rcases h12 with e | e <;> rw [e] <;> rfl
theorem stop_read {r : List Int} {s : Stt} (h1 : cutC r = 0) (h : readC (r.take (cutN r)) ≠ 0) : oneE r s ≠ 0 ∧ stopC (oneE r s) = (readC (r.take (cutN r)) : Nat) ∧ readC (r.take (cutN r)) ≤ 4 := by
  have hS := sumC_cut h1
  have hO : oneE r s = if readE (r.take (cutN r)) ≠ 0 then readE (r.take (cutN r)) else if fitsB s (frec (r.take (cutN r))) = false then 9 else 0 := by unfold oneE; rw [if_neg (fun x => x h1)]
  rw [hO]
  generalize r.take (cutN r) = f at *
  have h4 := openC_le f 11 13
  have hle : readC f ≤ 4 := by unfold readC; repeat' split
                               all_goals omega
  have key : (readE f = 3 ∧ readC f = 3) ∨ ((readE f = 4 ∨ readE f = 5 ∨ readE f = 6) ∧ readC f = 4) := by
    unfold readC openC at h ⊢
    unfold readE
    rw [hS] at h ⊢
    repeat' split
    all_goals simp_all
  rcases key with ⟨e1, e2⟩ | ⟨e1 | e1 | e1, e2⟩ <;> rw [e1, e2] <;> simp [stopC] <;> omega
theorem read_ok {f : List Int} (h : readC f = 0) : readE f = 0 := by
  unfold readC openC at h
  unfold readE
  repeat' split at h
  all_goals simp_all
theorem stop_fits {r : List Int} {s : Stt} (h1 : cutC r = 0) (h2 : readC (r.take (cutN r)) = 0) (h3 : fitsB s (frec (r.take (cutN r))) = false) : oneE r s = 9 := by
  unfold oneE
  rw [if_neg (fun x => x h1), if_neg (fun x => x (read_ok h2)), if_pos h3]
theorem go_fits {r : List Int} {s : Stt} (h1 : cutC r = 0) (h2 : readC (r.take (cutN r)) = 0) (h3 : fitsB s (frec (r.take (cutN r))) = true) : oneE r s = 0 := by
  unfold oneE
  rw [if_neg (fun x => x h1), if_neg (fun x => x (read_ok h2)), if_neg (by rw [h3]; decide)]
theorem cut_ix {f : List Int} {s : Stt} (h : fitsB s (frec f) = true) (hk : (frec f).ki = 3) : 0 ≤ (frec f).ix ∧ (frec f).ix ≤ (s.log.length : Int) := by
  constructor
  · unfold frec rdRec
    split
    · exact Int.le_refl 0
    split
    · exact Int.natCast_nonneg _
    · exact Int.natCast_nonneg _
  · unfold fitsB at h
    rw [hk] at h
    simpa using h
theorem five_cells {w : World} {q a1 a2 a3 a4 a5 k : Nat} {x1 x2 x3 x4 x5 : Value} (h : k ≠ q) : (((((w.setCell ⟨q, a1, none⟩ x1).setCell ⟨q, a2, none⟩ x2).setCell ⟨q, a3, none⟩ x3).setCell ⟨q, a4, none⟩ x4).setCell ⟨q, a5, none⟩ x5).heap[k]? = w.heap[k]? := by
  have e := fun (u : World) (i : Nat) (x : Value) => Below.heap_setCell u ⟨q, i, none⟩ x k h
  exact (e _ _ _).trans ((e _ _ _).trans ((e _ _ _).trans ((e _ _ _).trans (e _ _ _))))
theorem below_five {B : Nat} {w0 w : World} {q a1 a2 a3 a4 a5 : Nat} {x1 x2 x3 x4 x5 : Value} (h : Below B w0 w) (hq : B ≤ q) : Below B w0 (((((w.setCell ⟨q, a1, none⟩ x1).setCell ⟨q, a2, none⟩ x2).setCell ⟨q, a3, none⟩ x3).setCell ⟨q, a4, none⟩ x4).setCell ⟨q, a5, none⟩ x5) :=
  below_one _ (below_one _ (below_one _ (below_one _ (below_one _ h hq) hq) hq) hq) hq

set_option maxHeartbeats 16000000 in
set_option maxRecDepth 100000 in
theorem recoverS_any (a : Option Addr) (c : Nat) (l : List Int) (w : World) (hv : Bs w (.slice a l.length c) l) (hc : l.length ≤ c) (hL : l.length ≤ 1048576) :
    Calls Tryd.prog 5 #[.slice a l.length c] w fun e w' => ∃ lg, e = .returned (rcvV (rcv l) lg) ∧ OwnE w' w.heap.size lg (rcv l).2.2.2.log ∧ Below w.heap.size w w' := by
  have HV : Hid (Bs w (.slice a l.length c) l) := hv
  have HFit : Hid (Fits w.heap.size (.slice a l.length c) l) := ⟨_, _, _, rfl, hc, hv.lt⟩
  have HU : Hid (Und l (rcv l) 0 0 ⟨0, 0, []⟩) := Und.start l
  have hL' : ¬ (1048576 : Int) < (l.length : Int) := by omega
  clear hv
  generalize rcv l = R at HU ⊢
  go_enter Tryd.func5, Tryd.ntmps5
  go_wp2_with (have hBA := HU; refine gate_st 27 (.tmp 3) _ rfl ?_; clear hBA; refine wpl_store_last rfl 27 (.tmp 3) _ rfl (w.heap.size + 1) rfl (by simp) rfl infoRcv rfl rfl (by simp [Value.oneCell']) ?_)
  go_loopg [4] l.length (fun k n4 wr => ∃ (g n : Nat) (s : Stt), k = l.length - g ∧ g ≤ l.length ∧ 9 * n ≤ g ∧ s.log.length ≤ n ∧ Und l R g n s ∧ Rc wr (w.heap.size + 1) 0 g n s ∧ Blk wr w.heap.size #[.int .i64 0, .int .i64 0, .int .i64 0, .int .i64 0, .int .i64 0, .slice none 0 0] 27 ∧ Below w.heap.size w wr)
  case atStart =>
    refine ⟨0, 0, ⟨0, 0, []⟩, rfl, Nat.zero_le _, Nat.le_refl _, Nat.le_refl _, HU.out, ⟨_, Blk.new' _ _ _ (by simp), OwnE.nil _ _⟩, (Blk.new _ _ _).alloc _, ((Below.refl _ _).alloc (Nat.le_refl _) _).alloc (by simp) _⟩
  case round =>
    obtain ⟨g, n, s, hk, hgl, hng, hsn, hund, hrc, BZ, hbl⟩ := hrel
    have HUN : Hid (Und l R g n s) := hund
    have HBL : Hid (Below w.heap.size w wr) := hbl
    have HK : Hid (gk = l.length - g) := hk
    obtain ⟨lg, BQ, HO⟩ := hrc
    obtain ⟨la, lc, elg⟩ := HO.shape
    subst elg
    have cq := BQ.cell
    have HOW : Hid (OwnE wr ((w.heap.size + 1) + 1) (.slice la s.log.length lc) s.log) := HO
    have HBZ : Hid (Blk wr w.heap.size #[.int .i64 0, .int .i64 0, .int .i64 0, .int .i64 0, .int .i64 0, .slice none 0 0] 27) := BZ
    have HBQ : Hid (Blk wr (w.heap.size + 1) #[.int .i64 0, .int .i64 (g : Nat), .int .i64 (n : Nat), .int .i64 s.t, .int .i64 s.v, .slice la s.log.length lc] 27) := BQ
    clear HO hund hbl hk BZ BQ
    have hsz := HBL.out.size
    have hbq := HBQ.out.lt
    have hbs := bs_below HV.out HFit.out HBL.out
    have HCut : Hid (Calls Tryd.prog 22 #[.slice a l.length c, .int .i64 (g : Int)] wr _) := l2cut_any a c l g wr hbs hgl hL
    by_cases h0 : g = l.length
    · have hR := HUN.out.done (by omega)
      subst hR
      have hP : cutP l g = (-1, g) := by unfold cutP; rw [if_pos h0]
      rw [hP] at HCut
      clear hP hbs h0
      go_wp2_with (first
        | (go_at_call 22; refine Calls.mono HCut.out ?_; rintro e wq ⟨rfl, hwq⟩; obtain rfl := hwq.symm)
        | (have hBA := HBQ; refine gate_ld 27 (.tmp 3) rfl ?_; clear hBA; refine wpl_load_blk rfl 27 (.tmp 3) rfl (w.heap.size + 1) rfl HBQ.out Tryd.underlying27 rfl infoRcv rfl ?_)
        | (have hBA := HBQ; refine gate_st 27 (.tmp 2) _ rfl ?_; clear hBA; refine wpl_store_blk rfl 27 (.tmp 2) _ rfl (w.heap.size) rfl rfl HBZ.out infoRcv rfl rfl (by simp [Value.oneCell']) ?_))
      exact bodyPost_ret (results_blk Tryd.results5 rfl (HBZ.out.row _) Tryd.underlying27 rfl infoRcv rfl) rfl ⟨.slice la s.log.length lc, rfl, (HOW.out.block fun k hk => setRow_other _ _ _ _ (by have := (HOW.out.2.lt k hk).1; omega)).le (by omega), below_row HBL.out (Nat.le_refl _) _⟩
    have hg : g < l.length := by omega
    by_cases h1 : cutC (l.drop g) = 0
    case neg =>
      obtain ⟨ho, hst, h12⟩ := stop_cut (s := s) h1
      have hR := HUN.out.stop hg ho
      have hP : cutP l g = (((cutC (l.drop g) : Nat) : Int), g) := by unfold cutP; rw [if_neg h0, if_pos h1]
      rw [hP] at HCut
      generalize oneE (l.drop g) s = E at hR hst ho
      generalize cutC (l.drop g) = CC at *
      subst hR
      have HST : Hid (stopC E = (CC : Int)) := hst
      have q1 : ¬ ((CC : Int) < 0) := by omega
      have q2 : ((CC : Int) == 0) = false := by rw [beq_eq_false_iff_ne]; omega
      have q3 : ((CC : Int) != 0) = true := by simp; omega
      clear hP hbs h0 h1 ho hst h12
      go_wp2_with (first
        | (go_at_call 22; refine Calls.mono HCut.out ?_; rintro e wq ⟨rfl, hwq⟩; obtain rfl := hwq.symm)
        | (have hBA := HBQ; refine gate_st 55 (.tmp 6) _ rfl ?_; clear hBA; refine wpl_store_last rfl 55 (.tmp 6) _ rfl (wr.heap.size) rfl rfl rfl infoRec11 rfl rfl (by simp [Value.oneCell']) ?_; obtain ⟨W1, hW1⟩ : ∃ W1, W1 = wr.alloc (.cells #[.int .i64 0, .int .i64 0, .int .i64 0, .int .i64 0, .int .i64 0, .int .i64 0, .int .i64 0, .int .i64 0, .string ⟨#[]⟩, .string ⟨#[]⟩, .string ⟨#[]⟩] 55) := ⟨_, rfl⟩; rw [← hW1]; have HB1 : Hid (Below w.heap.size w W1) := (by rw [hW1]; exact HBL.out.alloc HBL.out.size _); have HQ1 : Hid (Blk W1 (w.heap.size + 1) #[.int .i64 0, .int .i64 (g : Nat), .int .i64 (n : Nat), .int .i64 s.t, .int .i64 s.v, .slice la s.log.length lc] 27) := (by rw [hW1]; exact HBQ.out.alloc _); have HZ1 : Hid (Blk W1 w.heap.size #[.int .i64 0, .int .i64 0, .int .i64 0, .int .i64 0, .int .i64 0, .slice none 0 0] 27) := (by rw [hW1]; exact HBZ.out.alloc _); have HR1 : Hid (Blk W1 wr.heap.size #[.int .i64 0, .int .i64 0, .int .i64 0, .int .i64 0, .int .i64 0, .int .i64 0, .int .i64 0, .int .i64 0, .string ⟨#[]⟩, .string ⟨#[]⟩, .string ⟨#[]⟩] 55) := (by rw [hW1]; exact Blk.new _ _ _); have HO1 : Hid (OwnE W1 ((w.heap.size + 1) + 1) (.slice la s.log.length lc) s.log) := (by rw [hW1]; exact HOW.out.below ((Below.refl _ _).alloc (Nat.le_refl _) _)); have cq1 := HQ1.out.cell; have fq1 := HQ1.out.free; clear hW1 cq; have HQ9 : Hid (Blk (W1.setCell ⟨(w.heap.size + 1), 0, none⟩ (.int .i64 (CC : Int))) (w.heap.size + 1) #[.int .i64 (CC : Int), .int .i64 (g : Nat), .int .i64 (n : Nat), .int .i64 s.t, .int .i64 s.v, .slice la s.log.length lc] 27) := HQ1.out.set 0 _; have HZ9 : Hid (Blk (W1.setCell ⟨(w.heap.size + 1), 0, none⟩ (.int .i64 (CC : Int))) w.heap.size #[.int .i64 0, .int .i64 0, .int .i64 0, .int .i64 0, .int .i64 0, .slice none 0 0] 27) := HZ1.out.set_other _ (show w.heap.size ≠ (w.heap.size + 1) by omega))
        | (have hBA := HQ9; refine gate_ld 27 (.tmp 3) rfl ?_; clear hBA; refine wpl_load_blk rfl 27 (.tmp 3) rfl (w.heap.size + 1) rfl HQ9.out Tryd.underlying27 rfl infoRcv rfl ?_)
        | (have hBA := HQ9; refine gate_st 27 (.tmp 2) _ rfl ?_; clear hBA; refine wpl_store_blk rfl 27 (.tmp 2) _ rfl (w.heap.size) rfl rfl HZ9.out infoRcv rfl rfl (by simp [Value.oneCell']) ?_))
      exact bodyPost_ret (results_blk Tryd.results5 rfl (HZ9.out.row _) Tryd.underlying27 rfl infoRcv rfl) rfl ⟨.slice la s.log.length lc, by first | rfl | (unfold rcvV; rw [HST.out]), (HO1.out.block fun k hk => (setRow_other _ _ _ _ (by have := (HO1.out.2.lt k hk).1; omega)).trans (Below.heap_setCell W1 ⟨(w.heap.size + 1), 0, none⟩ _ k (by have := (HO1.out.2.lt k hk).1; show k ≠ (w.heap.size + 1); omega))).le (by omega), below_row (below_one _ HB1.out (by omega)) (Nat.le_refl _) _⟩
    obtain ⟨z1, z2, z3, z4, z5⟩ := cutC_zero h1
    have hP : cutP l g = (0, g + cutN (l.drop g)) := by unfold cutP; rw [if_neg h0, if_neg (fun x => x h1)]
    rw [hP] at HCut
    obtain ⟨b0, off, ea⟩ := (show ∃ b off, a = some ⟨b, off, none⟩ from by
      obtain ⟨_, _, a', c', e, hcell⟩ := hbs
      injection e with e1 e2 e3
      subst e1
      obtain ⟨b, off, rfl, _⟩ := hcell 0 (by omega)
      exact ⟨b, off, rfl⟩)
    subst ea
    have hgo := fun h => HUN.out.go (s := s) hg h
    have hstop := fun h => HUN.out.stop (s := s) hg h
    have hrd := fun (h : readC ((l.drop g).take (cutN (l.drop g))) ≠ 0) => stop_read (s := s) h1 h
    have hft := fun h2 h3 => stop_fits (r := l.drop g) (s := s) h1 h2 h3
    have hgf := fun h2 h3 => go_fits (r := l.drop g) (s := s) h1 h2 h3
    rw [List.length_drop] at z4
    have hdr := (hbs.drop hc hbs.lt g (by omega)).1
    have es : sliced (some ⟨b0, off, none⟩) g l.length c 1 = .slice (some ⟨b0, off + g, none⟩) (l.length - g) (c - g) := by simp [sliced, Addr.add, show c ≠ g by omega]
    rw [es] at hdr
    have hft2 : ((l.drop g).take (cutN (l.drop g))).length = cutN (l.drop g) := by rw [List.length_take, List.length_drop]; omega
    have hbt := hdr.take (cutN (l.drop g)) (by rw [List.length_drop]; omega)
    have HL := thenS_len s (frec ((l.drop g).take (cutN (l.drop g))))
    have hki := frec_ki ((l.drop g).take (cutN (l.drop g)))
    have hfi := frec_fits ((l.drop g).take (cutN (l.drop g)))
    have hcx := fun h hk => cut_ix (f := (l.drop g).take (cutN (l.drop g))) (s := s) h hk
    have HRd : Hid (∀ u : World, Below w.heap.size w u → Calls Tryd.prog 23 #[.slice (some ⟨b0, off + g, none⟩) (cutN (l.drop g)) (c - g)] u fun e w' => e = .returned (.tuple #[readV ((l.drop g).take (cutN (l.drop g))), .int .i64 (readC ((l.drop g).take (cutN (l.drop g))) : Nat)]) ∧ Below u.heap.size u w') := fun u hb => by
      have hbu := bs_below HV.out HFit.out hb
      have hdu := (hbu.drop hc hbu.lt g (by omega)).1
      rw [es] at hdu
      have htu := hdu.take (cutN (l.drop g)) (by rw [List.length_drop]; omega)
      have hx := l2read_any b0 (off + g) (c - g) ((l.drop g).take (cutN (l.drop g))) u
      rw [hft2] at hx
      exact hx htu (by omega) (by omega)
    have t1 : ∀ wx, (Instr.slice 22 (.slice (some ⟨b0, off, none⟩) l.length c) (some (.int .i64 (g : Int))) (some (.int .i64 ((g : Int) + (cutN (l.drop g) : Int)))) none).run Tryd.prog wx = .ok (.slice (some ⟨b0, off + g, none⟩) (cutN (l.drop g)) (c - g)) wx := fun wx => by
      have hx := slice_lh (some ⟨b0, off, none⟩) l.length c (g : Int) ((g : Int) + (cutN (l.drop g) : Int)) (by omega) (by omega) (by omega) wx
      rw [hx]
      have e1 : ((g : Int) + (cutN (l.drop g) : Int)).toNat = g + cutN (l.drop g) := by omega
      simp [sliced, Addr.add, show c ≠ g by omega, e1]
    clear hdr hbt hft2 es hbs h1 z5 hP h0
    generalize oneE (l.drop g) s = E at *
    generalize cutN (l.drop g) = cn at *
    generalize (l.drop g).take cn = f at *
    have hcn : g + cn ≤ l.length := by omega
    by_cases h2 : readC f = 0
    case neg =>
      obtain ⟨ho, hst, h4⟩ := hrd h2
      have hR := hstop ho
      have hVV : readV f = .agg #[.int .i64 0, .int .i64 0, .int .i64 0, .int .i64 0, .int .i64 0, .int .i64 0, .int .i64 0, .int .i64 0, .string ⟨#[]⟩, .string ⟨#[]⟩, .string ⟨#[]⟩] := by unfold readV; rw [if_neg h2]
      rw [hVV] at HRd
      have h2' : ¬ (readC f : Int) = 0 := by omega
      generalize readC f = RC at *
      subst hR
      have HST : Hid (stopC E = (RC : Int)) := hst
      have q2 : ((RC : Int) == 0) = false := by rw [beq_eq_false_iff_ne]; exact h2'
      have q3 : ((RC : Int) != 0) = true := by rw [bne_iff_ne]; exact h2'
      clear ho hst h4 hVV hgo hstop hrd hft hgf hcx hki hfi HL h2 h2' HUN
      go_wp2_with (first
        | (go_at_call 22; refine Calls.mono HCut.out ?_; rintro e wq ⟨rfl, hwq⟩; obtain rfl := hwq.symm)
        | (have hBA := HBQ; refine gate_st 55 (.tmp 6) _ rfl ?_; clear hBA; refine wpl_store_last rfl 55 (.tmp 6) _ rfl (wr.heap.size) rfl rfl rfl infoRec11 rfl rfl (by simp [Value.oneCell']) ?_; obtain ⟨W1, hW1⟩ : ∃ W1, W1 = wr.alloc (.cells #[.int .i64 0, .int .i64 0, .int .i64 0, .int .i64 0, .int .i64 0, .int .i64 0, .int .i64 0, .int .i64 0, .string ⟨#[]⟩, .string ⟨#[]⟩, .string ⟨#[]⟩] 55) := ⟨_, rfl⟩; rw [← hW1]; have HB1 : Hid (Below w.heap.size w W1) := (by rw [hW1]; exact HBL.out.alloc HBL.out.size _); have HQ1 : Hid (Blk W1 (w.heap.size + 1) #[.int .i64 0, .int .i64 (g : Nat), .int .i64 (n : Nat), .int .i64 s.t, .int .i64 s.v, .slice la s.log.length lc] 27) := (by rw [hW1]; exact HBQ.out.alloc _); have HZ1 : Hid (Blk W1 w.heap.size #[.int .i64 0, .int .i64 0, .int .i64 0, .int .i64 0, .int .i64 0, .slice none 0 0] 27) := (by rw [hW1]; exact HBZ.out.alloc _); have HR1 : Hid (Blk W1 wr.heap.size #[.int .i64 0, .int .i64 0, .int .i64 0, .int .i64 0, .int .i64 0, .int .i64 0, .int .i64 0, .int .i64 0, .string ⟨#[]⟩, .string ⟨#[]⟩, .string ⟨#[]⟩] 55) := (by rw [hW1]; exact Blk.new _ _ _); have HO1 : Hid (OwnE W1 ((w.heap.size + 1) + 1) (.slice la s.log.length lc) s.log) := (by rw [hW1]; exact HOW.out.below ((Below.refl _ _).alloc (Nat.le_refl _) _)); have cq1 := HQ1.out.cell; have fq1 := HQ1.out.free; clear hW1 cq)
        | (go_at_call 23; refine Calls.mono (HRd.out _ HB1.out) ?_; rintro e w2 ⟨rfl, hb2⟩; have hz2 := hb2.size; have hl1 := HR1.out.lt; have HB2 : Hid (Below w.heap.size w w2) := HB1.out.trans (hb2.mono HB1.out.size); have HQ2 : Hid (Blk w2 (w.heap.size + 1) #[.int .i64 0, .int .i64 (g : Nat), .int .i64 (n : Nat), .int .i64 s.t, .int .i64 s.v, .slice la s.log.length lc] 27) := HQ1.out.below hb2 HQ1.out.lt; have HZ2 : Hid (Blk w2 w.heap.size #[.int .i64 0, .int .i64 0, .int .i64 0, .int .i64 0, .int .i64 0, .slice none 0 0] 27) := HZ1.out.below hb2 HZ1.out.lt; have HR2 : Hid (Blk w2 wr.heap.size #[.int .i64 0, .int .i64 0, .int .i64 0, .int .i64 0, .int .i64 0, .int .i64 0, .int .i64 0, .int .i64 0, .string ⟨#[]⟩, .string ⟨#[]⟩, .string ⟨#[]⟩] 55) := HR1.out.below hb2 HR1.out.lt; have HO2 : Hid (OwnE w2 ((w.heap.size + 1) + 1) (.slice la s.log.length lc) s.log) := HO1.out.below hb2; clear hb2 cq1 fq1)
        | (have hBA := HR2; refine gate_st 55 (.tmp 6) _ rfl ?_; clear hBA; refine wpl_store_blk rfl 55 (.tmp 6) _ rfl (wr.heap.size) rfl rfl HR2.out infoRec11 rfl rfl (by simp [Value.oneCell']) ?_; obtain ⟨W3, hW3⟩ : ∃ W3, W3 = w2.setRow wr.heap.size #[.int .i64 0, .int .i64 0, .int .i64 0, .int .i64 0, .int .i64 0, .int .i64 0, .int .i64 0, .int .i64 0, .string ⟨#[]⟩, .string ⟨#[]⟩, .string ⟨#[]⟩] := ⟨_, rfl⟩; rw [← hW3]; have HB3 : Hid (Below w.heap.size w W3) := (by rw [hW3]; exact below_row HB2.out HBL.out.size _); have HQ3 : Hid (Blk W3 (w.heap.size + 1) #[.int .i64 0, .int .i64 (g : Nat), .int .i64 (n : Nat), .int .i64 s.t, .int .i64 s.v, .slice la s.log.length lc] 27) := (by rw [hW3]; exact HQ2.out.row_other _ (by omega)); have HZ3 : Hid (Blk W3 w.heap.size #[.int .i64 0, .int .i64 0, .int .i64 0, .int .i64 0, .int .i64 0, .slice none 0 0] 27) := (by rw [hW3]; exact HZ2.out.row_other _ (by omega)); have HR3 : Hid (Blk W3 wr.heap.size #[.int .i64 0, .int .i64 0, .int .i64 0, .int .i64 0, .int .i64 0, .int .i64 0, .int .i64 0, .int .i64 0, .string ⟨#[]⟩, .string ⟨#[]⟩, .string ⟨#[]⟩] 55) := (by rw [hW3]; exact HR2.out.row _); have HO3 : Hid (OwnE W3 ((w.heap.size + 1) + 1) (.slice la s.log.length lc) s.log) := (by rw [hW3]; exact HO2.out.block fun k hk => setRow_other _ _ _ _ (by have := (HOW.out.2.lt k hk).2; omega)); have cq3 := HQ3.out.cell; have fq3 := HQ3.out.free; have hl3 := HR3.out.lt; clear hW3; have HQ9 : Hid (Blk (W3.setCell ⟨(w.heap.size + 1), 0, none⟩ (.int .i64 (RC : Int))) (w.heap.size + 1) #[.int .i64 (RC : Int), .int .i64 (g : Nat), .int .i64 (n : Nat), .int .i64 s.t, .int .i64 s.v, .slice la s.log.length lc] 27) := HQ3.out.set 0 _; have HZ9 : Hid (Blk (W3.setCell ⟨(w.heap.size + 1), 0, none⟩ (.int .i64 (RC : Int))) w.heap.size #[.int .i64 0, .int .i64 0, .int .i64 0, .int .i64 0, .int .i64 0, .slice none 0 0] 27) := HZ3.out.set_other _ (show w.heap.size ≠ (w.heap.size + 1) by omega))
        | (have hBA := HQ9; refine gate_ld 27 (.tmp 3) rfl ?_; clear hBA; refine wpl_load_blk rfl 27 (.tmp 3) rfl (w.heap.size + 1) rfl HQ9.out Tryd.underlying27 rfl infoRcv rfl ?_)
        | (have hBA := HQ9; refine gate_st 27 (.tmp 2) _ rfl ?_; clear hBA; refine wpl_store_blk rfl 27 (.tmp 2) _ rfl (w.heap.size) rfl rfl HZ9.out infoRcv rfl rfl (by simp [Value.oneCell']) ?_))
      exact bodyPost_ret (results_blk Tryd.results5 rfl (HZ9.out.row _) Tryd.underlying27 rfl infoRcv rfl) rfl ⟨.slice la s.log.length lc, by first | rfl | (unfold rcvV; rw [HST.out]), (HO3.out.block fun k hk => (setRow_other _ _ _ _ (by have := (HO3.out.2.lt k hk).1; omega)).trans (Below.heap_setCell W3 ⟨(w.heap.size + 1), 0, none⟩ _ k (by have := (HO3.out.2.lt k hk).1; show k ≠ (w.heap.size + 1); omega))).le (by omega), below_row (below_one _ HB3.out (by omega)) (Nat.le_refl _) _⟩
    have hVV : readV f = .agg (frec f).cells.toArray := by unfold readV; rw [if_pos h2]
    rw [hVV, h2] at HRd
    have hCs : (frec f).cells.toArray.size = 11 := rfl
    have hCa := cells_all (frec f)
    have HFi : Hid (∀ u : World, Es u (.slice la s.log.length lc) s.log → Calls Tryd.prog 24 #[.agg #[.int .i64 s.t, .int .i64 s.v, .slice la s.log.length lc], .agg (frec f).cells.toArray] u fun e w' => e = .returned (.bool (fitsB s (frec f))) ∧ Below u.heap.size u w') := fun u hu => l2fits_any s _ (frec f) u hki hu (by omega)
    have hfe := hft h2
    have hge := hgf h2
    cases hF : fitsB s (frec f)
    · rw [hF] at HFi
      have hE := hfe hF
      subst hE
      have hR := hstop (by decide)
      subst hR
      have HST : Hid (stopC 9 = 5) := rfl
      generalize (frec f).cells.toArray = C at *
      clear hgo hstop hrd hft hgf hcx hki hfi HL h2 hVV hfe hge hF HUN
      go_wp2_with (first
        | (go_at_call 22; refine Calls.mono HCut.out ?_; rintro e wq ⟨rfl, hwq⟩; obtain rfl := hwq.symm)
        | (have hBA := HBQ; refine gate_st 55 (.tmp 6) _ rfl ?_; clear hBA; refine wpl_store_last rfl 55 (.tmp 6) _ rfl (wr.heap.size) rfl rfl rfl infoRec11 rfl rfl (by simp [Value.oneCell']) ?_; obtain ⟨W1, hW1⟩ : ∃ W1, W1 = wr.alloc (.cells #[.int .i64 0, .int .i64 0, .int .i64 0, .int .i64 0, .int .i64 0, .int .i64 0, .int .i64 0, .int .i64 0, .string ⟨#[]⟩, .string ⟨#[]⟩, .string ⟨#[]⟩] 55) := ⟨_, rfl⟩; rw [← hW1]; have HB1 : Hid (Below w.heap.size w W1) := (by rw [hW1]; exact HBL.out.alloc HBL.out.size _); have HQ1 : Hid (Blk W1 (w.heap.size + 1) #[.int .i64 0, .int .i64 (g : Nat), .int .i64 (n : Nat), .int .i64 s.t, .int .i64 s.v, .slice la s.log.length lc] 27) := (by rw [hW1]; exact HBQ.out.alloc _); have HZ1 : Hid (Blk W1 w.heap.size #[.int .i64 0, .int .i64 0, .int .i64 0, .int .i64 0, .int .i64 0, .slice none 0 0] 27) := (by rw [hW1]; exact HBZ.out.alloc _); have HR1 : Hid (Blk W1 wr.heap.size #[.int .i64 0, .int .i64 0, .int .i64 0, .int .i64 0, .int .i64 0, .int .i64 0, .int .i64 0, .int .i64 0, .string ⟨#[]⟩, .string ⟨#[]⟩, .string ⟨#[]⟩] 55) := (by rw [hW1]; exact Blk.new _ _ _); have HO1 : Hid (OwnE W1 ((w.heap.size + 1) + 1) (.slice la s.log.length lc) s.log) := (by rw [hW1]; exact HOW.out.below ((Below.refl _ _).alloc (Nat.le_refl _) _)); have cq1 := HQ1.out.cell; have fq1 := HQ1.out.free; clear hW1 cq)
        | (go_at_call 23; refine Calls.mono (HRd.out _ HB1.out) ?_; rintro e w2 ⟨rfl, hb2⟩; have hz2 := hb2.size; have hl1 := HR1.out.lt; have HB2 : Hid (Below w.heap.size w w2) := HB1.out.trans (hb2.mono HB1.out.size); have HQ2 : Hid (Blk w2 (w.heap.size + 1) #[.int .i64 0, .int .i64 (g : Nat), .int .i64 (n : Nat), .int .i64 s.t, .int .i64 s.v, .slice la s.log.length lc] 27) := HQ1.out.below hb2 HQ1.out.lt; have HZ2 : Hid (Blk w2 w.heap.size #[.int .i64 0, .int .i64 0, .int .i64 0, .int .i64 0, .int .i64 0, .slice none 0 0] 27) := HZ1.out.below hb2 HZ1.out.lt; have HR2 : Hid (Blk w2 wr.heap.size #[.int .i64 0, .int .i64 0, .int .i64 0, .int .i64 0, .int .i64 0, .int .i64 0, .int .i64 0, .int .i64 0, .string ⟨#[]⟩, .string ⟨#[]⟩, .string ⟨#[]⟩] 55) := HR1.out.below hb2 HR1.out.lt; have HO2 : Hid (OwnE w2 ((w.heap.size + 1) + 1) (.slice la s.log.length lc) s.log) := HO1.out.below hb2; clear hb2 cq1 fq1)
        | (have hBA := HR2; refine gate_st 55 (.tmp 6) _ rfl ?_; clear hBA; refine wpl_store_blk rfl 55 (.tmp 6) _ rfl (wr.heap.size) rfl rfl HR2.out infoRec11 hCs.symm hCs.symm hCa ?_; obtain ⟨W3, hW3⟩ : ∃ W3, W3 = w2.setRow wr.heap.size C := ⟨_, rfl⟩; rw [← hW3]; have HB3 : Hid (Below w.heap.size w W3) := (by rw [hW3]; exact below_row HB2.out HBL.out.size _); have HQ3 : Hid (Blk W3 (w.heap.size + 1) #[.int .i64 0, .int .i64 (g : Nat), .int .i64 (n : Nat), .int .i64 s.t, .int .i64 s.v, .slice la s.log.length lc] 27) := (by rw [hW3]; exact HQ2.out.row_other _ (by omega)); have HZ3 : Hid (Blk W3 w.heap.size #[.int .i64 0, .int .i64 0, .int .i64 0, .int .i64 0, .int .i64 0, .slice none 0 0] 27) := (by rw [hW3]; exact HZ2.out.row_other _ (by omega)); have HR3 : Hid (Blk W3 wr.heap.size C 55) := (by rw [hW3]; exact HR2.out.row _); have HO3 : Hid (OwnE W3 ((w.heap.size + 1) + 1) (.slice la s.log.length lc) s.log) := (by rw [hW3]; exact HO2.out.block fun k hk => setRow_other _ _ _ _ (by have := (HOW.out.2.lt k hk).2; omega)); have cq3 := HQ3.out.cell; have fq3 := HQ3.out.free; have hl3 := HR3.out.lt; clear hW3)
        | (have hBA := HR3; refine gate_ld 55 (.tmp 6) rfl ?_; clear hBA; refine wpl_load_blkG rfl rfl 55 (.tmp 6) rfl (wr.heap.size) rfl HR3.out Tryd.underlying55 rfl infoRec11 hCs.symm ?_)
        | (go_at_call 24; refine Calls.mono (HFi.out _ (HO3.out.es (by unfold maxLen; omega))) ?_; rintro e w4 ⟨rfl, hb4⟩; have hz4 := hb4.size; have HB4 : Hid (Below w.heap.size w w4) := HB3.out.trans (hb4.mono HB3.out.size); have HQ4 : Hid (Blk w4 (w.heap.size + 1) #[.int .i64 0, .int .i64 (g : Nat), .int .i64 (n : Nat), .int .i64 s.t, .int .i64 s.v, .slice la s.log.length lc] 27) := HQ3.out.below hb4 HQ3.out.lt; have HZ4 : Hid (Blk w4 w.heap.size #[.int .i64 0, .int .i64 0, .int .i64 0, .int .i64 0, .int .i64 0, .slice none 0 0] 27) := HZ3.out.below hb4 HZ3.out.lt; have HR4 : Hid (Blk w4 wr.heap.size C 55) := HR3.out.below hb4 HR3.out.lt; have HO4 : Hid (OwnE w4 ((w.heap.size + 1) + 1) (.slice la s.log.length lc) s.log) := HO3.out.below hb4; have cq4 := HQ4.out.cell; have fq4 := HQ4.out.free; clear hb4 cq3 fq3; have HQ9 : Hid (Blk (w4.setCell ⟨(w.heap.size + 1), 0, none⟩ (.int .i64 5)) (w.heap.size + 1) #[.int .i64 5, .int .i64 (g : Nat), .int .i64 (n : Nat), .int .i64 s.t, .int .i64 s.v, .slice la s.log.length lc] 27) := HQ4.out.set 0 _; have HZ9 : Hid (Blk (w4.setCell ⟨(w.heap.size + 1), 0, none⟩ (.int .i64 5)) w.heap.size #[.int .i64 0, .int .i64 0, .int .i64 0, .int .i64 0, .int .i64 0, .slice none 0 0] 27) := HZ4.out.set_other _ (show w.heap.size ≠ (w.heap.size + 1) by omega))
        | (have hBA := HQ9; refine gate_ld 27 (.tmp 3) rfl ?_; clear hBA; refine wpl_load_blk rfl 27 (.tmp 3) rfl (w.heap.size + 1) rfl HQ9.out Tryd.underlying27 rfl infoRcv rfl ?_)
        | (have hBA := HQ9; refine gate_st 27 (.tmp 2) _ rfl ?_; clear hBA; refine wpl_store_blk rfl 27 (.tmp 2) _ rfl (w.heap.size) rfl rfl HZ9.out infoRcv rfl rfl (by simp [Value.oneCell']) ?_))
      exact bodyPost_ret (results_blk Tryd.results5 rfl (HZ9.out.row _) Tryd.underlying27 rfl infoRcv rfl) rfl ⟨.slice la s.log.length lc, by first | rfl | (unfold rcvV; rw [HST.out]), (HO4.out.block fun k hk => (setRow_other _ _ _ _ (by have := (HO4.out.2.lt k hk).1; omega)).trans (Below.heap_setCell w4 ⟨(w.heap.size + 1), 0, none⟩ _ k (by have := (HO4.out.2.lt k hk).1; show k ≠ (w.heap.size + 1); omega))).le (by omega), below_row (below_one _ HB4.out (by omega)) (Nat.le_refl _) _⟩
    · rw [hF] at HFi
      have hE := hge hF
      have HGo : Hid (Und l R (g + cn) (n + 1) (thenS s (frec f))) := hgo hE
      have HTh : Hid (∀ u : World, OwnE u ((w.heap.size + 1) + 1) (.slice la s.log.length lc) s.log → (w.heap.size + 1) + 1 ≤ u.heap.size → Calls Tryd.prog 25 #[.agg #[.int .i64 s.t, .int .i64 s.v, .slice la s.log.length lc], .agg (frec f).cells.toArray] u fun e w' => ∃ lg', e = .returned (.agg #[.int .i64 (thenS s (frec f)).t, .int .i64 (thenS s (frec f)).v, lg']) ∧ OwnE w' ((w.heap.size + 1) + 1) lg' (thenS s (frec f)).log ∧ Below ((w.heap.size + 1) + 1) u w') := fun u hu hz => l2then_any s _ (frec f) _ u hki hfi hu hz (by omega) (fun hk => hcx hF hk)
      generalize thenS s (frec f) = s2 at *
      generalize (frec f).cells.toArray = C at *
      clear hgo hstop hrd hft hgf hcx hki hfi h2 hVV hfe hge hF HUN hE
      go_wp2_with (first
        | (go_at_call 22; refine Calls.mono HCut.out ?_; rintro e wq ⟨rfl, hwq⟩; obtain rfl := hwq.symm)
        | (have hBA := HBQ; refine gate_st 55 (.tmp 6) _ rfl ?_; clear hBA; refine wpl_store_last rfl 55 (.tmp 6) _ rfl (wr.heap.size) rfl rfl rfl infoRec11 rfl rfl (by simp [Value.oneCell']) ?_; obtain ⟨W1, hW1⟩ : ∃ W1, W1 = wr.alloc (.cells #[.int .i64 0, .int .i64 0, .int .i64 0, .int .i64 0, .int .i64 0, .int .i64 0, .int .i64 0, .int .i64 0, .string ⟨#[]⟩, .string ⟨#[]⟩, .string ⟨#[]⟩] 55) := ⟨_, rfl⟩; rw [← hW1]; have HB1 : Hid (Below w.heap.size w W1) := (by rw [hW1]; exact HBL.out.alloc HBL.out.size _); have HQ1 : Hid (Blk W1 (w.heap.size + 1) #[.int .i64 0, .int .i64 (g : Nat), .int .i64 (n : Nat), .int .i64 s.t, .int .i64 s.v, .slice la s.log.length lc] 27) := (by rw [hW1]; exact HBQ.out.alloc _); have HZ1 : Hid (Blk W1 w.heap.size #[.int .i64 0, .int .i64 0, .int .i64 0, .int .i64 0, .int .i64 0, .slice none 0 0] 27) := (by rw [hW1]; exact HBZ.out.alloc _); have HR1 : Hid (Blk W1 wr.heap.size #[.int .i64 0, .int .i64 0, .int .i64 0, .int .i64 0, .int .i64 0, .int .i64 0, .int .i64 0, .int .i64 0, .string ⟨#[]⟩, .string ⟨#[]⟩, .string ⟨#[]⟩] 55) := (by rw [hW1]; exact Blk.new _ _ _); have HO1 : Hid (OwnE W1 ((w.heap.size + 1) + 1) (.slice la s.log.length lc) s.log) := (by rw [hW1]; exact HOW.out.below ((Below.refl _ _).alloc (Nat.le_refl _) _)); have cq1 := HQ1.out.cell; have fq1 := HQ1.out.free; clear hW1 cq)
        | (go_at_call 23; refine Calls.mono (HRd.out _ HB1.out) ?_; rintro e w2 ⟨rfl, hb2⟩; have hz2 := hb2.size; have hl1 := HR1.out.lt; have HB2 : Hid (Below w.heap.size w w2) := HB1.out.trans (hb2.mono HB1.out.size); have HQ2 : Hid (Blk w2 (w.heap.size + 1) #[.int .i64 0, .int .i64 (g : Nat), .int .i64 (n : Nat), .int .i64 s.t, .int .i64 s.v, .slice la s.log.length lc] 27) := HQ1.out.below hb2 HQ1.out.lt; have HZ2 : Hid (Blk w2 w.heap.size #[.int .i64 0, .int .i64 0, .int .i64 0, .int .i64 0, .int .i64 0, .slice none 0 0] 27) := HZ1.out.below hb2 HZ1.out.lt; have HR2 : Hid (Blk w2 wr.heap.size #[.int .i64 0, .int .i64 0, .int .i64 0, .int .i64 0, .int .i64 0, .int .i64 0, .int .i64 0, .int .i64 0, .string ⟨#[]⟩, .string ⟨#[]⟩, .string ⟨#[]⟩] 55) := HR1.out.below hb2 HR1.out.lt; have HO2 : Hid (OwnE w2 ((w.heap.size + 1) + 1) (.slice la s.log.length lc) s.log) := HO1.out.below hb2; clear hb2 cq1 fq1)
        | (have hBA := HR2; refine gate_st 55 (.tmp 6) _ rfl ?_; clear hBA; refine wpl_store_blk rfl 55 (.tmp 6) _ rfl (wr.heap.size) rfl rfl HR2.out infoRec11 hCs.symm hCs.symm hCa ?_; obtain ⟨W3, hW3⟩ : ∃ W3, W3 = w2.setRow wr.heap.size C := ⟨_, rfl⟩; rw [← hW3]; have HB3 : Hid (Below w.heap.size w W3) := (by rw [hW3]; exact below_row HB2.out HBL.out.size _); have HQ3 : Hid (Blk W3 (w.heap.size + 1) #[.int .i64 0, .int .i64 (g : Nat), .int .i64 (n : Nat), .int .i64 s.t, .int .i64 s.v, .slice la s.log.length lc] 27) := (by rw [hW3]; exact HQ2.out.row_other _ (by omega)); have HZ3 : Hid (Blk W3 w.heap.size #[.int .i64 0, .int .i64 0, .int .i64 0, .int .i64 0, .int .i64 0, .slice none 0 0] 27) := (by rw [hW3]; exact HZ2.out.row_other _ (by omega)); have HR3 : Hid (Blk W3 wr.heap.size C 55) := (by rw [hW3]; exact HR2.out.row _); have HO3 : Hid (OwnE W3 ((w.heap.size + 1) + 1) (.slice la s.log.length lc) s.log) := (by rw [hW3]; exact HO2.out.block fun k hk => setRow_other _ _ _ _ (by have := (HOW.out.2.lt k hk).2; omega)); have cq3 := HQ3.out.cell; have fq3 := HQ3.out.free; have hl3 := HR3.out.lt; clear hW3)
        | (have hBA := HR3; refine gate_ld 55 (.tmp 6) rfl ?_; clear hBA; refine wpl_load_blkG rfl rfl 55 (.tmp 6) rfl (wr.heap.size) rfl HR3.out Tryd.underlying55 rfl infoRec11 hCs.symm ?_)
        | (go_at_call 24; refine Calls.mono (HFi.out _ (HO3.out.es (by unfold maxLen; omega))) ?_; rintro e w4 ⟨rfl, hb4⟩; have hz4 := hb4.size; have HB4 : Hid (Below w.heap.size w w4) := HB3.out.trans (hb4.mono HB3.out.size); have HQ4 : Hid (Blk w4 (w.heap.size + 1) #[.int .i64 0, .int .i64 (g : Nat), .int .i64 (n : Nat), .int .i64 s.t, .int .i64 s.v, .slice la s.log.length lc] 27) := HQ3.out.below hb4 HQ3.out.lt; have HZ4 : Hid (Blk w4 w.heap.size #[.int .i64 0, .int .i64 0, .int .i64 0, .int .i64 0, .int .i64 0, .slice none 0 0] 27) := HZ3.out.below hb4 HZ3.out.lt; have HR4 : Hid (Blk w4 wr.heap.size C 55) := HR3.out.below hb4 HR3.out.lt; have HO4 : Hid (OwnE w4 ((w.heap.size + 1) + 1) (.slice la s.log.length lc) s.log) := HO3.out.below hb4; have cq4 := HQ4.out.cell; have fq4 := HQ4.out.free; clear hb4 cq3 fq3)
        | (have hBA := HR4; refine gate_ld 55 (.tmp 6) rfl ?_; clear hBA; refine wpl_load_blk rfl 55 (.tmp 6) rfl (wr.heap.size) rfl HR4.out Tryd.underlying55 rfl infoRec11 hCs.symm ?_)
        | (go_at_call 25; refine Calls.mono (HTh.out _ HO4.out (by omega)) ?_; rintro e w5 ⟨lg5, rfl, ho5, hb5⟩; obtain ⟨la5, lc5, elg5⟩ := ho5.shape; subst elg5; have HO5 : Hid (OwnE w5 ((w.heap.size + 1) + 1) (.slice la5 s2.log.length lc5) s2.log) := ho5; have HB5 : Hid (Below w.heap.size w w5) := HB4.out.trans (hb5.mono (by omega)); have HQ5 : Hid (Blk w5 (w.heap.size + 1) #[.int .i64 0, .int .i64 (g : Nat), .int .i64 (n : Nat), .int .i64 s.t, .int .i64 s.v, .slice la s.log.length lc] 27) := HQ4.out.below hb5 (by omega); have HZ5 : Hid (Blk w5 w.heap.size #[.int .i64 0, .int .i64 0, .int .i64 0, .int .i64 0, .int .i64 0, .slice none 0 0] 27) := HZ4.out.below hb5 (by omega); have cq5 := HQ5.out.cell; have fq5 := HQ5.out.free; clear ho5 hb5 cq4))
      go_roundg (l.length - (g + cn))
      case measure => rw [HK.out]; omega
      case rel =>
        have e1 : ((g + cn : Nat) : Int) = (g : Int) + (cn : Int) := by omega
        have e2 : ((n + 1 : Nat) : Int) = (n : Int) + 1 := by omega
        refine ⟨g + cn, n + 1, s2, rfl, hcn, by omega, by omega, HGo.out, ⟨_, by rw [e1, e2]; exact ((((HQ5.out.set 3 _).set 4 _).set 5 _).set 1 _).set 2 _, HO5.out.block fun k hk => five_cells (by have := (HO5.out.2.lt k hk).1; omega)⟩, ?_, ?_⟩
        · exact HZ5.out.keep (five_cells (by omega))
        · exact below_five HB5.out (by omega)
end Go.Proofs.YtlfnlhbkagjheaaDoor
