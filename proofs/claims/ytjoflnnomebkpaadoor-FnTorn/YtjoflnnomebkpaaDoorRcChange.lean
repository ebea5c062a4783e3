/-
  impl.readChange.
-/
import Derived.Test.YtjoflnnomebkpaaDoorGround
import Derived.Test.YtjoflnnomebkpaaDoorGround2
namespace Go.Proofs.YtjoflnnomebkpaaDoor
open Go.RowKit
set_option linter.unusedVariables false
set_option linter.unusedSimpArgs false

def chR (r : Rec) : Value := if r.ki = 1 then .iface 97 (.agg #[.int .i64 r.tm, .int .i64 r.vo]) else if r.ki = 2 then .iface 138 (.agg #[.int .i64 r.ix, .int .i64 r.e.t, .int .i64 r.e.cl, .int .i64 r.e.sq, .int .i64 r.e.op, .string r.e.k, .string r.e.v, .string r.e.o]) else .iface 136 (.agg #[.int .i64 r.ix])
/-- what is wrong with a body: a sentinel's number -/
def bodyE (f : List Int) : Nat := if inB (f[8]?.getD 0) 11 13 = false then 4 else if fleft f ≠ some [] then 5 else if recB (frec f) = false then 6 else 0
theorem readE_eq (f : List Int) : readE f = if sumC f ≠ 0 then sumC f else bodyE f := rfl
theorem methR_hard_fits (x : Value) (w : World) : (method 344 97 x "loop.example/s01586/impl.fits").run Tryd.prog w = .ok (90, x) w := by kernel_rfl
theorem methR_add_fits (x : Value) (w : World) : (method 344 138 x "loop.example/s01586/impl.fits").run Tryd.prog w = .ok (168, x) w := by kernel_rfl
theorem methR_cut_fits (x : Value) (w : World) : (method 344 136 x "loop.example/s01586/impl.fits").run Tryd.prog w = .ok (165, x) w := by kernel_rfl
theorem noEnt0 : noEntB ent0 = true := by rw [noEnt_iff]; rfl
theorem recB_hard (t v : Int) : recB ⟨1, t, v, 0, ent0⟩ = (inB t 0 1073741824 && (inB v 0 7 && (decide (0 < t) || v == 0))) := by simp [recB, noEnt0, hardB]
theorem recB_add (i : Int) (x : Ent) : recB ⟨2, 0, 0, i, x⟩ = (inB i 1 4096 && entB x) := by simp [recB]
theorem recB_cut (i : Int) : recB ⟨3, 0, 0, i, ent0⟩ = inB i 0 4096 := by simp [recB, noEnt0]

set_option maxHeartbeats 4000000 in
set_option maxRecDepth 100000 in
theorem readChange_hard (b2 o2 c2 : Nat) (f : List Int) (w : World) (A : Nat → Addr) (B : Nat) (hf9 : 9 ≤ f.length) (hs : Sents w A B) (hv : Bs w (.slice (some ⟨b2, o2, none⟩) (f.length - 8) c2) (f.drop 8)) (hc : f.length - 8 ≤ c2) (hk : f[8]?.getD 0 = 11) :
    Calls Tryd.prog 118 #[.slice (some ⟨b2, o2, none⟩) (f.length - 8) c2] w fun e w' => e = .returned (if bodyE f = 0 then .tuple #[chR (frec f), .nilIface] else .tuple #[.nilIface, refV (A (bodyE f)) 0]) ∧ Below w.heap.size w w' := by
  have HV : Hid (Bs w (.slice (some ⟨b2, o2, none⟩) (f.length - 8) c2) (f.drop 8)) := hv
  obtain ⟨hm, h8, a', c', ee, hcell⟩ := hv
  injection ee with e1' e2' e3'
  subst e1' e3'
  obtain ⟨b3, o3, ex, hj⟩ := hcell 0 (by rw [List.length_drop]; omega)
  injection ex with ex
  injection ex with ex1 ex2
  subst ex1 ex2
  have k0 := hj 0 (by rw [List.length_drop]; omega)
  have hk8 : (f.drop 8)[0]?.getD 0 = f[8]?.getD 0 := by simp
  rw [hk8, Nat.add_zero] at k0
  have hkb := byte_at h8 0
  rw [hk8] at hkb
  clear hj hcell hk8 h8 e2' hm
  have hn1 : 1 ≤ f.length - 8 := by omega
  have hd9 := HV.out.drop hc HV.out.lt 1 (by rw [List.length_drop]; omega)
  rw [List.drop_drop] at hd9
  obtain ⟨a3, n3, c3, e3, hc3, hD3⟩ := hd9.2
  have t1 : ∀ wx, (Instr.slice 22 (.slice (some ⟨b2, o2, none⟩) (f.length - 8) c2) (some (.int .i64 1)) none none).run Tryd.prog wx = .ok (sliced (some ⟨b2, o2, none⟩) 1 (f.length - 8) c2 1) wx := slice_l _ (f.length - 8) c2 1 hn1
  rw [e3] at t1 hd9
  have HB9 : Hid (Bs w (.slice a3 n3 c3) (f.drop 9)) := hd9.1
  clear e3 hd9
  have HS : Hid (Sents (w.alloc (.cells #[.slice a3 n3 c3, .nilIface] 192)) A B) := hs.below ((Below.refl _ _).alloc (Nat.le_refl _) _)
  have HRd : Hid (Rd (w.alloc (.cells #[.slice a3 n3 c3, .nilIface] 192)) w.heap.size A B (w.heap.size + 1) (some (f.drop 9))) := by
    refine ⟨hs.le, by omega, by simp, by simp, ⟨.slice a3 n3 c3, by simp, HB9.out.below ((Below.refl _ _).alloc (Nat.le_refl _) _), ⟨_, _, _, rfl, hc3, fun hp => ?_⟩⟩, by simp⟩
    obtain ⟨x, rfl, hx⟩ := hD3 hp
    exact ⟨x, rfl, by omega⟩
  have hb0 : Below w.heap.size w (w.alloc (.cells #[.slice a3 n3 c3, .nilIface] 192)) := (Below.refl _ _).alloc (Nat.le_refl _) _
  have k0' := (hb0.cell (p := ⟨b2, o2, none⟩) (cell_lt k0)).trans k0
  have hle := hs.le
  rw [hk] at k0 k0' hkb
  obtain ⟨hfr, hfl⟩ := frec_hard hk
  have hin : inB (f[8]?.getD 0) 11 13 = true := by rw [hk]; decide
  have hbe : bodyE f = if fleft f ≠ some [] then 5 else if recB (frec f) = false then 6 else 0 := by unfold bodyE; rw [if_neg (by rw [hin]; decide)]
  have HN : ∀ w' st, Sents w' A B → Rd w' w.heap.size A B (w.heap.size + 1) st → Hid (Calls Tryd.prog 132 #[.pointer (some ⟨w.heap.size, 0, none⟩)] w' fun e w'' => e = .returned (.int .i64 ((rdNum st).1 : Nat)) ∧ Sents w'' A B ∧ Rd w'' w.heap.size A B (w.heap.size + 1) (rdNum st).2 ∧ w'.grownBy w'' (some w.heap.size)) := fun w' st hs h => number_s _ w' A B _ st hs h
  have HE : ∀ w' st, Sents w' A B → Rd w' w.heap.size A B (w.heap.size + 1) st → Hid (Calls Tryd.prog 134 #[.pointer (some ⟨w.heap.size, 0, none⟩)] w' fun e w'' => e = .returned (endV A st) ∧ w'.grownBy w'' (some w.heap.size)) := fun w' st hs h => end_any _ w' A B _ st hs h
  clear hk hin hc hc3 hD3 hf9 HV HB9
  have y1 : True := trivial
  by_cases hl : fleft f = some []
  case neg =>
    have hb5 : bodyE f = 5 := by rw [hbe, if_pos hl]
    rw [hb5, if_neg (by decide)]
    have hev : endV A (fleft f) = refV (A 5) 0 := by rw [endV, if_neg hl]
    rw [hfl] at hev
    clear hl hbe hb5 hfl hfr
    go_enter Tryd.func118, Tryd.ntmps118
    go_wp2_with (first
      | (go_at_call 132; clear y1; refine Calls.mono (HN _ _ HS.out HRd.out).out ?_; rintro e w1 ⟨rfl, hs1, hr1, hg1⟩; replace hb0 := hb0.trans (grown_below hg1 (Nat.le_refl _) hb0.size))
      | (go_at_call 132; refine Calls.mono (HN _ _ hs1 hr1).out ?_; rintro e w2 ⟨rfl, hs2, hr2, hg2⟩; replace hb0 := hb0.trans (grown_below hg2 (Nat.le_refl _) hb0.size))
      | (go_at_call 134; refine Calls.mono (HE _ _ hs2 hr2).out ?_; rw [hev]; rintro e w3 ⟨rfl, hg3⟩; have hs3 := hs2.kept (grown_below hg3 hle (hs2.le)); replace hb0 := hb0.trans (grown_below hg3 (Nat.le_refl _) hb0.size)))
    go_ret2
    exact ⟨rfl, hb0⟩
  have hev : endV A (fleft f) = .nilIface := by rw [endV, if_pos hl]
  rw [hfl] at hev
  rw [if_neg (fun x => x hl)] at hbe
  have hM := methR_hard_fits
  have HF : ∀ w' : World, Hid (Calls Tryd.prog 90 _ w' _) := fun w' => hardFits_any ((rdNum (some (f.drop 9))).1 : Int) ((rdNum (rdNum (some (f.drop 9))).2).1 : Int) w'
  rw [hfr] at hbe ⊢
  rw [recB_hard] at hbe
  clear hl hfl hfr
  cases hB : (inB ((rdNum (some (f.drop 9))).1 : Int) 0 1073741824 && (inB ((rdNum (rdNum (some (f.drop 9))).2).1 : Int) 0 7 && (decide (0 < ((rdNum (some (f.drop 9))).1 : Int)) || ((rdNum (rdNum (some (f.drop 9))).2).1 : Int) == 0)))
  · rw [hB, if_pos rfl] at hbe
    rw [hbe, if_neg (by decide)]
    clear hbe
    go_enter Tryd.func118, Tryd.ntmps118
    go_wp2_with (first
      | (go_at_call 132; clear y1; refine Calls.mono (HN _ _ HS.out HRd.out).out ?_; rintro e w1 ⟨rfl, hs1, hr1, hg1⟩; replace hb0 := hb0.trans (grown_below hg1 (Nat.le_refl _) hb0.size))
      | (go_at_call 132; refine Calls.mono (HN _ _ hs1 hr1).out ?_; rintro e w2 ⟨rfl, hs2, hr2, hg2⟩; replace hb0 := hb0.trans (grown_below hg2 (Nat.le_refl _) hb0.size))
      | (go_at_call 134; refine Calls.mono (HE _ _ hs2 hr2).out ?_; rw [hev]; rintro e w3 ⟨rfl, hg3⟩; have hs3 := hs2.kept (grown_below hg3 hle (hs2.le)); replace hb0 := hb0.trans (grown_below hg3 (Nat.le_refl _) hb0.size))
      | (go_at_call 90; refine Calls.mono (HF _).out ?_; rw [hB]; rintro e w4 ⟨rfl, hb4⟩; have g6 := (hs3.below hb4).g6; replace hb0 := hb0.trans (hb4.mono hb0.size)))
    go_quiet (fail)
    go_wp2
    go_ret2
    exact ⟨rfl, ⟨hb0.os, hb0.tape, hb0.output, hb0.size, hb0.block⟩⟩
  · rw [hB, if_neg (by decide)] at hbe
    rw [hbe, if_pos rfl]
    clear hbe
    go_enter Tryd.func118, Tryd.ntmps118
    go_wp2_with (first
      | (go_at_call 132; clear y1; refine Calls.mono (HN _ _ HS.out HRd.out).out ?_; rintro e w1 ⟨rfl, hs1, hr1, hg1⟩; replace hb0 := hb0.trans (grown_below hg1 (Nat.le_refl _) hb0.size))
      | (go_at_call 132; refine Calls.mono (HN _ _ hs1 hr1).out ?_; rintro e w2 ⟨rfl, hs2, hr2, hg2⟩; replace hb0 := hb0.trans (grown_below hg2 (Nat.le_refl _) hb0.size))
      | (go_at_call 134; refine Calls.mono (HE _ _ hs2 hr2).out ?_; rw [hev]; rintro e w3 ⟨rfl, hg3⟩; have hs3 := hs2.kept (grown_below hg3 hle (hs2.le)); replace hb0 := hb0.trans (grown_below hg3 (Nat.le_refl _) hb0.size))
      | (go_at_call 90; refine Calls.mono (HF _).out ?_; rw [hB]; rintro e w4 ⟨rfl, hb4⟩; have g6 := (hs3.below hb4).g6; replace hb0 := hb0.trans (hb4.mono hb0.size)))
    go_ret2
    exact ⟨rfl, hb0⟩
set_option maxHeartbeats 4000000 in
set_option maxRecDepth 100000 in
theorem readChange_add (b2 o2 c2 : Nat) (f : List Int) (w : World) (A : Nat → Addr) (B : Nat) (hf9 : 9 ≤ f.length) (hs : Sents w A B) (hv : Bs w (.slice (some ⟨b2, o2, none⟩) (f.length - 8) c2) (f.drop 8)) (hc : f.length - 8 ≤ c2) (hk : f[8]?.getD 0 = 12) :
    Calls Tryd.prog 118 #[.slice (some ⟨b2, o2, none⟩) (f.length - 8) c2] w fun e w' => e = .returned (if bodyE f = 0 then .tuple #[chR (frec f), .nilIface] else .tuple #[.nilIface, refV (A (bodyE f)) 0]) ∧ Below w.heap.size w w' := by
  have HV : Hid (Bs w (.slice (some ⟨b2, o2, none⟩) (f.length - 8) c2) (f.drop 8)) := hv
  obtain ⟨hm, h8, a', c', ee, hcell⟩ := hv
  injection ee with e1' e2' e3'
  subst e1' e3'
  obtain ⟨b3, o3, ex, hj⟩ := hcell 0 (by rw [List.length_drop]; omega)
  injection ex with ex
  injection ex with ex1 ex2
  subst ex1 ex2
  have k0 := hj 0 (by rw [List.length_drop]; omega)
  have hk8 : (f.drop 8)[0]?.getD 0 = f[8]?.getD 0 := by simp
  rw [hk8, Nat.add_zero] at k0
  have hkb := byte_at h8 0
  rw [hk8] at hkb
  clear hj hcell hk8 h8 e2' hm
  have hn1 : 1 ≤ f.length - 8 := by omega
  have hd9 := HV.out.drop hc HV.out.lt 1 (by rw [List.length_drop]; omega)
  rw [List.drop_drop] at hd9
  obtain ⟨a3, n3, c3, e3, hc3, hD3⟩ := hd9.2
  have t1 : ∀ wx, (Instr.slice 22 (.slice (some ⟨b2, o2, none⟩) (f.length - 8) c2) (some (.int .i64 1)) none none).run Tryd.prog wx = .ok (sliced (some ⟨b2, o2, none⟩) 1 (f.length - 8) c2 1) wx := slice_l _ (f.length - 8) c2 1 hn1
  rw [e3] at t1 hd9
  have HB9 : Hid (Bs w (.slice a3 n3 c3) (f.drop 9)) := hd9.1
  clear e3 hd9
  have HS : Hid (Sents (w.alloc (.cells #[.slice a3 n3 c3, .nilIface] 192)) A B) := hs.below ((Below.refl _ _).alloc (Nat.le_refl _) _)
  have HRd : Hid (Rd (w.alloc (.cells #[.slice a3 n3 c3, .nilIface] 192)) w.heap.size A B (w.heap.size + 1) (some (f.drop 9))) := by
    refine ⟨hs.le, by omega, by simp, by simp, ⟨.slice a3 n3 c3, by simp, HB9.out.below ((Below.refl _ _).alloc (Nat.le_refl _) _), ⟨_, _, _, rfl, hc3, fun hp => ?_⟩⟩, by simp⟩
    obtain ⟨x, rfl, hx⟩ := hD3 hp
    exact ⟨x, rfl, by omega⟩
  have hb0 : Below w.heap.size w (w.alloc (.cells #[.slice a3 n3 c3, .nilIface] 192)) := (Below.refl _ _).alloc (Nat.le_refl _) _
  have k0' := (hb0.cell (p := ⟨b2, o2, none⟩) (cell_lt k0)).trans k0
  have hle := hs.le
  rw [hk] at k0 k0' hkb
  obtain ⟨hfr, hfl⟩ := frec_add hk
  have hin : inB (f[8]?.getD 0) 11 13 = true := by rw [hk]; decide
  have hbe : bodyE f = if fleft f ≠ some [] then 5 else if recB (frec f) = false then 6 else 0 := by unfold bodyE; rw [if_neg (by rw [hin]; decide)]
  have HN : ∀ w' st, Sents w' A B → Rd w' w.heap.size A B (w.heap.size + 1) st → Hid (Calls Tryd.prog 132 #[.pointer (some ⟨w.heap.size, 0, none⟩)] w' fun e w'' => e = .returned (.int .i64 ((rdNum st).1 : Nat)) ∧ Sents w'' A B ∧ Rd w'' w.heap.size A B (w.heap.size + 1) (rdNum st).2 ∧ w'.grownBy w'' (some w.heap.size)) := fun w' st hs h => number_s _ w' A B _ st hs h
  have HE : ∀ w' st, Sents w' A B → Rd w' w.heap.size A B (w.heap.size + 1) st → Hid (Calls Tryd.prog 134 #[.pointer (some ⟨w.heap.size, 0, none⟩)] w' fun e w'' => e = .returned (endV A st) ∧ w'.grownBy w'' (some w.heap.size)) := fun w' st hs h => end_any _ w' A B _ st hs h
  have HX : ∀ w' st, Sents w' A B → Rd w' w.heap.size A B (w.heap.size + 1) st → Hid (Calls Tryd.prog 133 #[.pointer (some ⟨w.heap.size, 0, none⟩)] w' fun e w'' => e = .returned (.agg #[.int .i64 (rdEnt st).1.t, .int .i64 (rdEnt st).1.cl, .int .i64 (rdEnt st).1.sq, .int .i64 (rdEnt st).1.op, .string (rdEnt st).1.k, .string (rdEnt st).1.v, .string (rdEnt st).1.o]) ∧ Sents w'' A B ∧ Rd w'' w.heap.size A B (w.heap.size + 1) (rdEnt st).2 ∧ w'.grownBy w'' (some w.heap.size)) := fun w' st hs h => entry_any _ w' A B _ st hs h
  clear hk hin hc hc3 hD3 hf9 HV HB9
  have y1 : True := trivial
  by_cases hl : fleft f = some []
  case neg =>
    have hb5 : bodyE f = 5 := by rw [hbe, if_pos hl]
    rw [hb5, if_neg (by decide)]
    have hev : endV A (fleft f) = refV (A 5) 0 := by rw [endV, if_neg hl]
    rw [hfl] at hev
    clear hl hbe hb5 hfl hfr
    go_enter Tryd.func118, Tryd.ntmps118
    go_wp2_with (first
      | (go_at_call 132; clear y1; refine Calls.mono (HN _ _ HS.out HRd.out).out ?_; rintro e w1 ⟨rfl, hs1, hr1, hg1⟩; replace hb0 := hb0.trans (grown_below hg1 (Nat.le_refl _) hb0.size))
      | (go_at_call 133; refine Calls.mono (HX _ _ hs1 hr1).out ?_; rintro e w2 ⟨rfl, hs2, hr2, hg2⟩; replace hb0 := hb0.trans (grown_below hg2 (Nat.le_refl _) hb0.size))
      | (go_at_call 134; refine Calls.mono (HE _ _ hs2 hr2).out ?_; rw [hev]; rintro e w3 ⟨rfl, hg3⟩; have hs3 := hs2.kept (grown_below hg3 hle (hs2.le)); replace hb0 := hb0.trans (grown_below hg3 (Nat.le_refl _) hb0.size)))
    go_ret2
    exact ⟨rfl, hb0⟩
  have hev : endV A (fleft f) = .nilIface := by rw [endV, if_pos hl]
  rw [hfl] at hev
  rw [if_neg (fun x => x hl)] at hbe
  have hM := methR_add_fits
  have HF : ∀ w' : World, Hid (Calls Tryd.prog 168 _ w' _) := fun w' => addFits_any ((rdNum (some (f.drop 9))).1 : Int) (rdEnt (rdNum (some (f.drop 9))).2).1 (rdEnt_fits _) w'
  rw [hfr] at hbe ⊢
  rw [recB_add] at hbe
  clear hl hfl hfr
  cases hB : (inB ((rdNum (some (f.drop 9))).1 : Int) 1 4096 && entB (rdEnt (rdNum (some (f.drop 9))).2).1)
  · rw [hB, if_pos rfl] at hbe
    rw [hbe, if_neg (by decide)]
    clear hbe
    go_enter Tryd.func118, Tryd.ntmps118
    go_wp2_with (first
      | (go_at_call 132; clear y1; refine Calls.mono (HN _ _ HS.out HRd.out).out ?_; rintro e w1 ⟨rfl, hs1, hr1, hg1⟩; replace hb0 := hb0.trans (grown_below hg1 (Nat.le_refl _) hb0.size))
      | (go_at_call 133; refine Calls.mono (HX _ _ hs1 hr1).out ?_; rintro e w2 ⟨rfl, hs2, hr2, hg2⟩; replace hb0 := hb0.trans (grown_below hg2 (Nat.le_refl _) hb0.size))
      | (go_at_call 134; refine Calls.mono (HE _ _ hs2 hr2).out ?_; rw [hev]; rintro e w3 ⟨rfl, hg3⟩; have hs3 := hs2.kept (grown_below hg3 hle (hs2.le)); replace hb0 := hb0.trans (grown_below hg3 (Nat.le_refl _) hb0.size))
      | (go_at_call 168; refine Calls.mono (HF _).out ?_; rw [hB]; rintro e w4 ⟨rfl, hb4⟩; have g6 := (hs3.below hb4).g6; replace hb0 := hb0.trans (hb4.mono hb0.size)))
    go_quiet (fail)
    go_wp2
    go_ret2
    exact ⟨rfl, ⟨hb0.os, hb0.tape, hb0.output, hb0.size, hb0.block⟩⟩
  · rw [hB, if_neg (by decide)] at hbe
    rw [hbe, if_pos rfl]
    clear hbe
    go_enter Tryd.func118, Tryd.ntmps118
    go_wp2_with (first
      | (go_at_call 132; clear y1; refine Calls.mono (HN _ _ HS.out HRd.out).out ?_; rintro e w1 ⟨rfl, hs1, hr1, hg1⟩; replace hb0 := hb0.trans (grown_below hg1 (Nat.le_refl _) hb0.size))
      | (go_at_call 133; refine Calls.mono (HX _ _ hs1 hr1).out ?_; rintro e w2 ⟨rfl, hs2, hr2, hg2⟩; replace hb0 := hb0.trans (grown_below hg2 (Nat.le_refl _) hb0.size))
      | (go_at_call 134; refine Calls.mono (HE _ _ hs2 hr2).out ?_; rw [hev]; rintro e w3 ⟨rfl, hg3⟩; have hs3 := hs2.kept (grown_below hg3 hle (hs2.le)); replace hb0 := hb0.trans (grown_below hg3 (Nat.le_refl _) hb0.size))
      | (go_at_call 168; refine Calls.mono (HF _).out ?_; rw [hB]; rintro e w4 ⟨rfl, hb4⟩; have g6 := (hs3.below hb4).g6; replace hb0 := hb0.trans (hb4.mono hb0.size)))
    go_ret2
    exact ⟨rfl, hb0⟩
set_option maxHeartbeats 4000000 in
set_option maxRecDepth 100000 in
theorem readChange_cut (b2 o2 c2 : Nat) (f : List Int) (w : World) (A : Nat → Addr) (B : Nat) (hf9 : 9 ≤ f.length) (hs : Sents w A B) (hv : Bs w (.slice (some ⟨b2, o2, none⟩) (f.length - 8) c2) (f.drop 8)) (hc : f.length - 8 ≤ c2) (hk : f[8]?.getD 0 = 13) :
    Calls Tryd.prog 118 #[.slice (some ⟨b2, o2, none⟩) (f.length - 8) c2] w fun e w' => e = .returned (if bodyE f = 0 then .tuple #[chR (frec f), .nilIface] else .tuple #[.nilIface, refV (A (bodyE f)) 0]) ∧ Below w.heap.size w w' := by
  have HV : Hid (Bs w (.slice (some ⟨b2, o2, none⟩) (f.length - 8) c2) (f.drop 8)) := hv
  obtain ⟨hm, h8, a', c', ee, hcell⟩ := hv
  injection ee with e1' e2' e3'
  subst e1' e3'
  obtain ⟨b3, o3, ex, hj⟩ := hcell 0 (by rw [List.length_drop]; omega)
  injection ex with ex
  injection ex with ex1 ex2
  subst ex1 ex2
  have k0 := hj 0 (by rw [List.length_drop]; omega)
  have hk8 : (f.drop 8)[0]?.getD 0 = f[8]?.getD 0 := by simp
  rw [hk8, Nat.add_zero] at k0
  have hkb := byte_at h8 0
  rw [hk8] at hkb
  clear hj hcell hk8 h8 e2' hm
  have hn1 : 1 ≤ f.length - 8 := by omega
  have hd9 := HV.out.drop hc HV.out.lt 1 (by rw [List.length_drop]; omega)
  rw [List.drop_drop] at hd9
  obtain ⟨a3, n3, c3, e3, hc3, hD3⟩ := hd9.2
  have t1 : ∀ wx, (Instr.slice 22 (.slice (some ⟨b2, o2, none⟩) (f.length - 8) c2) (some (.int .i64 1)) none none).run Tryd.prog wx = .ok (sliced (some ⟨b2, o2, none⟩) 1 (f.length - 8) c2 1) wx := slice_l _ (f.length - 8) c2 1 hn1
  rw [e3] at t1 hd9
  have HB9 : Hid (Bs w (.slice a3 n3 c3) (f.drop 9)) := hd9.1
  clear e3 hd9
  have HS : Hid (Sents (w.alloc (.cells #[.slice a3 n3 c3, .nilIface] 192)) A B) := hs.below ((Below.refl _ _).alloc (Nat.le_refl _) _)
  have HRd : Hid (Rd (w.alloc (.cells #[.slice a3 n3 c3, .nilIface] 192)) w.heap.size A B (w.heap.size + 1) (some (f.drop 9))) := by
    refine ⟨hs.le, by omega, by simp, by simp, ⟨.slice a3 n3 c3, by simp, HB9.out.below ((Below.refl _ _).alloc (Nat.le_refl _) _), ⟨_, _, _, rfl, hc3, fun hp => ?_⟩⟩, by simp⟩
    obtain ⟨x, rfl, hx⟩ := hD3 hp
    exact ⟨x, rfl, by omega⟩
  have hb0 : Below w.heap.size w (w.alloc (.cells #[.slice a3 n3 c3, .nilIface] 192)) := (Below.refl _ _).alloc (Nat.le_refl _) _
  have k0' := (hb0.cell (p := ⟨b2, o2, none⟩) (cell_lt k0)).trans k0
  have hle := hs.le
  rw [hk] at k0 k0' hkb
  obtain ⟨hfr, hfl⟩ := frec_cut hk
  have hin : inB (f[8]?.getD 0) 11 13 = true := by rw [hk]; decide
  have hbe : bodyE f = if fleft f ≠ some [] then 5 else if recB (frec f) = false then 6 else 0 := by unfold bodyE; rw [if_neg (by rw [hin]; decide)]
  have HN : ∀ w' st, Sents w' A B → Rd w' w.heap.size A B (w.heap.size + 1) st → Hid (Calls Tryd.prog 132 #[.pointer (some ⟨w.heap.size, 0, none⟩)] w' fun e w'' => e = .returned (.int .i64 ((rdNum st).1 : Nat)) ∧ Sents w'' A B ∧ Rd w'' w.heap.size A B (w.heap.size + 1) (rdNum st).2 ∧ w'.grownBy w'' (some w.heap.size)) := fun w' st hs h => number_s _ w' A B _ st hs h
  have HE : ∀ w' st, Sents w' A B → Rd w' w.heap.size A B (w.heap.size + 1) st → Hid (Calls Tryd.prog 134 #[.pointer (some ⟨w.heap.size, 0, none⟩)] w' fun e w'' => e = .returned (endV A st) ∧ w'.grownBy w'' (some w.heap.size)) := fun w' st hs h => end_any _ w' A B _ st hs h
  clear hk hin hc hc3 hD3 hf9 HV HB9
  have y1 : True := trivial
  by_cases hl : fleft f = some []
  case neg =>
    have hb5 : bodyE f = 5 := by rw [hbe, if_pos hl]
    rw [hb5, if_neg (by decide)]
    have hev : endV A (fleft f) = refV (A 5) 0 := by rw [endV, if_neg hl]
    rw [hfl] at hev
    clear hl hbe hb5 hfl hfr
    go_enter Tryd.func118, Tryd.ntmps118
    go_wp2_with (first
      | (go_at_call 132; clear y1; refine Calls.mono (HN _ _ HS.out HRd.out).out ?_; rintro e w1 ⟨rfl, hs1, hr1, hg1⟩; replace hb0 := hb0.trans (grown_below hg1 (Nat.le_refl _) hb0.size))
      | (go_at_call 134; refine Calls.mono (HE _ _ hs1 hr1).out ?_; rw [hev]; rintro e w3 ⟨rfl, hg3⟩; have hs3 := hs1.kept (grown_below hg3 hle (hs1.le)); replace hb0 := hb0.trans (grown_below hg3 (Nat.le_refl _) hb0.size)))
    go_ret2
    exact ⟨rfl, hb0⟩
  have hev : endV A (fleft f) = .nilIface := by rw [endV, if_pos hl]
  rw [hfl] at hev
  rw [if_neg (fun x => x hl)] at hbe
  have hM := methR_cut_fits
  have HF : ∀ w' : World, Hid (Calls Tryd.prog 165 _ w' _) := fun w' => cutFits_any ((rdNum (some (f.drop 9))).1 : Int) w'
  rw [hfr] at hbe ⊢
  rw [recB_cut] at hbe
  clear hl hfl hfr
  cases hB : inB ((rdNum (some (f.drop 9))).1 : Int) 0 4096
  · rw [hB, if_pos rfl] at hbe
    rw [hbe, if_neg (by decide)]
    clear hbe
    go_enter Tryd.func118, Tryd.ntmps118
    go_wp2_with (first
      | (go_at_call 132; clear y1; refine Calls.mono (HN _ _ HS.out HRd.out).out ?_; rintro e w1 ⟨rfl, hs1, hr1, hg1⟩; replace hb0 := hb0.trans (grown_below hg1 (Nat.le_refl _) hb0.size))
      | (go_at_call 134; refine Calls.mono (HE _ _ hs1 hr1).out ?_; rw [hev]; rintro e w3 ⟨rfl, hg3⟩; have hs3 := hs1.kept (grown_below hg3 hle (hs1.le)); replace hb0 := hb0.trans (grown_below hg3 (Nat.le_refl _) hb0.size))
      | (go_at_call 165; refine Calls.mono (HF _).out ?_; rw [hB]; rintro e w4 ⟨rfl, hb4⟩; have g6 := (hs3.below hb4).g6; replace hb0 := hb0.trans (hb4.mono hb0.size)))
    go_quiet (fail)
    go_wp2
    go_ret2
    exact ⟨rfl, ⟨hb0.os, hb0.tape, hb0.output, hb0.size, hb0.block⟩⟩
  · rw [hB, if_neg (by decide)] at hbe
    rw [hbe, if_pos rfl]
    clear hbe
    go_enter Tryd.func118, Tryd.ntmps118
    go_wp2_with (first
      | (go_at_call 132; clear y1; refine Calls.mono (HN _ _ HS.out HRd.out).out ?_; rintro e w1 ⟨rfl, hs1, hr1, hg1⟩; replace hb0 := hb0.trans (grown_below hg1 (Nat.le_refl _) hb0.size))
      | (go_at_call 134; refine Calls.mono (HE _ _ hs1 hr1).out ?_; rw [hev]; rintro e w3 ⟨rfl, hg3⟩; have hs3 := hs1.kept (grown_below hg3 hle (hs1.le)); replace hb0 := hb0.trans (grown_below hg3 (Nat.le_refl _) hb0.size))
      | (go_at_call 165; refine Calls.mono (HF _).out ?_; rw [hB]; rintro e w4 ⟨rfl, hb4⟩; have g6 := (hs3.below hb4).g6; replace hb0 := hb0.trans (hb4.mono hb0.size)))
    go_ret2
    exact ⟨rfl, hb0⟩
set_option maxHeartbeats 4000000 in
set_option maxRecDepth 100000 in
theorem readChange_none (b2 o2 c2 : Nat) (f : List Int) (w : World) (A : Nat → Addr) (B : Nat) (hf9 : 9 ≤ f.length) (hs : Sents w A B) (hv : Bs w (.slice (some ⟨b2, o2, none⟩) (f.length - 8) c2) (f.drop 8)) (hc : f.length - 8 ≤ c2) (hk : inB (f[8]?.getD 0) 11 13 = false) :
    Calls Tryd.prog 118 #[.slice (some ⟨b2, o2, none⟩) (f.length - 8) c2] w fun e w' => e = .returned (if bodyE f = 0 then .tuple #[chR (frec f), .nilIface] else .tuple #[.nilIface, refV (A (bodyE f)) 0]) ∧ Below w.heap.size w w' := by
  have HV : Hid (Bs w (.slice (some ⟨b2, o2, none⟩) (f.length - 8) c2) (f.drop 8)) := hv
  obtain ⟨hm, h8, a', c', ee, hcell⟩ := hv
  injection ee with e1' e2' e3'
  subst e1' e3'
  obtain ⟨b3, o3, ex, hj⟩ := hcell 0 (by rw [List.length_drop]; omega)
  injection ex with ex
  injection ex with ex1 ex2
  subst ex1 ex2
  have k0 := hj 0 (by rw [List.length_drop]; omega)
  have hk8 : (f.drop 8)[0]?.getD 0 = f[8]?.getD 0 := by simp
  rw [hk8, Nat.add_zero] at k0
  have hkb := byte_at h8 0
  rw [hk8] at hkb
  clear hj hcell hk8 h8 e2' hm
  have hn1 : 1 ≤ f.length - 8 := by omega
  have hd9 := HV.out.drop hc HV.out.lt 1 (by rw [List.length_drop]; omega)
  rw [List.drop_drop] at hd9
  obtain ⟨a3, n3, c3, e3, hc3, hD3⟩ := hd9.2
  have t1 : ∀ wx, (Instr.slice 22 (.slice (some ⟨b2, o2, none⟩) (f.length - 8) c2) (some (.int .i64 1)) none none).run Tryd.prog wx = .ok (sliced (some ⟨b2, o2, none⟩) 1 (f.length - 8) c2 1) wx := slice_l _ (f.length - 8) c2 1 hn1
  rw [e3] at t1 hd9
  have HB9 : Hid (Bs w (.slice a3 n3 c3) (f.drop 9)) := hd9.1
  clear e3 hd9
  have HS : Hid (Sents (w.alloc (.cells #[.slice a3 n3 c3, .nilIface] 192)) A B) := hs.below ((Below.refl _ _).alloc (Nat.le_refl _) _)
  have HRd : Hid (Rd (w.alloc (.cells #[.slice a3 n3 c3, .nilIface] 192)) w.heap.size A B (w.heap.size + 1) (some (f.drop 9))) := by
    refine ⟨hs.le, by omega, by simp, by simp, ⟨.slice a3 n3 c3, by simp, HB9.out.below ((Below.refl _ _).alloc (Nat.le_refl _) _), ⟨_, _, _, rfl, hc3, fun hp => ?_⟩⟩, by simp⟩
    obtain ⟨x, rfl, hx⟩ := hD3 hp
    exact ⟨x, rfl, by omega⟩
  have hb0 : Below w.heap.size w (w.alloc (.cells #[.slice a3 n3 c3, .nilIface] 192)) := (Below.refl _ _).alloc (Nat.le_refl _) _
  have k0' := (hb0.cell (p := ⟨b2, o2, none⟩) (cell_lt k0)).trans k0
  have hle := hs.le
  have hbe : bodyE f = 4 := by unfold bodyE; rw [if_pos hk]
  rw [hbe, if_neg (by decide)]
  rw [inB_not] at hk
  have g4 := HS.out.g4
  generalize f[8]?.getD 0 = K at *
  clear hbe hc hc3 hD3 hf9 HV HB9
  have n1 : (K - 10 == 1) = false := by simp; omega
  have n2 : (K - 10 == 2) = false := by simp; omega
  have n3 : (K - 10 == 3) = false := by simp; omega
  go_enter Tryd.func118, Tryd.ntmps118
  go_wp2_with (fail)
  go_quiet (fail)
  go_wp2
  go_ret2
  exact ⟨rfl, ⟨hb0.os, hb0.tape, hb0.output, hb0.size, hb0.block⟩⟩
theorem readChange_any (b2 o2 c2 : Nat) (f : List Int) (w : World) (A : Nat → Addr) (B : Nat) (hf9 : 9 ≤ f.length) (hs : Sents w A B) (hv : Bs w (.slice (some ⟨b2, o2, none⟩) (f.length - 8) c2) (f.drop 8)) (hc : f.length - 8 ≤ c2) :
    Calls Tryd.prog 118 #[.slice (some ⟨b2, o2, none⟩) (f.length - 8) c2] w fun e w' => e = .returned (if bodyE f = 0 then .tuple #[chR (frec f), .nilIface] else .tuple #[.nilIface, refV (A (bodyE f)) 0]) ∧ Below w.heap.size w w' := by
  cases h : inB (f[8]?.getD 0) 11 13
  · exact readChange_none b2 o2 c2 f w A B hf9 hs hv hc h
  · rw [inB_iff] at h
    rcases (show f[8]?.getD 0 = 11 ∨ f[8]?.getD 0 = 12 ∨ f[8]?.getD 0 = 13 by omega) with h | h | h
    · exact readChange_hard b2 o2 c2 f w A B hf9 hs hv hc h
    · exact readChange_add b2 o2 c2 f w A B hf9 hs hv hc h
    · exact readChange_cut b2 o2 c2 f w A B hf9 hs hv hc h
end Go.Proofs.YtjoflnnomebkpaaDoor
