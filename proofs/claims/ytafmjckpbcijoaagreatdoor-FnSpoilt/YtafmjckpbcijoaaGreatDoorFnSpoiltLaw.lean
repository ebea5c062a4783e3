/-
  The walk of the law FnSpoilt.
-/
import Derived.Test.YtafmjckpbcijoaaGreatDoorSpoiltL
import Derived.Test.YtafmjckpbcijoaaGreatDoorEncGood
import Derived.Test.YtafmjckpbcijoaaGreatDoorDrSp
import Derived.Test.YtafmjckpbcijoaaGreatDoorSpecEncReply
import Derived.Test.YtafmjckpbcijoaaGreatDoorSpecMsgFault6
namespace Go.Proofs.YtafmjckpbcijoaaGreatDoor
open Go.RowKit
set_option linter.unusedVariables false
set_option linter.unusedSimpArgs false

theorem sp_own {u : World} {B0 : Nat} {v : Value} {L : List Int} {x : Int} {A : Nat → Addr} {B : Nat} (ho : Own u B0 v L) (hs : Sents u A B) (h0 : sumC L = 0) (hx : -100 ≤ x ∧ x < 500) :
    Calls Tryz.prog 8 #[v, .int .i64 x] u fun e w' => e = .returned (.bool true) ∧ Below u.heap.size u w' := by
  have hL := sumC_len h0
  have hb := ho.bs (by unfold maxLen; omega)
  obtain ⟨a, cap, rfl⟩ := ho.shape
  exact spoilt_any a cap L x u A B hs hb h0 hx
set_option maxHeartbeats 16000000 in
set_option maxRecDepth 100000 in
theorem lawSpoilt_walk (v1 v2 : Value) (l1 l2 : List Int) (w : World) (h1 : Bs w v1 l1) (h2 : Bs w v2 l2) (A : Nat → Addr) (B : Nat) (hN : Sents w A B) :
    Calls Tryz.prog 3 #[v1, v2] w fun e w' => e = .returned (.bool true) ∧ Below w.heap.size w w' := by
  have H1 : Hid (Bs w v1 l1) := h1
  have H2 : Hid (Bs w v2 l2) := h2
  have HN : Hid (Sents w A B) := hN
  obtain ⟨m1, _, a1, cap1, rfl, _⟩ := h1
  obtain ⟨m2, _, a2, cap2, rfl, _⟩ := h2
  unfold maxLen at m1 m2
  clear hN
  by_cases hl1 : (1048576 : Int) < l1.length
  · go_enter Tryz.func3, Tryz.ntmps3
    go_wp2
    go_ret
    exact ⟨rfl, Below.refl _ _⟩
  by_cases hl2 : (1048576 : Int) < l2.length
  · go_enter Tryz.func3, Tryz.ntmps3
    go_wp2
    go_ret
    exact ⟨rfl, Below.refl _ _⟩
  have HDs : Hid (Calls Tryz.prog 5 #[.slice a2 l2.length cap2] w fun r w' => ∃ (sv : Value) (i x : Int), r = .returned (.tuple #[sv, .int .i64 i, .int .i64 x]) ∧ -100 ≤ x ∧ x < 500 ∧ Below w.heap.size w w') := drawSpoil_any a2 cap2 l2 w H2.out (by omega)
  have HDm : Hid (∀ u : World, Below w.heap.size w u → Calls Tryz.prog 6 #[.slice a1 l1.length cap1] u fun r w' => ∃ ea ec, r = .returned (.agg #[.int .i64 (encM l1).ki, .int .i64 (encM l1).fr, .int .i64 (encM l1).td, .int .i64 (encM l1).tm, .int .i64 (encM l1).li, .int .i64 (encM l1).lt, .int .i64 (encM l1).cm, .int .i64 (encM l1).ok, .int .i64 (encM l1).hi, .slice ea (encM l1).es.length ec]) ∧ OwnE w' u.heap.size (.slice ea (encM l1).es.length ec) (encM l1).es ∧ Below u.heap.size u w') := fun u hu => drawEncodeMsg_any a1 cap1 l1 u (H1.out.below hu) (by omega)
  have HDc : Hid (∀ u : World, Below w.heap.size w u → Calls Tryz.prog 10 #[.slice a1 l1.length cap1] u fun r w' => r = .returned (.agg #[.int .i64 (encC l1).cl, .int .i64 (encC l1).sq, .int .i64 (encC l1).op, .string (encC l1).ky, .string (encC l1).vl, .string (encC l1).ol]) ∧ Below u.heap.size u w') := fun u hu => drawEncodeCall_any a1 cap1 l1 u (H1.out.below hu) (by omega)
  have HDr : Hid (∀ u : World, Below w.heap.size w u → Calls Tryz.prog 13 #[.slice a1 l1.length cap1] u fun r w' => r = .returned (.agg #[.int .i64 (encY l1).cl, .int .i64 (encY l1).sq, .int .i64 (encY l1).st, .int .i64 (encY l1).cd, .string (encY l1).vl, .int .i64 (encY l1).ld]) ∧ Below u.heap.size u w') := fun u hu => drawEncodeReply_any a1 cap1 l1 u (H1.out.below hu) (by omega)
  have hmn := encM_ok l1
  have hcn := encC_ok l1
  have hrn := encY_ok l1
  generalize encM l1 = m at *
  generalize encC l1 = c at *
  generalize encY l1 = y at *
  obtain ⟨n, hn⟩ : ∃ n, n = m.es.length := ⟨_, rfl⟩
  rw [← hn] at hmn HDm
  have Hn : Hid (n = m.es.length) := hn
  clear hn
  have HEs : Hid (∀ (u : World) (ea : Option Addr) (ec B0 : Nat), OwnE u B0 (.slice ea n ec) m.es → Es u (.slice ea n ec) m.es) := fun u ea ec B0 h => h.es (by rw [← Hn.out]; unfold maxLen; omega)
  have HFm : Hid (∀ (u : World) (ea : Option Addr) (ec B0 : Nat), OwnE u B0 (.slice ea n ec) m.es → Calls Tryz.prog 7 #[.agg #[.int .i64 m.ki, .int .i64 m.fr, .int .i64 m.td, .int .i64 m.tm, .int .i64 m.li, .int .i64 m.lt, .int .i64 m.cm, .int .i64 m.ok, .int .i64 m.hi, .slice ea n ec]] u fun r w' => r = .returned (.int .i64 (msgF m.ki m.fr m.td m.tm m.li m.lt m.cm m.ok m.hi m.es)) ∧ Below u.heap.size u w') := fun u ea ec B0 h => specMsgFault_any _ _ _ _ _ _ _ _ _ _ m.es u (HEs.out u ea ec B0 h) (by rw [← Hn.out]; omega)
  have HIm : Hid (∀ (u : World) (ea : Option Addr) (ec B0 : Nat), OwnE u B0 (.slice ea n ec) m.es → Calls Tryz.prog 9 #[.agg #[.int .i64 m.ki, .int .i64 m.fr, .int .i64 m.td, .int .i64 m.tm, .int .i64 m.li, .int .i64 m.lt, .int .i64 m.cm, .int .i64 m.ok, .int .i64 m.hi, .slice ea n ec]] u fun r w' => ∃ v', r = .returned v' ∧ Own w' u.heap.size v' (encMsg m.ki m.fr m.td m.tm m.li m.lt m.cm m.ok m.hi m.es) ∧ Below u.heap.size u w') := fun u ea ec B0 h => implEncodeMsg_any _ _ _ _ _ _ _ _ _ _ m.es u (HEs.out u ea ec B0 h) (by rw [← Hn.out]; omega)
  have hgm := fun h8 hF => encMsg_good (ki := m.ki) (fr := m.fr) (td := m.td) (tm := m.tm) (li := m.li) (lt := m.lt) (cm := m.cm) (ok := m.ok) (hi := m.hi) (l := m.es) hF h8
  have HGm : Hid ((∀ x ∈ encMsg m.ki m.fr m.td m.tm m.li m.lt m.cm m.ok m.hi m.es, 0 ≤ x ∧ x ≤ 255) → msgF m.ki m.fr m.td m.tm m.li m.lt m.cm m.ok m.hi m.es = 0 → sumC (encMsg m.ki m.fr m.td m.tm m.li m.lt m.cm m.ok m.hi m.es) = 0) := hgm
  clear hgm
  generalize encMsg m.ki m.fr m.td m.tm m.li m.lt m.cm m.ok m.hi m.es = LM at *
  generalize msgF m.ki m.fr m.td m.tm m.li m.lt m.cm m.ok m.hi m.es = FM at *
  have HFc : Hid (∀ (u : World), Calls Tryz.prog 11 #[.agg #[.int .i64 c.cl, .int .i64 c.sq, .int .i64 c.op, .string c.ky, .string c.vl, .string c.ol]] u fun r w' => r = .returned (.int .i64 (cmdF c.cl c.sq c.op c.ky.size c.vl.size c.ol.size)) ∧ Below u.heap.size u w') := fun u => specCmdFault_any _ _ _ c.ky c.vl c.ol (by unfold maxLen; omega) (by unfold maxLen; omega) (by unfold maxLen; omega) u
  have HIc : Hid (∀ (u : World), Calls Tryz.prog 12 #[.agg #[.int .i64 c.cl, .int .i64 c.sq, .int .i64 c.op, .string c.ky, .string c.vl, .string c.ol]] u fun r w' => ∃ v', r = .returned v' ∧ Own w' u.heap.size v' (encCallL c.cl c.sq c.op c.ky c.vl c.ol) ∧ Below u.heap.size u w') := fun u => implEncodeCall_any _ _ _ c.ky c.vl c.ol u (by unfold maxLen; omega) (by unfold maxLen; omega) (by unfold maxLen; omega)
  have HGc : Hid ((∀ x ∈ encCallL c.cl c.sq c.op c.ky c.vl c.ol, 0 ≤ x ∧ x ≤ 255) → cmdF c.cl c.sq c.op c.ky.size c.vl.size c.ol.size = 0 → c.op ≠ 0 → sumC (encCallL c.cl c.sq c.op c.ky c.vl c.ol) = 0) := fun h8 hF hop => encCall_good hF hop h8
  generalize encCallL c.cl c.sq c.op c.ky c.vl c.ol = LC at *
  generalize cmdF c.cl c.sq c.op c.ky.size c.vl.size c.ol.size = FC at *
  have HSr : Hid (∀ (u : World), Calls Tryz.prog 14 #[.agg #[.int .i64 y.cl, .int .i64 y.sq, .int .i64 y.st, .int .i64 y.cd, .string y.vl, .int .i64 y.ld]] u fun r w' => ∃ v', r = .returned v' ∧ Own w' u.heap.size v' (encReply y.cl y.sq y.st y.cd y.ld y.vl) ∧ Below u.heap.size u w') := fun u => specEncodeReply_any _ _ _ _ _ y.vl u (by unfold maxLen; omega)
  have HIr : Hid (∀ (u : World), Calls Tryz.prog 15 #[.agg #[.int .i64 y.cl, .int .i64 y.sq, .int .i64 y.st, .int .i64 y.cd, .string y.vl, .int .i64 y.ld]] u fun r w' => ∃ v', r = .returned v' ∧ Own w' u.heap.size v' (encReply y.cl y.sq y.st y.cd y.ld y.vl) ∧ Below u.heap.size u w') := fun u => implEncodeReply_any _ _ _ _ _ y.vl u (by unfold maxLen; omega)
  have hgr : (encReply y.cl y.sq y.st y.cd y.ld y.vl) = [] ∨ ((∀ x ∈ encReply y.cl y.sq y.st y.cd y.ld y.vl, 0 ≤ x ∧ x ≤ 255) → sumC (encReply y.cl y.sq y.st y.cd y.ld y.vl) = 0) := by
    by_cases hF : repF y.cl y.sq y.st y.cd y.vl.size y.ld = 0
    · exact .inr fun h8 => encReply_good hF h8
    · exact .inl (encReply_bad hF)
  have HGr : Hid ((encReply y.cl y.sq y.st y.cd y.ld y.vl) = [] ∨ ((∀ x ∈ encReply y.cl y.sq y.st y.cd y.ld y.vl, 0 ≤ x ∧ x ≤ 255) → sumC (encReply y.cl y.sq y.st y.cd y.ld y.vl) = 0)) := hgr
  clear hgr hmn hcn hrn
  generalize encReply y.cl y.sq y.st y.cd y.ld y.vl = LR at *
  have G0 : True := trivial
  have G1 : True := trivial
  go_enter Tryz.func3, Tryz.ntmps3
  go_upto_region 5 with (first
    | (go_at_call 5; refine HDs.out.mono ?_; rintro e w1 ⟨sv, ix, x, rfl, hx1, hx2, hb1⟩; have HB1 : Hid (Below w.heap.size w w1) := hb1; clear hb1)
    | (go_at_call 6; refine (HDm.out _ HB1.out).mono ?_; rintro e w2 ⟨ea, ec, rfl, ho2, hb2⟩; have HO2 : Hid (OwnE ((w2.alloc (.cells #[.int .i64 m.ki, .int .i64 m.fr, .int .i64 m.td, .int .i64 m.tm, .int .i64 m.li, .int .i64 m.lt, .int .i64 m.cm, .int .i64 m.ok, .int .i64 m.hi, .slice ea n ec] 27))) w1.heap.size (.slice ea n ec) m.es) := ho2.below ((Below.refl _ _).alloc (Nat.le_refl _) _); have HB2 : Hid (Below w.heap.size w ((w2.alloc (.cells #[.int .i64 m.ki, .int .i64 m.fr, .int .i64 m.td, .int .i64 m.tm, .int .i64 m.li, .int .i64 m.lt, .int .i64 m.cm, .int .i64 m.ok, .int .i64 m.hi, .slice ea n ec] 27)))) := (HB1.out.trans (hb2.mono HB1.out.size)).alloc (Nat.le_trans HB1.out.size hb2.size) _; have BM2 : Hid (Blk ((w2.alloc (.cells #[.int .i64 m.ki, .int .i64 m.fr, .int .i64 m.td, .int .i64 m.tm, .int .i64 m.li, .int .i64 m.lt, .int .i64 m.cm, .int .i64 m.ok, .int .i64 m.hi, .slice ea n ec] 27))) w2.heap.size #[.int .i64 m.ki, .int .i64 m.fr, .int .i64 m.td, .int .i64 m.tm, .int .i64 m.li, .int .i64 m.lt, .int .i64 m.cm, .int .i64 m.ok, .int .i64 m.hi, .slice ea n ec] 27) := Blk.new _ _ _; clear ho2 hb2)
    | (have hG0 := G0; refine gate_st 27 (.tmp 8) (.tmp 26) rfl ?_; clear hG0 G0; refine wpl_store_last rfl 27 (.tmp 8) (.tmp 26) rfl w2.heap.size rfl rfl rfl infoMsgB rfl rfl (by simp [Value.oneCell']) ?_))
  have hpn : ∀ (a : Act) (v : Value), a.put none v = a := fun _ _ => rfl
  simp only [hpn]
  clear hpn
  go_cut [36] (fun s wx => s = .bool false ∧ Below w.heap.size w wx)
  case first =>
    by_cases hF : FM = 0
    · subst hF
      have HGz : Hid ((∀ x ∈ LM, 0 ≤ x ∧ x ≤ 255) → sumC LM = 0) := fun h => HGm.out h rfl
      go_wp2_with (first
        | (have hBA := BM2; refine gate_ld 27 (.tmp 8) rfl ?_; clear hBA; refine wpl_load_blk rfl 27 (.tmp 8) rfl (w2.heap.size) rfl BM2.out Tryz.underlying27 rfl infoMsgB rfl ?_)
        | (go_at_call 7; refine (HFm.out _ ea ec _ HO2.out).mono ?_; rintro e w3 ⟨rfl, hb3⟩; have HO3 : Hid (OwnE w3 w1.heap.size (.slice ea n ec) m.es) := HO2.out.below hb3; have BM3 : Hid (Blk w3 w2.heap.size #[.int .i64 m.ki, .int .i64 m.fr, .int .i64 m.td, .int .i64 m.tm, .int .i64 m.li, .int .i64 m.lt, .int .i64 m.cm, .int .i64 m.ok, .int .i64 m.hi, .slice ea n ec] 27) := BM2.out.below hb3 BM2.out.lt; have HB3 : Hid (Below w.heap.size w w3) := HB2.out.trans (hb3.mono HB2.out.size); clear hb3 BM2 HO2)
        | (have hBA := BM3; refine gate_ld 27 (.tmp 8) rfl ?_; clear hBA; refine wpl_load_blkG rfl rfl 27 (.tmp 8) rfl (w2.heap.size) rfl BM3.out Tryz.underlying27 rfl infoMsgB rfl ?_)
        | (go_at_call 9; refine (HIm.out _ ea ec _ HO3.out).mono ?_; rintro e w4 ⟨v4, rfl, ho4, hb4⟩; have HO4 : Hid (Own w4 w3.heap.size v4 LM) := ho4; have HB4 : Hid (Below w.heap.size w w4) := HB3.out.trans (hb4.mono HB3.out.size); clear hb4 ho4)
        | (go_at_call 8; refine (sp_own HO4.out (HN.out.below HB4.out) (HGz.out HO4.out.1) ⟨hx1, hx2⟩).mono ?_; rintro e w5 ⟨rfl, hb5⟩; have HB5 : Hid (Below w.heap.size w w5) := HB4.out.trans (hb5.mono HB4.out.size); clear hb5))
      go_meet
      exact ⟨rfl, HB5.out⟩
    · have hq : (FM == 0) = false := by rw [beq_eq_false_iff_ne]; exact hF
      clear hF
      go_wp2_with (first
        | (have hBA := BM2; refine gate_ld 27 (.tmp 8) rfl ?_; clear hBA; refine wpl_load_blk rfl 27 (.tmp 8) rfl (w2.heap.size) rfl BM2.out Tryz.underlying27 rfl infoMsgB rfl ?_)
        | (go_at_call 7; refine (HFm.out _ ea ec _ HO2.out).mono ?_; rintro e w3 ⟨rfl, hb3⟩; have HB3 : Hid (Below w.heap.size w w3) := HB2.out.trans (hb3.mono HB2.out.size); clear hb3 BM2 HO2))
      go_meet
      exact ⟨rfl, HB3.out⟩
  case rest =>
    obtain ⟨rfl, hbc⟩ := hcut
    have HBc : Hid (Below w.heap.size w wc) := hbc
    clear hbc HB2 BM2 HO2 HFm HIm HGm HEs HDm
    obtain ⟨W6, hW6⟩ : ∃ W6, W6 = wc := ⟨_, rfl⟩
    subst hW6
    go_upto_region 8 with (go_at_call 10; refine (HDc.out _ HBc.out).mono ?_; rintro e w7 ⟨rfl, hb7⟩; have HB7 : Hid (Below w.heap.size w ((w7.alloc (.cells #[.int .i64 c.cl, .int .i64 c.sq, .int .i64 c.op, .string c.ky, .string c.vl, .string c.ol] 33)))) := (HBc.out.trans (hb7.mono HBc.out.size)).alloc (Nat.le_trans HBc.out.size hb7.size) _; have BC7 : Hid (Blk ((w7.alloc (.cells #[.int .i64 c.cl, .int .i64 c.sq, .int .i64 c.op, .string c.ky, .string c.vl, .string c.ol] 33))) w7.heap.size #[.int .i64 c.cl, .int .i64 c.sq, .int .i64 c.op, .string c.ky, .string c.vl, .string c.ol] 33) := Blk.new _ _ _; clear hb7)
    go_cut [53] (fun s wx => s = .bool false ∧ Below w.heap.size w wx)
    case first =>
      by_cases hF : FC = 0
      · subst hF
        by_cases hop : c.op = 0
        · have hq : (c.op != 0) = false := by simpa using hop
          clear hop HGc
          go_wp2_with (first
            | (have hBA := BC7; refine gate_ld 33 (.tmp 9) rfl ?_; clear hBA; refine wpl_load_blk rfl 33 (.tmp 9) rfl (w7.heap.size) rfl BC7.out Tryz.underlying33 rfl infoCmdB rfl ?_)
            | (go_at_call 11; refine (HFc.out _).mono ?_; rintro e w8 ⟨rfl, hb8⟩; have BC8 : Hid (Blk w8 w7.heap.size #[.int .i64 c.cl, .int .i64 c.sq, .int .i64 c.op, .string c.ky, .string c.vl, .string c.ol] 33) := BC7.out.below hb8 BC7.out.lt; have HB8 : Hid (Below w.heap.size w w8) := HB7.out.trans (hb8.mono HB7.out.size); have cc8 := BC8.out.cell; clear hb8 BC7))
          go_meet
          exact ⟨rfl, HB8.out⟩
        · have hq : (c.op != 0) = true := by simpa using hop
          have HGz : Hid ((∀ x ∈ LC, 0 ≤ x ∧ x ≤ 255) → sumC LC = 0) := fun h => HGc.out h rfl hop
          clear hop HGc
          go_wp2_with (first
            | (have hBA := BC7; refine gate_ld 33 (.tmp 9) rfl ?_; clear hBA; refine wpl_load_blk rfl 33 (.tmp 9) rfl (w7.heap.size) rfl BC7.out Tryz.underlying33 rfl infoCmdB rfl ?_)
            | (go_at_call 11; refine (HFc.out _).mono ?_; rintro e w8 ⟨rfl, hb8⟩; have BC8 : Hid (Blk w8 w7.heap.size #[.int .i64 c.cl, .int .i64 c.sq, .int .i64 c.op, .string c.ky, .string c.vl, .string c.ol] 33) := BC7.out.below hb8 BC7.out.lt; have HB8 : Hid (Below w.heap.size w w8) := HB7.out.trans (hb8.mono HB7.out.size); have cc8 := BC8.out.cell; clear hb8 BC7)
            | (have hBA := BC8; refine gate_ld 33 (.tmp 9) rfl ?_; clear hBA; refine wpl_load_blkG rfl rfl 33 (.tmp 9) rfl (w7.heap.size) rfl BC8.out Tryz.underlying33 rfl infoCmdB rfl ?_)
            | (go_at_call 12; refine (HIc.out _).mono ?_; rintro e w4 ⟨v4, rfl, ho4, hb4⟩; have HO4 : Hid (Own w4 w8.heap.size v4 LC) := ho4; have HB4 : Hid (Below w.heap.size w w4) := HB8.out.trans (hb4.mono HB8.out.size); clear hb4 ho4)
            | (go_at_call 8; refine (sp_own HO4.out (HN.out.below HB4.out) (HGz.out HO4.out.1) ⟨hx1, hx2⟩).mono ?_; rintro e w5 ⟨rfl, hb5⟩; have HB5 : Hid (Below w.heap.size w w5) := HB4.out.trans (hb5.mono HB4.out.size); clear hb5))
          go_meet
          exact ⟨rfl, HB5.out⟩
      · have hq : (FC == 0) = false := by rw [beq_eq_false_iff_ne]; exact hF
        clear hF
        go_wp2_with (first
          | (have hBA := BC7; refine gate_ld 33 (.tmp 9) rfl ?_; clear hBA; refine wpl_load_blk rfl 33 (.tmp 9) rfl (w7.heap.size) rfl BC7.out Tryz.underlying33 rfl infoCmdB rfl ?_)
          | (go_at_call 11; refine (HFc.out _).mono ?_; rintro e w8 ⟨rfl, hb8⟩; have BC8 : Hid (Blk w8 w7.heap.size #[.int .i64 c.cl, .int .i64 c.sq, .int .i64 c.op, .string c.ky, .string c.vl, .string c.ol] 33) := BC7.out.below hb8 BC7.out.lt; have HB8 : Hid (Below w.heap.size w w8) := HB7.out.trans (hb8.mono HB7.out.size); have cc8 := BC8.out.cell; clear hb8 BC7))
        go_meet
        exact ⟨rfl, HB8.out⟩
    case rest =>
      obtain ⟨rfl, hbc⟩ := hcut
      have HBd : Hid (Below w.heap.size w wc) := hbc
      clear hbc HB7 BC7 HFc HIc HGc HDc
      obtain ⟨W9, hW9⟩ : ∃ W9, W9 = wc := ⟨_, rfl⟩
      subst hW9
      go_upto_region 11 with (go_at_call 13; refine (HDr.out _ HBd.out).mono ?_; rintro e w10 ⟨rfl, hb10⟩; have HB10 : Hid (Below w.heap.size w ((w10.alloc (.cells #[.int .i64 y.cl, .int .i64 y.sq, .int .i64 y.st, .int .i64 y.cd, .string y.vl, .int .i64 y.ld] 38)))) := (HBd.out.trans (hb10.mono HBd.out.size)).alloc (Nat.le_trans HBd.out.size hb10.size) _; have BR10 : Hid (Blk ((w10.alloc (.cells #[.int .i64 y.cl, .int .i64 y.sq, .int .i64 y.st, .int .i64 y.cd, .string y.vl, .int .i64 y.ld] 38))) w10.heap.size #[.int .i64 y.cl, .int .i64 y.sq, .int .i64 y.st, .int .i64 y.cd, .string y.vl, .int .i64 y.ld] 38) := Blk.new _ _ _; clear hb10)
      rcases HGr.out with hz | hz
      · subst hz
        clear HGr
        go_wp2_with (first
          | (have hBA := BR10; refine gate_ld 38 (.tmp 10) rfl ?_; clear hBA; refine wpl_load_blk rfl 38 (.tmp 10) rfl (w10.heap.size) rfl BR10.out Tryz.underlying38 rfl infoRepB rfl ?_)
          | (go_at_call 14; refine (HSr.out _).mono ?_; rintro e w11 ⟨v11, rfl, ho11, hb11⟩; have HB11 : Hid (Below w.heap.size w w11) := HB10.out.trans (hb11.mono HB10.out.size); obtain ⟨a11, c11, rfl⟩ := ho11.shape; clear hb11 ho11))
        go_ret
        exact ⟨rfl, HB11.out⟩
      · have HGz : Hid ((∀ x ∈ LR, 0 ≤ x ∧ x ≤ 255) → sumC LR = 0) := hz
        clear HGr hz
        go_wp2_with (first
          | (have hBA := BR10; refine gate_ld 38 (.tmp 10) rfl ?_; clear hBA; refine wpl_load_blk rfl 38 (.tmp 10) rfl (w10.heap.size) rfl BR10.out Tryz.underlying38 rfl infoRepB rfl ?_)
          | (go_at_call 14; refine (HSr.out _).mono ?_; rintro e w11 ⟨v11, rfl, ho11, hb11⟩; have HB11 : Hid (Below w.heap.size w w11) := HB10.out.trans (hb11.mono HB10.out.size); have BR11 : Hid (Blk w11 w10.heap.size #[.int .i64 y.cl, .int .i64 y.sq, .int .i64 y.st, .int .i64 y.cd, .string y.vl, .int .i64 y.ld] 38) := BR10.out.below hb11 BR10.out.lt; have hs0 := sumC_len (HGz.out ho11.1); obtain ⟨a11, c11, rfl⟩ := ho11.shape; have hne0 : ((LR.length : Int) == 0) = false := (by rw [beq_eq_false_iff_ne]; omega); clear hb11 ho11 BR10)
          | (have hBA := BR11; refine gate_ld 38 (.tmp 10) rfl ?_; clear hBA; refine wpl_load_blkG rfl rfl 38 (.tmp 10) rfl (w10.heap.size) rfl BR11.out Tryz.underlying38 rfl infoRepB rfl ?_)
          | (go_at_call 15; refine (HIr.out _).mono ?_; rintro e w4 ⟨v4, rfl, ho4, hb4⟩; have HO4 : Hid (Own w4 w11.heap.size v4 LR) := ho4; have HB4 : Hid (Below w.heap.size w w4) := HB11.out.trans (hb4.mono HB11.out.size); clear hb4 ho4)
          | (go_at_call 8; refine (sp_own HO4.out (HN.out.below HB4.out) (HGz.out HO4.out.1) ⟨hx1, hx2⟩).mono ?_; rintro e w5 ⟨rfl, hb5⟩; have HB5 : Hid (Below w.heap.size w w5) := HB4.out.trans (hb5.mono HB4.out.size); clear hb5))
        go_ret
        exact ⟨rfl, HB5.out⟩
end Go.Proofs.YtafmjckpbcijoaaGreatDoor
