/-
  laws.oneForm.
-/
import Derived.Test.YtafmjckpbcijoaaGreatDoorGround3
import Derived.Test.YtafmjckpbcijoaaGreatDoorFramesP
import Derived.Test.YtafmjckpbcijoaaGreatDoorSDecMsgW
import Derived.Test.YtafmjckpbcijoaaGreatDoorSDecCallW
import Derived.Test.YtafmjckpbcijoaaGreatDoorSDecReplyW
import Derived.Test.YtafmjckpbcijoaaGreatDoorSameG
import Derived.Test.YtafmjckpbcijoaaGreatDoorSpoilD
import Derived.Deep.RegionWith
import Derived.Deep.MidRow
namespace Go.Proofs.YtafmjckpbcijoaaGreatDoor
open Go.RowKit
set_option linter.unusedVariables false
set_option linter.unusedSimpArgs false

theorem msg_form {R : List Int} (h8 : ∀ x ∈ R, 0 ≤ x ∧ x ≤ 255) : ∃ y1 x0 x1 x2 x3 x4 x5 x6 x7 x8 : Int, (∀ ev, msgAns (msgC R) (R[8]?.getD 0) (rdMsg (some (R.drop 9))) ev = .agg #[.int .i64 ((msgC R).1 : Nat), .int .i64 y1, .int .i64 x0, .int .i64 x1, .int .i64 x2, .int .i64 x3, .int .i64 x4, .int .i64 x5, .int .i64 x6, .int .i64 x7, .int .i64 x8, ev]) ∧ (msgEs (msgC R) (rdMsg (some (R.drop 9)))).length ≤ 32 ∧ ((msgC R).1 = 0 → encMsg x0 x1 x2 x3 x4 x5 x6 x7 x8 (msgEs (msgC R) (rdMsg (some (R.drop 9)))) = R) := by
  by_cases h : (msgC R).1 = 0
  · refine ⟨0, R[8]?.getD 0, (rdMsg (some (R.drop 9))).fr, (rdMsg (some (R.drop 9))).tq, (rdMsg (some (R.drop 9))).tm, (rdMsg (some (R.drop 9))).li, (rdMsg (some (R.drop 9))).lt, (rdMsg (some (R.drop 9))).cm, (rdMsg (some (R.drop 9))).ok, (rdMsg (some (R.drop 9))).hi, fun ev => ?_, ?_, fun _ => ?_⟩
    · unfold msgAns
      rw [if_pos h, h]
      rfl
    · unfold msgEs
      rw [if_pos h]
      exact rdMsg_len _
    · unfold msgEs
      rw [if_pos h]
      exact msg_back h8 h
  · refine ⟨(msgC R).2, 0, 0, 0, 0, 0, 0, 0, 0, 0, fun ev => ?_, ?_, fun e => absurd e h⟩
    · unfold msgAns
      rw [if_neg h]
    · unfold msgEs
      rw [if_neg h]
      simp
theorem call_form {R : List Int} (h8 : ∀ x ∈ R, 0 ≤ x ∧ x ≤ 255) : ∃ (y1 x0 x1 x2 : Int) (s0 s1 s2 : ByteArray), callAns (callC R) (rdCmd (some (R.drop 9))) = .agg #[.int .i64 ((callC R).1 : Nat), .int .i64 y1, .int .i64 x0, .int .i64 x1, .int .i64 x2, .string s0, .string s1, .string s2] ∧ (s0.size ≤ 64 ∧ s1.size ≤ 64 ∧ s2.size ≤ 64) ∧ ((callC R).1 = 0 → encCallL x0 x1 x2 s0 s1 s2 = R) := by
  by_cases h : (callC R).1 = 0
  · refine ⟨0, (rdCmd (some (R.drop 9))).cl, (rdCmd (some (R.drop 9))).sq, (rdCmd (some (R.drop 9))).op, (rdCmd (some (R.drop 9))).k, (rdCmd (some (R.drop 9))).v, (rdCmd (some (R.drop 9))).o, ?_, ⟨rdCmd_k _, rdCmd_v _, rdCmd_o _⟩, fun _ => call_back h8 h⟩
    unfold callAns
    rw [if_pos h, h]
    rfl
  · refine ⟨(callC R).2, 0, 0, 0, ⟨#[]⟩, ⟨#[]⟩, ⟨#[]⟩, ?_, by decide, fun e => absurd e h⟩
    unfold callAns
    rw [if_neg h]
theorem reply_form {R : List Int} (h8 : ∀ x ∈ R, 0 ≤ x ∧ x ≤ 255) : ∃ (y1 x0 x1 x2 x3 x4 : Int) (s0 : ByteArray), repAns (repC R) (rdReply (some (R.drop 9))) = .agg #[.int .i64 ((repC R).1 : Nat), .int .i64 y1, .int .i64 x0, .int .i64 x1, .int .i64 x2, .int .i64 x3, .string s0, .int .i64 x4] ∧ s0.size ≤ 64 ∧ ((repC R).1 = 0 → encReply x0 x1 x2 x3 x4 s0 = R) := by
  by_cases h : (repC R).1 = 0
  · refine ⟨0, (rdReply (some (R.drop 9))).cl, (rdReply (some (R.drop 9))).sq, (rdReply (some (R.drop 9))).st, (rdReply (some (R.drop 9))).cd, (rdReply (some (R.drop 9))).ld, (rdReply (some (R.drop 9))).v, ?_, rdReply_v _, fun _ => reply_back h8 h⟩
    unfold repAns
    rw [if_pos h, h]
    rfl
  · refine ⟨(repC R).2, 0, 0, 0, 0, 0, ⟨#[]⟩, ?_, by decide, fun e => absurd e h⟩
    unfold repAns
    rw [if_neg h]
theorem infoMsgO : (Tryz.prog.info? 27).map (·.size) = some 10 := by kernel_rfl
/-- the message in an answer's block -/
theorem load_msgA {w : World} {b : Nat} {c0 c1 x0 x1 x2 x3 x4 x5 x6 x7 x8 ev : Value} {t : TypeId} (h : Blk w b #[c0, c1, x0, x1, x2, x3, x4, x5, x6, x7, x8, ev] t) : (loadVar 27 ⟨b, 2, none⟩).run Tryz.prog w = .ok (.agg #[x0, x1, x2, x3, x4, x5, x6, x7, x8, ev]) w :=
  run_loadVar_mid w b 2 27 [x0, x1, x2, x3, x4, x5, x6, x7, x8, ev] _ ((range_app (xs := [c0, c1]) (ys := [x0, x1, x2, x3, x4, x5, x6, x7, x8, ev])).1 h.range).2 Tryz.underlying27 rfl infoMsgO
theorem bs_lenO {w : World} {a : Option Addr} {n c : Nat} {l : List Int} (h : Bs w (.slice a n c) l) : n = l.length ∧ l.length ≤ maxLen := by
  obtain ⟨h1, _, _, _, e, _⟩ := h
  injection e with e1 e2 e3
  exact ⟨e2, h1⟩

set_option maxHeartbeats 16000000 in
set_option maxRecDepth 100000 in
theorem oneForm_any (a1 : Option Addr) (cap1 : Nat) (l1 : List Int) (w : World) (h1 : Bs w (.slice a1 l1.length cap1) l1) (hL : l1.length ≤ 1048576) (A : Nat → Addr) (B : Nat) (hN : Sents w A B) :
    Calls Tryz.prog 20 #[.slice a1 l1.length cap1] w fun e w' => e = .returned (.bool true) ∧ Below w.heap.size w w' := by
  have H1 : Hid (Bs w (.slice a1 l1.length cap1) l1) := h1
  have HN : Hid (Sents w A B) := hN
  clear h1 hN
  have hfm := fldM
  have hfc := fldC
  have hfr := fldR
  go_enter Tryz.func20, Tryz.ntmps20
  have HDd : Hid (∀ u : World, Below w.heap.size w u → Calls Tryz.prog 41 #[.slice a1 l1.length cap1] u fun r w' => ∃ xa n c, r = .returned (.slice xa n c) ∧ n = (decL l1 1).length ∧ n ≤ c ∧ Bs w' (.slice xa n c) (decL l1 1) ∧ Below u.heap.size u w') := fun u hu => drawDecodeMsg_any a1 cap1 l1 u (H1.out.below hu) hL
  generalize decL l1 1 = R at *
  go_upto_region 2 with (go_at_call 41; refine (HDd.out _ (Below.refl w.heap.size w)).mono ?_; rintro r w1 ⟨xa, n, c, rfl, hn, hc, hb, hbel⟩; have HR1 : Hid (Bs w1 (.slice xa n c) R) := hb; have HC1 : Hid (n ≤ c) := hc; have HB1 : Hid (Below w.heap.size w w1) := (Below.refl w.heap.size w).trans (hbel.mono (Below.refl w.heap.size w).size); clear hb hn hc hbel)
  have h8 := HR1.out.2.1
  obtain ⟨y1, x0, x1, x2, x3, x4, x5, x6, x7, x8, hA, hes, hback⟩ := msg_form h8
  have HId : Hid (∀ (u : World) (xa : Option Addr) (n c : Nat), Sents u A B → Bs u (.slice xa n c) R → n ≤ c → Calls Tryz.prog 16 #[.slice xa n c] u fun e w' => ∃ ea en ec, e = .returned (.agg #[.int .i64 ((msgC R).1 : Nat), .int .i64 y1, .int .i64 x0, .int .i64 x1, .int .i64 x2, .int .i64 x3, .int .i64 x4, .int .i64 x5, .int .i64 x6, .int .i64 x7, .int .i64 x8, .slice ea en ec]) ∧ OwnE w' u.heap.size (.slice ea en ec) (msgEs (msgC R) (rdMsg (some (R.drop 9)))) ∧ Below u.heap.size u w') := fun u xa n c hs hb hc => (implDecMsg_any xa n c R u A B hs hb hc).mono fun e w' ⟨ev, he, ho, hbl⟩ => by
    rw [hA] at he
    obtain ⟨ea, ec, rfl⟩ := ho.shape
    exact ⟨_, _, _, he, ho, hbl⟩
  have HSd : Hid (∀ (u : World) (xa : Option Addr) (n c : Nat), Bs u (.slice xa n c) R → n ≤ c → Calls Tryz.prog 42 #[.slice xa n c] u fun e w' => ∃ ev, e = .returned (.agg #[.int .i64 ((msgC R).1 : Nat), .int .i64 y1, .int .i64 x0, .int .i64 x1, .int .i64 x2, .int .i64 x3, .int .i64 x4, .int .i64 x5, .int .i64 x6, .int .i64 x7, .int .i64 x8, ev]) ∧ Below u.heap.size u w') := fun u xa n c hb hc => (specDecMsg_any xa n c R u hb hc).mono fun e w' ⟨ev, he, ho, hbl⟩ => ⟨ev, by rw [hA] at he; exact he, hbl⟩
  generalize msgEs (msgC R) (rdMsg (some (R.drop 9))) = ES at *
  generalize (msgC R).1 = C1 at *
  clear hA h8
  have HBK : Hid (C1 = 0 → encMsg x0 x1 x2 x3 x4 x5 x6 x7 x8 ES = R) := hback
  clear hback
  have G0 : True := trivial
  go_upto_region 3 with (first
    | (go_at_call 41; refine (HDd.out _ HB1.out).mono ?_; rintro r w2 ⟨xb, m, d, rfl, hn, hc, hb, hbel⟩; have HR2 : Hid (Bs w2 (.slice xb m d) R) := hb; have HC2 : Hid (m ≤ d) := hc; have HB2 : Hid (Below w.heap.size w w2) := HB1.out.trans (hbel.mono HB1.out.size); have HW12 : Hid (Below w1.heap.size w1 w2) := hbel; clear hb hn hc hbel)
    | (go_at_call 16; refine (HId.out _ _ _ _ (HN.out.below HB2.out) HR2.out HC2.out).mono ?_; rintro r w3 ⟨ea, en, ec, rfl, ho3, hb3⟩; have HB3 : Hid (Below w.heap.size w (w3.alloc (.cells #[.int .i64 (C1 : Nat), .int .i64 y1, .int .i64 x0, .int .i64 x1, .int .i64 x2, .int .i64 x3, .int .i64 x4, .int .i64 x5, .int .i64 x6, .int .i64 x7, .int .i64 x8, .slice ea en ec] 43))) := (HB2.out.trans (hb3.mono HB2.out.size)).alloc (Nat.le_trans HB2.out.size hb3.size) _; have HO3 : Hid (OwnE (w3.alloc (.cells #[.int .i64 (C1 : Nat), .int .i64 y1, .int .i64 x0, .int .i64 x1, .int .i64 x2, .int .i64 x3, .int .i64 x4, .int .i64 x5, .int .i64 x6, .int .i64 x7, .int .i64 x8, .slice ea en ec] 43)) w2.heap.size (.slice ea en ec) ES) := ho3.below ((Below.refl _ _).alloc (Nat.le_refl _) _); have HR3 : Hid (Bs (w3.alloc (.cells #[.int .i64 (C1 : Nat), .int .i64 y1, .int .i64 x0, .int .i64 x1, .int .i64 x2, .int .i64 x3, .int .i64 x4, .int .i64 x5, .int .i64 x6, .int .i64 x7, .int .i64 x8, .slice ea en ec] 43)) (.slice xa n c) R) := ((HR1.out.below HW12.out).below hb3).below ((Below.refl _ _).alloc (Nat.le_refl _) _); have BM3 : Hid (Blk (w3.alloc (.cells #[.int .i64 (C1 : Nat), .int .i64 y1, .int .i64 x0, .int .i64 x1, .int .i64 x2, .int .i64 x3, .int .i64 x4, .int .i64 x5, .int .i64 x6, .int .i64 x7, .int .i64 x8, .slice ea en ec] 43)) w3.heap.size #[.int .i64 (C1 : Nat), .int .i64 y1, .int .i64 x0, .int .i64 x1, .int .i64 x2, .int .i64 x3, .int .i64 x4, .int .i64 x5, .int .i64 x6, .int .i64 x7, .int .i64 x8, .slice ea en ec] 43) := Blk.new _ _ _; clear ho3 hb3)
    | (have hG0 := G0; refine gate_st 43 (.tmp 4) (.tmp 13) rfl ?_; clear hG0 G0; refine wpl_store_last rfl 43 (.tmp 4) (.tmp 13) rfl w3.heap.size rfl rfl rfl infoMAns rfl rfl (by simp [Value.oneCell']) ?_))
  have hpn : ∀ (a : Act) (v : Value), a.put none v = a := fun _ _ => rfl
  simp only [hpn]
  clear hpn
  obtain ⟨W3, hW3⟩ : ∃ W, W = w3.alloc (.cells #[.int .i64 (C1 : Nat), .int .i64 y1, .int .i64 x0, .int .i64 x1, .int .i64 x2, .int .i64 x3, .int .i64 x4, .int .i64 x5, .int .i64 x6, .int .i64 x7, .int .i64 x8, .slice ea en ec] 43) := ⟨_, rfl⟩
  rw [← hW3] at HB3 HR3 BM3 HO3 ⊢
  clear hW3 HR2 HB2 HC2 HW12 HB1 HDd
  have hcc : ((C1 : Int) != C1) = false := by simp
  have cc3 := BM3.out.cell
  have hcq : ((C1 : Int) == C1) = true := by simp
  go_cut [32] (fun s wx => s = .bool false ∧ Below w.heap.size w wx)
  case first =>
    by_cases hc0 : C1 = 0
    · subst hc0
      have HRR : Hid (encMsg x0 x1 x2 x3 x4 x5 x6 x7 x8 ES = R) := HBK.out rfl
      first
        | go_region_with (first
          | (go_at_call 42; refine (HSd.out _ _ _ _ (HR3.out.below ((Below.refl _ _).drew)) HC1.out).mono ?_; rintro r w5 ⟨ev5, rfl, hb5⟩; have hB5 : Below W3.heap.size W3 w5 := ((Below.refl W3.heap.size W3).drew).trans hb5; have HB5 : Hid (Below w.heap.size w w5) := HB3.out.trans (hB5.mono HB3.out.size); have HR5 : Hid (Bs w5 (.slice xa n c) R) := HR3.out.below hB5; have HO5 : Hid (OwnE w5 w2.heap.size (.slice ea en ec) ES) := HO3.out.below hB5; have BM5 : Hid (Blk w5 w3.heap.size #[.int .i64 ((0 : Nat) : Int), .int .i64 y1, .int .i64 x0, .int .i64 x1, .int .i64 x2, .int .i64 x3, .int .i64 x4, .int .i64 x5, .int .i64 x6, .int .i64 x7, .int .i64 x8, .slice ea en ec] 43) := BM3.out.below hB5 BM3.out.lt; have cc5 := BM5.out.cell; have hld5 := load_msgA BM5.out; clear hb5 hB5)
          | (go_at_call 9; refine (implEncodeMsg_any _ _ _ _ _ _ _ _ _ _ ES _ (HO5.out.es (by unfold maxLen; omega)) (by omega)).mono ?_; rintro r w6 ⟨v6, rfl, ho6, hb6⟩; rw [HRR.out] at ho6; have HO6 : Hid (Own w6 w5.heap.size v6 R) := ho6; have HB6 : Hid (Below w5.heap.size w5 w6) := hb6; clear ho6 hb6)
          | (go_at_call 28; refine (sameBytes_len _ _ R R rfl _ (HO6.out.bs (bs_lenO HR5.out).2) (HR5.out.below HB6.out)).mono ?_; rintro r w7 ⟨rfl, q7, rfl⟩; rw [decide_eq_true (rfl : R = R)]; have HB7 : Hid (Below w.heap.size w (w6.drewN q7)) := (HB5.out.trans (HB6.out.mono HB5.out.size)).trans ⟨rfl, rfl, rfl, Nat.le_refl _, fun _ _ => rfl⟩))
        | fail
      all_goals go_wp2_with fail
      all_goals go_meet
      all_goals exact ⟨rfl, HB7.out⟩
    · have hc1 : ((C1 : Int) == 0) = false := by rw [beq_eq_false_iff_ne]; omega
      have hc2 : ((C1 : Int) != 0) = true := by rw [bne_iff_ne]; omega
      first
        | go_region_with (go_at_call 42; refine (HSd.out _ _ _ _ (HR3.out.below ((Below.refl _ _).drew)) HC1.out).mono ?_; rintro r w5 ⟨ev5, rfl, hb5⟩; have hB5 : Below W3.heap.size W3 w5 := ((Below.refl W3.heap.size W3).drew).trans hb5; have HB5 : Hid (Below w.heap.size w w5) := HB3.out.trans (hB5.mono HB3.out.size); have HR5 : Hid (Bs w5 (.slice xa n c) R) := HR3.out.below hB5; have HO5 : Hid (OwnE w5 w2.heap.size (.slice ea en ec) ES) := HO3.out.below hB5; have BM5 : Hid (Blk w5 w3.heap.size #[.int .i64 (C1 : Nat), .int .i64 y1, .int .i64 x0, .int .i64 x1, .int .i64 x2, .int .i64 x3, .int .i64 x4, .int .i64 x5, .int .i64 x6, .int .i64 x7, .int .i64 x8, .slice ea en ec] 43) := BM3.out.below hB5 BM3.out.lt; have cc5 := BM5.out.cell; have hld5 := load_msgA BM5.out; clear hb5 hB5)
        | fail
      all_goals go_wp2_with fail
      all_goals go_meet
      all_goals exact ⟨rfl, HB5.out⟩
  case rest =>
    obtain ⟨rfl, hbc⟩ := hcut
    have HBc : Hid (Below w.heap.size w wc) := hbc
    clear hbc HB3 BM3 HR3 cc3 HBK HSd HId HO3 hcc hcq hes HR1 HC1
    obtain ⟨WC1, hWC⟩ : ∃ W, W = wc := ⟨_, rfl⟩
    subst hWC
    obtain ⟨HBc1, _⟩ : Hid (Below w.heap.size w WC1) ∧ True := ⟨HBc, trivial⟩
    have HDd : Hid (∀ u : World, Below w.heap.size w u → Calls Tryz.prog 43 #[.slice a1 l1.length cap1] u fun r w' => ∃ xa n c, r = .returned (.slice xa n c) ∧ n = (decL l1 7).length ∧ n ≤ c ∧ Bs w' (.slice xa n c) (decL l1 7) ∧ Below u.heap.size u w') := fun u hu => drawDecodeCall_any a1 cap1 l1 u (H1.out.below hu) hL
    generalize decL l1 7 = R at *
    go_upto_region 6 with (go_at_call 43; refine (HDd.out _ HBc1.out).mono ?_; rintro r w1 ⟨xa, n, c, rfl, hn, hc, hb, hbel⟩; have HR1 : Hid (Bs w1 (.slice xa n c) R) := hb; have HC1 : Hid (n ≤ c) := hc; have HB1 : Hid (Below w.heap.size w w1) := HBc1.out.trans (hbel.mono HBc1.out.size); clear hb hn hc hbel)
    have h8 := HR1.out.2.1
    obtain ⟨y1, x0, x1, x2, s0, s1, s2, hA, hes, hback⟩ := call_form h8
    have HId : Hid (∀ (u : World) (xa : Option Addr) (n c : Nat), Sents u A B → Bs u (.slice xa n c) R → n ≤ c → Calls Tryz.prog 18 #[.slice xa n c] u fun e w' => e = .returned (.agg #[.int .i64 ((callC R).1 : Nat), .int .i64 y1, .int .i64 x0, .int .i64 x1, .int .i64 x2, .string s0, .string s1, .string s2]) ∧ Below u.heap.size u w') := fun u xa n c hs hb hc => by
      rw [← hA]
      exact implDecCall_any xa n c R u A B hs hb hc
    have HSd : Hid (∀ (u : World) (xa : Option Addr) (n c : Nat), Bs u (.slice xa n c) R → n ≤ c → Calls Tryz.prog 44 #[.slice xa n c] u fun e w' => e = .returned (.agg #[.int .i64 ((callC R).1 : Nat), .int .i64 y1, .int .i64 x0, .int .i64 x1, .int .i64 x2, .string s0, .string s1, .string s2]) ∧ Below u.heap.size u w') := fun u xa n c hb hc => by
      rw [← hA]
      exact specDecCall_any xa n c R u hb hc
    generalize (callC R).1 = C1 at *
    clear hA h8
    have HBK : Hid (C1 = 0 → encCallL x0 x1 x2 s0 s1 s2 = R) := hback
    clear hback
    have G0 : True := trivial
    go_upto_region 7 with (first
      | (go_at_call 43; refine (HDd.out _ HB1.out).mono ?_; rintro r w2 ⟨xb, m, d, rfl, hn, hc, hb, hbel⟩; have HR2 : Hid (Bs w2 (.slice xb m d) R) := hb; have HC2 : Hid (m ≤ d) := hc; have HB2 : Hid (Below w.heap.size w w2) := HB1.out.trans (hbel.mono HB1.out.size); have HW12 : Hid (Below w1.heap.size w1 w2) := hbel; clear hb hn hc hbel)
      | (go_at_call 18; refine (HId.out _ _ _ _ (HN.out.below HB2.out) HR2.out HC2.out).mono ?_; rintro r w3 ⟨rfl, hb3⟩; have HB3 : Hid (Below w.heap.size w (w3.alloc (.cells #[.int .i64 (C1 : Nat), .int .i64 y1, .int .i64 x0, .int .i64 x1, .int .i64 x2, .string s0, .string s1, .string s2] 47))) := (HB2.out.trans (hb3.mono HB2.out.size)).alloc (Nat.le_trans HB2.out.size hb3.size) _; have HR3 : Hid (Bs (w3.alloc (.cells #[.int .i64 (C1 : Nat), .int .i64 y1, .int .i64 x0, .int .i64 x1, .int .i64 x2, .string s0, .string s1, .string s2] 47)) (.slice xa n c) R) := ((HR1.out.below HW12.out).below hb3).below ((Below.refl _ _).alloc (Nat.le_refl _) _); have BM3 : Hid (Blk (w3.alloc (.cells #[.int .i64 (C1 : Nat), .int .i64 y1, .int .i64 x0, .int .i64 x1, .int .i64 x2, .string s0, .string s1, .string s2] 47)) w3.heap.size #[.int .i64 (C1 : Nat), .int .i64 y1, .int .i64 x0, .int .i64 x1, .int .i64 x2, .string s0, .string s1, .string s2] 47) := Blk.new _ _ _; clear hb3)
      | (have hG0 := G0; refine gate_st 47 (.tmp 6) (.tmp 37) rfl ?_; clear hG0 G0; refine wpl_store_last rfl 47 (.tmp 6) (.tmp 37) rfl w3.heap.size rfl rfl rfl infoCAns rfl rfl (by simp [Value.oneCell']) ?_))
    have hpn : ∀ (a : Act) (v : Value), a.put none v = a := fun _ _ => rfl
    simp only [hpn]
    clear hpn
    obtain ⟨W3, hW3⟩ : ∃ W, W = w3.alloc (.cells #[.int .i64 (C1 : Nat), .int .i64 y1, .int .i64 x0, .int .i64 x1, .int .i64 x2, .string s0, .string s1, .string s2] 47) := ⟨_, rfl⟩
    rw [← hW3] at HB3 HR3 BM3 ⊢
    clear hW3 HR2 HB2 HC2 HW12 HB1 HDd
    have hcc : ((C1 : Int) != C1) = false := by simp
    have cc3 := BM3.out.cell
    have hcq : ((C1 : Int) == C1) = true := by simp
    go_cut [56] (fun s wx => s = .bool false ∧ Below w.heap.size w wx)
    case first =>
      by_cases hc0 : C1 = 0
      · subst hc0
        have HRR : Hid (encCallL x0 x1 x2 s0 s1 s2 = R) := HBK.out rfl
        have HEc : Hid (∀ u : World, Calls Tryz.prog 12 #[.agg #[.int .i64 x0, .int .i64 x1, .int .i64 x2, .string s0, .string s1, .string s2]] u fun e w' => ∃ v', e = .returned v' ∧ Own w' u.heap.size v' R ∧ Below u.heap.size u w') := fun u => by
          rw [← HRR.out]
          exact implEncodeCall_any _ _ _ _ _ _ u (by unfold maxLen; omega) (by unfold maxLen; omega) (by unfold maxLen; omega)
        first
          | go_region_with (first
            | (go_at_call 44; refine (HSd.out _ _ _ _ (HR3.out.below ((Below.refl _ _).drew)) HC1.out).mono ?_; rintro r w5 ⟨rfl, hb5⟩; have hB5 : Below W3.heap.size W3 w5 := ((Below.refl W3.heap.size W3).drew).trans hb5; have HB5 : Hid (Below w.heap.size w w5) := HB3.out.trans (hB5.mono HB3.out.size); have HR5 : Hid (Bs w5 (.slice xa n c) R) := HR3.out.below hB5; have BM5 : Hid (Blk w5 w3.heap.size #[.int .i64 ((0 : Nat) : Int), .int .i64 y1, .int .i64 x0, .int .i64 x1, .int .i64 x2, .string s0, .string s1, .string s2] 47) := BM3.out.below hB5 BM3.out.lt; have cc5 := BM5.out.cell; clear hb5 hB5)
            | (go_at_call 12; refine (HEc.out _).mono ?_; rintro r w6 ⟨v6, rfl, ho6, hb6⟩; have HO6 : Hid (Own w6 w5.heap.size v6 R) := ho6; have HB6 : Hid (Below w5.heap.size w5 w6) := hb6; clear ho6 hb6)
            | (go_at_call 28; refine (sameBytes_len _ _ R R rfl _ (HO6.out.bs (bs_lenO HR5.out).2) (HR5.out.below HB6.out)).mono ?_; rintro r w7 ⟨rfl, q7, rfl⟩; rw [decide_eq_true (rfl : R = R)]; have HB7 : Hid (Below w.heap.size w (w6.drewN q7)) := (HB5.out.trans (HB6.out.mono HB5.out.size)).trans ⟨rfl, rfl, rfl, Nat.le_refl _, fun _ _ => rfl⟩))
          | fail
        all_goals go_wp2_with fail
        all_goals go_meet
        all_goals exact ⟨rfl, HB7.out⟩
      · have hc1 : ((C1 : Int) == 0) = false := by rw [beq_eq_false_iff_ne]; omega
        have hc2 : ((C1 : Int) != 0) = true := by rw [bne_iff_ne]; omega
        first
          | go_region_with (go_at_call 44; refine (HSd.out _ _ _ _ (HR3.out.below ((Below.refl _ _).drew)) HC1.out).mono ?_; rintro r w5 ⟨rfl, hb5⟩; have hB5 : Below W3.heap.size W3 w5 := ((Below.refl W3.heap.size W3).drew).trans hb5; have HB5 : Hid (Below w.heap.size w w5) := HB3.out.trans (hB5.mono HB3.out.size); have HR5 : Hid (Bs w5 (.slice xa n c) R) := HR3.out.below hB5; have BM5 : Hid (Blk w5 w3.heap.size #[.int .i64 (C1 : Nat), .int .i64 y1, .int .i64 x0, .int .i64 x1, .int .i64 x2, .string s0, .string s1, .string s2] 47) := BM3.out.below hB5 BM3.out.lt; have cc5 := BM5.out.cell; clear hb5 hB5)
          | fail
        all_goals go_wp2_with fail
        all_goals go_meet
        all_goals exact ⟨rfl, HB5.out⟩
    case rest =>
      obtain ⟨rfl, hbc⟩ := hcut
      have HBc : Hid (Below w.heap.size w wc) := hbc
      clear hbc HB3 BM3 HR3 cc3 HBK HSd HId hcc hcq hes HR1 HC1
      obtain ⟨WC2, hWC⟩ : ∃ W, W = wc := ⟨_, rfl⟩
      subst hWC
      obtain ⟨HBc2, _⟩ : Hid (Below w.heap.size w WC2) ∧ True := ⟨HBc, trivial⟩
      have HDd : Hid (∀ u : World, Below w.heap.size w u → Calls Tryz.prog 45 #[.slice a1 l1.length cap1] u fun r w' => ∃ xa n c, r = .returned (.slice xa n c) ∧ n = (decL l1 8).length ∧ n ≤ c ∧ Bs w' (.slice xa n c) (decL l1 8) ∧ Below u.heap.size u w') := fun u hu => drawDecodeReply_any a1 cap1 l1 u (H1.out.below hu) hL
      generalize decL l1 8 = R at *
      go_upto_region 10 with (go_at_call 45; refine (HDd.out _ HBc2.out).mono ?_; rintro r w1 ⟨xa, n, c, rfl, hn, hc, hb, hbel⟩; have HR1 : Hid (Bs w1 (.slice xa n c) R) := hb; have HC1 : Hid (n ≤ c) := hc; have HB1 : Hid (Below w.heap.size w w1) := HBc2.out.trans (hbel.mono HBc2.out.size); clear hb hn hc hbel)
      have h8 := HR1.out.2.1
      obtain ⟨y1, x0, x1, x2, x3, x4, s0, hA, hes, hback⟩ := reply_form h8
      have HId : Hid (∀ (u : World) (xa : Option Addr) (n c : Nat), Sents u A B → Bs u (.slice xa n c) R → n ≤ c → Calls Tryz.prog 19 #[.slice xa n c] u fun e w' => e = .returned (.agg #[.int .i64 ((repC R).1 : Nat), .int .i64 y1, .int .i64 x0, .int .i64 x1, .int .i64 x2, .int .i64 x3, .string s0, .int .i64 x4]) ∧ Below u.heap.size u w') := fun u xa n c hs hb hc => by
        rw [← hA]
        exact implDecReply_any xa n c R u A B hs hb hc
      have HSd : Hid (∀ (u : World) (xa : Option Addr) (n c : Nat), Bs u (.slice xa n c) R → n ≤ c → Calls Tryz.prog 46 #[.slice xa n c] u fun e w' => e = .returned (.agg #[.int .i64 ((repC R).1 : Nat), .int .i64 y1, .int .i64 x0, .int .i64 x1, .int .i64 x2, .int .i64 x3, .string s0, .int .i64 x4]) ∧ Below u.heap.size u w') := fun u xa n c hb hc => by
        rw [← hA]
        exact specDecReply_any xa n c R u hb hc
      generalize (repC R).1 = C1 at *
      clear hA h8
      have HBK : Hid (C1 = 0 → encReply x0 x1 x2 x3 x4 s0 = R) := hback
      clear hback
      have G0 : True := trivial
      go_upto_region 11 with (first
        | (go_at_call 45; refine (HDd.out _ HB1.out).mono ?_; rintro r w2 ⟨xb, m, d, rfl, hn, hc, hb, hbel⟩; have HR2 : Hid (Bs w2 (.slice xb m d) R) := hb; have HC2 : Hid (m ≤ d) := hc; have HB2 : Hid (Below w.heap.size w w2) := HB1.out.trans (hbel.mono HB1.out.size); have HW12 : Hid (Below w1.heap.size w1 w2) := hbel; clear hb hn hc hbel)
        | (go_at_call 19; refine (HId.out _ _ _ _ (HN.out.below HB2.out) HR2.out HC2.out).mono ?_; rintro r w3 ⟨rfl, hb3⟩; have HB3 : Hid (Below w.heap.size w (w3.alloc (.cells #[.int .i64 (C1 : Nat), .int .i64 y1, .int .i64 x0, .int .i64 x1, .int .i64 x2, .int .i64 x3, .string s0, .int .i64 x4] 50))) := (HB2.out.trans (hb3.mono HB2.out.size)).alloc (Nat.le_trans HB2.out.size hb3.size) _; have HR3 : Hid (Bs (w3.alloc (.cells #[.int .i64 (C1 : Nat), .int .i64 y1, .int .i64 x0, .int .i64 x1, .int .i64 x2, .int .i64 x3, .string s0, .int .i64 x4] 50)) (.slice xa n c) R) := ((HR1.out.below HW12.out).below hb3).below ((Below.refl _ _).alloc (Nat.le_refl _) _); have BM3 : Hid (Blk (w3.alloc (.cells #[.int .i64 (C1 : Nat), .int .i64 y1, .int .i64 x0, .int .i64 x1, .int .i64 x2, .int .i64 x3, .string s0, .int .i64 x4] 50)) w3.heap.size #[.int .i64 (C1 : Nat), .int .i64 y1, .int .i64 x0, .int .i64 x1, .int .i64 x2, .int .i64 x3, .string s0, .int .i64 x4] 50) := Blk.new _ _ _; clear hb3)
        | (have hG0 := G0; refine gate_st 50 (.tmp 8) (.tmp 61) rfl ?_; clear hG0 G0; refine wpl_store_last rfl 50 (.tmp 8) (.tmp 61) rfl w3.heap.size rfl rfl rfl infoRAns rfl rfl (by simp [Value.oneCell']) ?_))
      have hpn : ∀ (a : Act) (v : Value), a.put none v = a := fun _ _ => rfl
      simp only [hpn]
      clear hpn
      obtain ⟨W3, hW3⟩ : ∃ W, W = w3.alloc (.cells #[.int .i64 (C1 : Nat), .int .i64 y1, .int .i64 x0, .int .i64 x1, .int .i64 x2, .int .i64 x3, .string s0, .int .i64 x4] 50) := ⟨_, rfl⟩
      rw [← hW3] at HB3 HR3 BM3 ⊢
      clear hW3 HR2 HB2 HC2 HW12 HB1 HDd
      have hcc : ((C1 : Int) != C1) = false := by simp
      have cc3 := BM3.out.cell
      have hcq : ((C1 : Int) == C1) = true := by simp
      have HNIL : True := trivial
      by_cases hc0 : C1 = 0
      · subst hc0
        have HRR : Hid (encReply x0 x1 x2 x3 x4 s0 = R) := HBK.out rfl
        have HEc : Hid (∀ u : World, Calls Tryz.prog 15 #[.agg #[.int .i64 x0, .int .i64 x1, .int .i64 x2, .int .i64 x3, .string s0, .int .i64 x4]] u fun e w' => ∃ v', e = .returned v' ∧ Own w' u.heap.size v' R ∧ Below u.heap.size u w') := fun u => by
          rw [← HRR.out]
          exact implEncodeReply_any _ _ _ _ _ _ u (by unfold maxLen; omega)
        first
          | go_region_with (first
            | (go_at_call 46; refine (HSd.out _ _ _ _ (HR3.out.below ((Below.refl _ _).drew)) HC1.out).mono ?_; rintro r w5 ⟨rfl, hb5⟩; have hB5 : Below W3.heap.size W3 w5 := ((Below.refl W3.heap.size W3).drew).trans hb5; have HB5 : Hid (Below w.heap.size w w5) := HB3.out.trans (hB5.mono HB3.out.size); have HR5 : Hid (Bs w5 (.slice xa n c) R) := HR3.out.below hB5; have BM5 : Hid (Blk w5 w3.heap.size #[.int .i64 ((0 : Nat) : Int), .int .i64 y1, .int .i64 x0, .int .i64 x1, .int .i64 x2, .int .i64 x3, .string s0, .int .i64 x4] 50) := BM3.out.below hB5 BM3.out.lt; have cc5 := BM5.out.cell; clear hb5 hB5)
            | (go_at_call 15; refine (HEc.out _).mono ?_; rintro r w6 ⟨v6, rfl, ho6, hb6⟩; have HO6 : Hid (Own w6 w5.heap.size v6 R) := ho6; have HB6 : Hid (Below w5.heap.size w5 w6) := hb6; clear ho6 hb6)
            | (go_at_call 28; refine (sameBytes_len _ _ R R rfl _ (HO6.out.bs (bs_lenO HR5.out).2) (HR5.out.below HB6.out)).mono ?_; rintro r w7 ⟨rfl, q7, rfl⟩; rw [decide_eq_true (rfl : R = R)]; have HB7 : Hid (Below w.heap.size w (w6.drewN q7)) := (HB5.out.trans (HB6.out.mono HB5.out.size)).trans ⟨rfl, rfl, rfl, Nat.le_refl _, fun _ _ => rfl⟩))
          | fail
        all_goals go_wp2_with fail
        all_goals go_ret
        all_goals exact ⟨rfl, HB7.out⟩
      · have hc1 : ((C1 : Int) == 0) = false := by rw [beq_eq_false_iff_ne]; omega
        have hc2 : ((C1 : Int) != 0) = true := by rw [bne_iff_ne]; omega
        first
          | go_region_with (go_at_call 46; refine (HSd.out _ _ _ _ (HR3.out.below ((Below.refl _ _).drew)) HC1.out).mono ?_; rintro r w5 ⟨rfl, hb5⟩; have hB5 : Below W3.heap.size W3 w5 := ((Below.refl W3.heap.size W3).drew).trans hb5; have HB5 : Hid (Below w.heap.size w w5) := HB3.out.trans (hB5.mono HB3.out.size); have HR5 : Hid (Bs w5 (.slice xa n c) R) := HR3.out.below hB5; have BM5 : Hid (Blk w5 w3.heap.size #[.int .i64 (C1 : Nat), .int .i64 y1, .int .i64 x0, .int .i64 x1, .int .i64 x2, .int .i64 x3, .string s0, .int .i64 x4] 50) := BM3.out.below hB5 BM3.out.lt; have cc5 := BM5.out.cell; clear hb5 hB5)
          | fail
        all_goals go_wp2_with fail
        all_goals go_ret
        all_goals exact ⟨rfl, HB5.out⟩
end Go.Proofs.YtafmjckpbcijoaaGreatDoor
