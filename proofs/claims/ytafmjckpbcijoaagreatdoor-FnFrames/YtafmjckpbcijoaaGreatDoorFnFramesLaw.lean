/-
  The walk of the law FnFrames.
-/
import Derived.Test.YtafmjckpbcijoaaGreatDoorOneForm
import Derived.Test.YtafmjckpbcijoaaGreatDoorFramesD
namespace Go.Proofs.YtafmjckpbcijoaaGreatDoor
open Go.RowKit
set_option linter.unusedVariables false
set_option linter.unusedSimpArgs false

theorem wpl_load_midG {P : Program} {ops : Array Oper} {rest : List Oper} {op : Oper} {a : Act} {w : World} {Q : Exit → Act → World → Prop} {gj : Nat} {gb : Bool} (hgd : op.guard = some (gj, gb)) (hy : yielded ops a.tmps gj = some gb) (ty : TypeId) (x : Operand) (ho : op.op = .load ty x)
    (b o : Nat) (hx : a.eval x = .pointer (some ⟨b, o, none⟩)) (cs : List Value) (d : TypeDesc) (hc : w.rangeAt b o cs)
    (hu : P.underlying ty = some d) (hd : d.isRow = true) (hi : (P.info? ty).map (·.size) = some cs.length)
    (h : wpList P ops Q rest (a.put op.dst (.agg cs.toArray)) w) : wpList P ops Q (op :: rest) a w :=
  wpList_step fun K hK => by
    simp only [Region.wanted, hgd, hy, beq_self_eq_true, if_true]
    exact wp_load_mid ty x ho b o hx cs d hc hu hd hi (hK _ _ h)
theorem Blk.rangeAns {w : World} {b : Nat} {c0 c1 : Value} {cs : List Value} {t : TypeId} {C : Array Value} (h : Blk w b C t) (e : C.toList = c0 :: c1 :: cs) : w.rangeAt b 2 cs := by
  have hr := h.range
  rw [e] at hr
  exact ((range_app (xs := [c0, c1]) (ys := cs)).1 hr).2
theorem encMsg_bad {ki fr td tm li lt cm ok hi : Int} {l : List Ent} (hF : ¬ msgF ki fr td tm li lt cm ok hi l = 0) : encMsg ki fr td tm li lt cm ok hi l = [] := by
  unfold encMsg
  rw [if_neg hF]
theorem encCall_bad {cl sq op : Int} {k v o : ByteArray} (hF : ¬ (cmdF cl sq op k.size v.size o.size = 0 ∧ op ≠ 0)) : encCallL cl sq op k v o = [] := by
  unfold encCallL
  rw [if_neg]
  intro h
  exact hF (callF_ok h)
theorem nil_slice {w : World} {B : Nat} {v : Value} (h : Own w B v []) : ∃ a c, v = .slice a 0 c := by
  obtain ⟨a, c, e⟩ := h.shape
  exact ⟨a, c, e⟩

set_option maxHeartbeats 16000000 in
set_option maxRecDepth 100000 in
theorem lawFrames_walk (v1 : Value) (l1 : List Int) (w : World) (h1 : Bs w v1 l1) (A : Nat → Addr) (B : Nat) (hN : Sents w A B) :
    Calls Tryz.prog 4 #[v1] w fun e w' => e = .returned (.bool true) ∧ Below w.heap.size w w' := by
  have H1 : Hid (Bs w v1 l1) := h1
  have HN : Hid (Sents w A B) := hN
  obtain ⟨m1, _, a1, cap1, rfl, _⟩ := h1
  unfold maxLen at m1
  clear hN
  by_cases hl1 : (1048576 : Int) < l1.length
  · go_enter Tryz.func4, Tryz.ntmps4
    go_wp2
    go_ret
    exact ⟨rfl, Below.refl _ _⟩
  have HDm : Hid (∀ u : World, Below w.heap.size w u → Calls Tryz.prog 6 #[.slice a1 l1.length cap1] u fun r w' => ∃ ea ec, r = .returned (.agg #[.int .i64 (encM l1).ki, .int .i64 (encM l1).fr, .int .i64 (encM l1).td, .int .i64 (encM l1).tm, .int .i64 (encM l1).li, .int .i64 (encM l1).lt, .int .i64 (encM l1).cm, .int .i64 (encM l1).ok, .int .i64 (encM l1).hi, .slice ea (encM l1).es.length ec]) ∧ OwnE w' u.heap.size (.slice ea (encM l1).es.length ec) (encM l1).es ∧ Below u.heap.size u w') := fun u hu => drawEncodeMsg_any a1 cap1 l1 u (H1.out.below hu) (by omega)
  have HDc : Hid (∀ u : World, Below w.heap.size w u → Calls Tryz.prog 10 #[.slice a1 l1.length cap1] u fun r w' => r = .returned (.agg #[.int .i64 (encC l1).cl, .int .i64 (encC l1).sq, .int .i64 (encC l1).op, .string (encC l1).ky, .string (encC l1).vl, .string (encC l1).ol]) ∧ Below u.heap.size u w') := fun u hu => drawEncodeCall_any a1 cap1 l1 u (H1.out.below hu) (by omega)
  have HDr : Hid (∀ u : World, Below w.heap.size w u → Calls Tryz.prog 13 #[.slice a1 l1.length cap1] u fun r w' => r = .returned (.agg #[.int .i64 (encY l1).cl, .int .i64 (encY l1).sq, .int .i64 (encY l1).st, .int .i64 (encY l1).cd, .string (encY l1).vl, .int .i64 (encY l1).ld]) ∧ Below u.heap.size u w') := fun u hu => drawEncodeReply_any a1 cap1 l1 u (H1.out.below hu) (by omega)
  have HOf : Hid (∀ u : World, Below w.heap.size w u → Calls Tryz.prog 20 #[.slice a1 l1.length cap1] u fun e w' => e = .returned (.bool true) ∧ Below u.heap.size u w') := fun u hu => oneForm_any a1 cap1 l1 u (H1.out.below hu) (by omega) A B (HN.out.below hu)
  have hmn := encM_ok l1
  have hcn := encC_ok l1
  have hrn := encY_ok l1
  generalize encM l1 = m at *
  generalize encC l1 = c at *
  generalize encY l1 = y at *
  obtain ⟨n, hn⟩ : ∃ n, n = m.es.length := ⟨_, rfl⟩
  rw [← hn] at hmn HDm
  have Hn : Hid (n = m.es.length) := hn
  have HnM : Hid (m.es.length ≤ 1048576) := (by omega : m.es.length ≤ 1048576)
  clear hn
  have HEs : Hid (∀ (u : World) (ev : Value) (B0 : Nat), OwnE u B0 ev m.es → Es u ev m.es) := fun u ev B0 h => h.es (by rw [← Hn.out]; unfold maxLen; omega)
  have HFm : Hid (∀ (u : World) (ea : Option Addr) (ec B0 : Nat), OwnE u B0 (.slice ea n ec) m.es → Calls Tryz.prog 7 #[.agg #[.int .i64 m.ki, .int .i64 m.fr, .int .i64 m.td, .int .i64 m.tm, .int .i64 m.li, .int .i64 m.lt, .int .i64 m.cm, .int .i64 m.ok, .int .i64 m.hi, .slice ea n ec]] u fun r w' => r = .returned (.int .i64 (msgF m.ki m.fr m.td m.tm m.li m.lt m.cm m.ok m.hi m.es)) ∧ Below u.heap.size u w') := fun u ea ec B0 h => specMsgFault_any _ _ _ _ _ _ _ _ _ _ m.es u (HEs.out u _ B0 h) HnM.out
  have HIm : Hid (∀ (u : World) (ea : Option Addr) (ec B0 : Nat), OwnE u B0 (.slice ea n ec) m.es → Calls Tryz.prog 9 #[.agg #[.int .i64 m.ki, .int .i64 m.fr, .int .i64 m.td, .int .i64 m.tm, .int .i64 m.li, .int .i64 m.lt, .int .i64 m.cm, .int .i64 m.ok, .int .i64 m.hi, .slice ea n ec]] u fun r w' => ∃ v', r = .returned v' ∧ Own w' u.heap.size v' (encMsg m.ki m.fr m.td m.tm m.li m.lt m.cm m.ok m.hi m.es) ∧ Below u.heap.size u w') := fun u ea ec B0 h => implEncodeMsg_any _ _ _ _ _ _ _ _ _ _ m.es u (HEs.out u _ B0 h) HnM.out
  have HSm : Hid (∀ (u : World) (ea fa : Option Addr) (ec fn fc B0 B1 : Nat), OwnE u B0 (.slice fa fn fc) m.es → OwnE u B1 (.slice ea n ec) m.es → Calls Tryz.prog 17 #[.agg #[.int .i64 m.ki, .int .i64 m.fr, .int .i64 m.td, .int .i64 m.tm, .int .i64 m.li, .int .i64 m.lt, .int .i64 m.cm, .int .i64 m.ok, .int .i64 m.hi, .slice fa fn fc], .agg #[.int .i64 m.ki, .int .i64 m.fr, .int .i64 m.td, .int .i64 m.tm, .int .i64 m.li, .int .i64 m.lt, .int .i64 m.cm, .int .i64 m.ok, .int .i64 m.hi, .slice ea n ec]] u fun e w' => e = .returned (.bool true) ∧ Below u.heap.size u w') := fun u ea fa ec fn fc B0 B1 h h' => sameMsg_same _ _ _ _ _ _ _ _ _ _ _ m.es u (HEs.out u _ B0 h) (HEs.out u _ B1 h') HnM.out
  have hm0 : ∀ hF : msgF m.ki m.fr m.td m.tm m.li m.lt m.cm m.ok m.hi m.es = 0, ∀ (u : World) (a : Option Addr) (len cp : Nat), Sents u A B → Bs u (.slice a len cp) (encMsg m.ki m.fr m.td m.tm m.li m.lt m.cm m.ok m.hi m.es) → len ≤ cp → (Calls Tryz.prog 16 #[.slice a len cp] u fun e w' => ∃ fa fn fc, e = .returned (.agg #[.int .i64 0, .int .i64 0, .int .i64 m.ki, .int .i64 m.fr, .int .i64 m.td, .int .i64 m.tm, .int .i64 m.li, .int .i64 m.lt, .int .i64 m.cm, .int .i64 m.ok, .int .i64 m.hi, .slice fa fn fc]) ∧ OwnE w' u.heap.size (.slice fa fn fc) m.es ∧ Below u.heap.size u w') ∧ (Calls Tryz.prog 18 #[.slice a len cp] u fun e w' => e = .returned (.agg #[.int .i64 4, .int .i64 0, .int .i64 0, .int .i64 0, .int .i64 0, .string ⟨#[]⟩, .string ⟨#[]⟩, .string ⟨#[]⟩]) ∧ Below u.heap.size u w') ∧ (Calls Tryz.prog 19 #[.slice a len cp] u fun e w' => e = .returned (.agg #[.int .i64 4, .int .i64 0, .int .i64 0, .int .i64 0, .int .i64 0, .int .i64 0, .string ⟨#[]⟩, .int .i64 0]) ∧ Below u.heap.size u w') := fun hF u a len cp hs hb hc => ⟨decMsg_0 hF a len cp u A B hs hb hc, decCall_4 a len cp _ u A B hs hb hc (msg_round hF hb.2.1).2.1, decReply_4 a len cp _ u A B hs hb hc (msg_round hF hb.2.1).2.2.1⟩
  have hmb : ¬ msgF m.ki m.fr m.td m.tm m.li m.lt m.cm m.ok m.hi m.es = 0 → encMsg m.ki m.fr m.td m.tm m.li m.lt m.cm m.ok m.hi m.es = [] := fun hF => encMsg_bad hF
  have hml := encMsg_len m.ki m.fr m.td m.tm m.li m.lt m.cm m.ok m.hi m.es
  have HM0 : Hid (∀ hF : msgF m.ki m.fr m.td m.tm m.li m.lt m.cm m.ok m.hi m.es = 0, ∀ (u : World) (a : Option Addr) (len cp : Nat), Sents u A B → Bs u (.slice a len cp) (encMsg m.ki m.fr m.td m.tm m.li m.lt m.cm m.ok m.hi m.es) → len ≤ cp → (Calls Tryz.prog 16 #[.slice a len cp] u fun e w' => ∃ fa fn fc, e = .returned (.agg #[.int .i64 0, .int .i64 0, .int .i64 m.ki, .int .i64 m.fr, .int .i64 m.td, .int .i64 m.tm, .int .i64 m.li, .int .i64 m.lt, .int .i64 m.cm, .int .i64 m.ok, .int .i64 m.hi, .slice fa fn fc]) ∧ OwnE w' u.heap.size (.slice fa fn fc) m.es ∧ Below u.heap.size u w') ∧ (Calls Tryz.prog 18 #[.slice a len cp] u fun e w' => e = .returned (.agg #[.int .i64 4, .int .i64 0, .int .i64 0, .int .i64 0, .int .i64 0, .string ⟨#[]⟩, .string ⟨#[]⟩, .string ⟨#[]⟩]) ∧ Below u.heap.size u w') ∧ (Calls Tryz.prog 19 #[.slice a len cp] u fun e w' => e = .returned (.agg #[.int .i64 4, .int .i64 0, .int .i64 0, .int .i64 0, .int .i64 0, .int .i64 0, .string ⟨#[]⟩, .int .i64 0]) ∧ Below u.heap.size u w')) := hm0
  have HMB : Hid (¬ msgF m.ki m.fr m.td m.tm m.li m.lt m.cm m.ok m.hi m.es = 0 → encMsg m.ki m.fr m.td m.tm m.li m.lt m.cm m.ok m.hi m.es = []) := hmb
  have HML : Hid ((encMsg m.ki m.fr m.td m.tm m.li m.lt m.cm m.ok m.hi m.es).length ≤ 12000) := hml
  clear hm0 hmb hml hmn
  generalize encMsg m.ki m.fr m.td m.tm m.li m.lt m.cm m.ok m.hi m.es = LM at *
  generalize msgF m.ki m.fr m.td m.tm m.li m.lt m.cm m.ok m.hi m.es = FM at *
  have hfm := fldM
  have hfc := fldC
  have hfr := fldR
  have G0 : True := trivial
  have G1 : True := trivial
  go_enter Tryz.func4, Tryz.ntmps4
  go_upto_region 4 with (first
    | (go_at_call 6; clear G0; refine (HDm.out _ (Below.refl _ _)).mono ?_; rintro e w2 ⟨ea, ec, rfl, ho2, hb2⟩; have HO2 : Hid (OwnE (w2.alloc (.cells #[.int .i64 m.ki, .int .i64 m.fr, .int .i64 m.td, .int .i64 m.tm, .int .i64 m.li, .int .i64 m.lt, .int .i64 m.cm, .int .i64 m.ok, .int .i64 m.hi, .slice ea n ec] 27)) w.heap.size (.slice ea n ec) m.es) := ho2.below ((Below.refl _ _).alloc (Nat.le_refl _) _); have HB2 : Hid (Below w.heap.size w (w2.alloc (.cells #[.int .i64 m.ki, .int .i64 m.fr, .int .i64 m.td, .int .i64 m.tm, .int .i64 m.li, .int .i64 m.lt, .int .i64 m.cm, .int .i64 m.ok, .int .i64 m.hi, .slice ea n ec] 27))) := hb2.alloc hb2.size _; have BM2 : Hid (Blk (w2.alloc (.cells #[.int .i64 m.ki, .int .i64 m.fr, .int .i64 m.td, .int .i64 m.tm, .int .i64 m.li, .int .i64 m.lt, .int .i64 m.cm, .int .i64 m.ok, .int .i64 m.hi, .slice ea n ec] 27)) w2.heap.size #[.int .i64 m.ki, .int .i64 m.fr, .int .i64 m.td, .int .i64 m.tm, .int .i64 m.li, .int .i64 m.lt, .int .i64 m.cm, .int .i64 m.ok, .int .i64 m.hi, .slice ea n ec] 27) := Blk.new _ _ _; clear ho2 hb2)
    | (have hG1 := G1; refine gate_st 27 (.tmp 3) (.tmp 14) rfl ?_; clear hG1 G1; refine wpl_store_last rfl 27 (.tmp 3) (.tmp 14) rfl w2.heap.size rfl rfl rfl infoMsgB rfl rfl (by simp [Value.oneCell']) ?_))
  have hpn : ∀ (a : Act) (v : Value), a.put none v = a := fun _ _ => rfl
  simp only [hpn]
  clear hpn
  obtain ⟨W2, hW2⟩ : ∃ W, W = w2.alloc (.cells #[.int .i64 m.ki, .int .i64 m.fr, .int .i64 m.td, .int .i64 m.tm, .int .i64 m.li, .int .i64 m.lt, .int .i64 m.cm, .int .i64 m.ok, .int .i64 m.hi, .slice ea n ec] 27) := ⟨_, rfl⟩
  rw [← hW2] at HO2 HB2 BM2 ⊢
  clear hW2
  go_upto_if 20 with (first
    | (go_at_call 6; refine (HDm.out _ HB2.out).mono ?_; rintro e w3 ⟨eb, ed, rfl, ho3, hb3⟩; have HP3 : Hid (OwnE w3 W2.heap.size (.slice eb n ed) m.es) := ho3; have HO3 : Hid (OwnE w3 w.heap.size (.slice ea n ec) m.es) := HO2.out.below hb3; have HB3 : Hid (Below w.heap.size w w3) := HB2.out.trans (hb3.mono HB2.out.size); have BM3 : Hid (Blk w3 w2.heap.size #[.int .i64 m.ki, .int .i64 m.fr, .int .i64 m.td, .int .i64 m.tm, .int .i64 m.li, .int .i64 m.lt, .int .i64 m.cm, .int .i64 m.ok, .int .i64 m.hi, .slice ea n ec] 27) := BM2.out.below hb3 BM2.out.lt; clear ho3 hb3)
    | (go_at_call 9; refine (HIm.out _ eb ed _ HP3.out).mono ?_; rintro e w4 ⟨v4, rfl, ho4, hb4⟩; obtain ⟨a4, c4, rfl⟩ := ho4.shape; have HL4 : Hid (Own w4 w3.heap.size (.slice a4 LM.length c4) LM) := ho4; have HO4 : Hid (OwnE w4 w.heap.size (.slice ea n ec) m.es) := HO3.out.below hb4; have HB4 : Hid (Below w.heap.size w w4) := HB3.out.trans (hb4.mono HB3.out.size); have BM4 : Hid (Blk w4 w2.heap.size #[.int .i64 m.ki, .int .i64 m.fr, .int .i64 m.td, .int .i64 m.tm, .int .i64 m.li, .int .i64 m.lt, .int .i64 m.cm, .int .i64 m.ok, .int .i64 m.hi, .slice ea n ec] 27) := BM3.out.below hb4 BM3.out.lt; clear ho4 hb4 HP3 HO3 BM3)
    | (have hBA := BM4; refine gate_ld 27 (.tmp 3) rfl ?_; clear hBA; refine wpl_load_blk rfl 27 (.tmp 3) rfl (w2.heap.size) rfl BM4.out Tryz.underlying27 rfl infoMsgB rfl ?_)
    | (go_at_call 7; refine (HFm.out _ ea ec _ HO4.out).mono ?_; rintro e w5 ⟨rfl, hb5⟩; have HL5 : Hid (Own w5 w3.heap.size (.slice a4 LM.length c4) LM) := HL4.out.below hb5; have HO5 : Hid (OwnE w5 w.heap.size (.slice ea n ec) m.es) := HO4.out.below hb5; have HB5 : Hid (Below w.heap.size w w5) := HB4.out.trans (hb5.mono HB4.out.size); have BM5 : Hid (Blk w5 w2.heap.size #[.int .i64 m.ki, .int .i64 m.fr, .int .i64 m.td, .int .i64 m.tm, .int .i64 m.li, .int .i64 m.lt, .int .i64 m.cm, .int .i64 m.ok, .int .i64 m.hi, .slice ea n ec] 27) := BM4.out.below hb5 BM4.out.lt; clear hb5 HO4 BM4 HL4 HB4))
  clear HB3 HO2 BM2 HB2 HIm HFm HDm
  go_cut [20] (fun _ wx => Below w.heap.size w wx)
  case first =>
    by_cases hF : FM = 0
    · have hd := HM0.out hF
      have hL0 : 0 < LM.length ∨ LM.length = 0 := by omega
      subst hF
      have HDD : Hid (∀ (u : World) (a : Option Addr) (len cp : Nat), Sents u A B → Bs u (.slice a len cp) LM → len ≤ cp → (Calls Tryz.prog 16 #[.slice a len cp] u fun e w' => ∃ fa fn fc, e = .returned (.agg #[.int .i64 0, .int .i64 0, .int .i64 m.ki, .int .i64 m.fr, .int .i64 m.td, .int .i64 m.tm, .int .i64 m.li, .int .i64 m.lt, .int .i64 m.cm, .int .i64 m.ok, .int .i64 m.hi, .slice fa fn fc]) ∧ OwnE w' u.heap.size (.slice fa fn fc) m.es ∧ Below u.heap.size u w') ∧ (Calls Tryz.prog 18 #[.slice a len cp] u fun e w' => e = .returned (.agg #[.int .i64 4, .int .i64 0, .int .i64 0, .int .i64 0, .int .i64 0, .string ⟨#[]⟩, .string ⟨#[]⟩, .string ⟨#[]⟩]) ∧ Below u.heap.size u w') ∧ (Calls Tryz.prog 19 #[.slice a len cp] u fun e w' => e = .returned (.agg #[.int .i64 4, .int .i64 0, .int .i64 0, .int .i64 0, .int .i64 0, .int .i64 0, .string ⟨#[]⟩, .int .i64 0]) ∧ Below u.heap.size u w')) := hd
      clear hd hL0 HM0
      have HBs : Hid (∀ u : World, Own u w3.heap.size (.slice a4 LM.length c4) LM → Bs u (.slice a4 LM.length c4) LM ∧ LM.length ≤ c4) := fun u h => ⟨h.bs (by have := HML.out; unfold maxLen; omega), h.capL rfl⟩
      have G2 : True := trivial
      go_upto_region 9 with (first
        | (go_at_call 16; refine (HDD.out _ _ _ _ (HN.out.below HB5.out) (HBs.out _ HL5.out).1 (HBs.out _ HL5.out).2).1.mono ?_; rintro e w6 ⟨fa, fn, fc, rfl, ho6, hb6⟩; have hal : Below w6.heap.size w6 (w6.alloc (.cells #[.int .i64 0, .int .i64 0, .int .i64 m.ki, .int .i64 m.fr, .int .i64 m.td, .int .i64 m.tm, .int .i64 m.li, .int .i64 m.lt, .int .i64 m.cm, .int .i64 m.ok, .int .i64 m.hi, .slice fa fn fc] 43)) := (Below.refl _ _).alloc (Nat.le_refl _) _; have HL6 : Hid (Own (w6.alloc (.cells #[.int .i64 0, .int .i64 0, .int .i64 m.ki, .int .i64 m.fr, .int .i64 m.td, .int .i64 m.tm, .int .i64 m.li, .int .i64 m.lt, .int .i64 m.cm, .int .i64 m.ok, .int .i64 m.hi, .slice fa fn fc] 43)) w3.heap.size (.slice a4 LM.length c4) LM) := (HL5.out.below hb6).below hal; have HO6 : Hid (OwnE (w6.alloc (.cells #[.int .i64 0, .int .i64 0, .int .i64 m.ki, .int .i64 m.fr, .int .i64 m.td, .int .i64 m.tm, .int .i64 m.li, .int .i64 m.lt, .int .i64 m.cm, .int .i64 m.ok, .int .i64 m.hi, .slice fa fn fc] 43)) w.heap.size (.slice ea n ec) m.es) := (HO5.out.below hb6).below hal; have HP6 : Hid (OwnE (w6.alloc (.cells #[.int .i64 0, .int .i64 0, .int .i64 m.ki, .int .i64 m.fr, .int .i64 m.td, .int .i64 m.tm, .int .i64 m.li, .int .i64 m.lt, .int .i64 m.cm, .int .i64 m.ok, .int .i64 m.hi, .slice fa fn fc] 43)) w5.heap.size (.slice fa fn fc) m.es) := ho6.below hal; have HB6 : Hid (Below w.heap.size w (w6.alloc (.cells #[.int .i64 0, .int .i64 0, .int .i64 m.ki, .int .i64 m.fr, .int .i64 m.td, .int .i64 m.tm, .int .i64 m.li, .int .i64 m.lt, .int .i64 m.cm, .int .i64 m.ok, .int .i64 m.hi, .slice fa fn fc] 43))) := (HB5.out.trans (hb6.mono HB5.out.size)).alloc (Nat.le_trans HB5.out.size hb6.size) _; have BM6 : Hid (Blk (w6.alloc (.cells #[.int .i64 0, .int .i64 0, .int .i64 m.ki, .int .i64 m.fr, .int .i64 m.td, .int .i64 m.tm, .int .i64 m.li, .int .i64 m.lt, .int .i64 m.cm, .int .i64 m.ok, .int .i64 m.hi, .slice fa fn fc] 43)) w2.heap.size #[.int .i64 m.ki, .int .i64 m.fr, .int .i64 m.td, .int .i64 m.tm, .int .i64 m.li, .int .i64 m.lt, .int .i64 m.cm, .int .i64 m.ok, .int .i64 m.hi, .slice ea n ec] 27) := (BM5.out.below hb6 BM5.out.lt).below hal (Nat.lt_of_lt_of_le BM5.out.lt hb6.size); have BA6 : Hid (Blk (w6.alloc (.cells #[.int .i64 0, .int .i64 0, .int .i64 m.ki, .int .i64 m.fr, .int .i64 m.td, .int .i64 m.tm, .int .i64 m.li, .int .i64 m.lt, .int .i64 m.cm, .int .i64 m.ok, .int .i64 m.hi, .slice fa fn fc] 43)) w6.heap.size #[.int .i64 0, .int .i64 0, .int .i64 m.ki, .int .i64 m.fr, .int .i64 m.td, .int .i64 m.tm, .int .i64 m.li, .int .i64 m.lt, .int .i64 m.cm, .int .i64 m.ok, .int .i64 m.hi, .slice fa fn fc] 43) := Blk.new _ _ _; clear ho6 hb6 hal)
        | (have hG2 := G2; refine gate_st 43 (.tmp 5) (.tmp 25) rfl ?_; clear hG2 G2; refine wpl_store_last rfl 43 (.tmp 5) (.tmp 25) rfl w6.heap.size rfl rfl rfl infoMAns rfl rfl (by simp [Value.oneCell']) ?_))
      have hpn : ∀ (a : Act) (v : Value), a.put none v = a := fun _ _ => rfl
      simp only [hpn]
      clear hpn
      obtain ⟨W6, hW6⟩ : ∃ W, W = w6.alloc (.cells #[.int .i64 0, .int .i64 0, .int .i64 m.ki, .int .i64 m.fr, .int .i64 m.td, .int .i64 m.tm, .int .i64 m.li, .int .i64 m.lt, .int .i64 m.cm, .int .i64 m.ok, .int .i64 m.hi, .slice fa fn fc] 43) := ⟨_, rfl⟩
      rw [← hW6] at HL6 HO6 HP6 HB6 BM6 BA6 ⊢
      clear hW6 HL5 HO5 HB5 BM5
      have ca6 := BA6.out.cell
      have G3 : True := trivial
      go_wp2_with (first
        | (have hG3 := G3; refine gate_ld 27 (.tmp 30) rfl ?_; clear hG3 G3; refine wpl_load_midG rfl rfl 27 (.tmp 30) rfl w6.heap.size 2 rfl [.int .i64 m.ki, .int .i64 m.fr, .int .i64 m.td, .int .i64 m.tm, .int .i64 m.li, .int .i64 m.lt, .int .i64 m.cm, .int .i64 m.ok, .int .i64 m.hi, .slice fa fn fc] _ (BA6.out.rangeAns rfl) Tryz.underlying27 rfl infoMsgO ?_)
        | (have hBA := BM6; refine gate_ld 27 (.tmp 3) rfl ?_; clear hBA; refine wpl_load_blkG rfl rfl 27 (.tmp 3) rfl (w2.heap.size) rfl BM6.out Tryz.underlying27 rfl infoMsgB rfl ?_)
        | (go_at_call 17; refine (HSm.out _ ea fa ec fn fc _ _ HP6.out HO6.out).mono ?_; rintro e w7 ⟨rfl, hb7⟩; have HL7 : Hid (Own w7 w3.heap.size (.slice a4 LM.length c4) LM) := HL6.out.below hb7; have HB7 : Hid (Below w.heap.size w w7) := HB6.out.trans (hb7.mono HB6.out.size); clear hb7)
        | (go_at_call 18; refine (HDD.out _ _ _ _ (HN.out.below HB7.out) (HBs.out _ HL7.out).1 (HBs.out _ HL7.out).2).2.1.mono ?_; rintro e w8 ⟨rfl, hb8⟩; have HL8 : Hid (Own w8 w3.heap.size (.slice a4 LM.length c4) LM) := HL7.out.below hb8; have HB8 : Hid (Below w.heap.size w w8) := HB7.out.trans (hb8.mono HB7.out.size); clear hb8)
        | (go_at_call 19; refine (HDD.out _ _ _ _ (HN.out.below HB8.out) (HBs.out _ HL8.out).1 (HBs.out _ HL8.out).2).2.2.mono ?_; rintro e w9 ⟨rfl, hb9⟩; have HB9 : Hid (Below w.heap.size w w9) := HB8.out.trans (hb9.mono HB8.out.size); clear hb9))
      go_meet
      exact HB9.out
    · have hq : (FM != 0) = true := by rw [bne_iff_ne]; exact hF
      have hLM := HMB.out hF
      subst hLM
      clear hF HM0 HMB
      go_wp2_with fail
      go_meet
      exact HB5.out
  case rest =>
    have HBc : Hid (Below w.heap.size w wc) := hcut
    clear hcut HB5 HO5 HL5 BM5 HM0 HMB HML HSm HEs HnM
    obtain ⟨WC, hWC⟩ : ∃ W, W = wc := ⟨_, rfl⟩
    subst hWC
    have HFc : Hid (∀ (u : World), Calls Tryz.prog 11 #[.agg #[.int .i64 c.cl, .int .i64 c.sq, .int .i64 c.op, .string c.ky, .string c.vl, .string c.ol]] u fun r w' => r = .returned (.int .i64 (cmdF c.cl c.sq c.op c.ky.size c.vl.size c.ol.size)) ∧ Below u.heap.size u w') := fun u => specCmdFault_any _ _ _ c.ky c.vl c.ol (by unfold maxLen; omega) (by unfold maxLen; omega) (by unfold maxLen; omega) u
    have HIc : Hid (∀ (u : World), Calls Tryz.prog 12 #[.agg #[.int .i64 c.cl, .int .i64 c.sq, .int .i64 c.op, .string c.ky, .string c.vl, .string c.ol]] u fun r w' => ∃ v', r = .returned v' ∧ Own w' u.heap.size v' (encCallL c.cl c.sq c.op c.ky c.vl c.ol) ∧ Below u.heap.size u w') := fun u => implEncodeCall_any _ _ _ c.ky c.vl c.ol u (by unfold maxLen; omega) (by unfold maxLen; omega) (by unfold maxLen; omega)
    have HC0 : Hid (cmdF c.cl c.sq c.op c.ky.size c.vl.size c.ol.size = 0 ∧ c.op ≠ 0 → ∀ (u : World) (a : Option Addr) (len cp : Nat), Sents u A B → Bs u (.slice a len cp) (encCallL c.cl c.sq c.op c.ky c.vl c.ol) → len ≤ cp → (Calls Tryz.prog 18 #[.slice a len cp] u fun e w' => e = .returned (.agg #[.int .i64 0, .int .i64 0, .int .i64 c.cl, .int .i64 c.sq, .int .i64 c.op, .string c.ky, .string c.vl, .string c.ol]) ∧ Below u.heap.size u w') ∧ (Calls Tryz.prog 16 #[.slice a len cp] u fun e w' => ∃ ev, e = .returned (.agg #[.int .i64 4, .int .i64 0, .int .i64 0, .int .i64 0, .int .i64 0, .int .i64 0, .int .i64 0, .int .i64 0, .int .i64 0, .int .i64 0, .int .i64 0, ev]) ∧ Below u.heap.size u w') ∧ (Calls Tryz.prog 19 #[.slice a len cp] u fun e w' => e = .returned (.agg #[.int .i64 4, .int .i64 0, .int .i64 0, .int .i64 0, .int .i64 0, .int .i64 0, .string ⟨#[]⟩, .int .i64 0]) ∧ Below u.heap.size u w')) := fun hF u a len cp hs hb hc => ⟨decCall_0 hF.1 hF.2 a len cp u A B hs hb hc, decMsg_4 a len cp _ u A B hs hb hc (call_round hF.1 hF.2 hb.2.1).2.1, decReply_4 a len cp _ u A B hs hb hc (call_round hF.1 hF.2 hb.2.1).2.2.1⟩
    have HCB : Hid (¬ (cmdF c.cl c.sq c.op c.ky.size c.vl.size c.ol.size = 0 ∧ c.op ≠ 0) → encCallL c.cl c.sq c.op c.ky c.vl c.ol = []) := fun hF => encCall_bad hF
    have HCL : Hid ((encCallL c.cl c.sq c.op c.ky c.vl c.ol).length ≤ 12000) := encCallL_len _ _ _ _ _ _
    have hEq := eqCmdC_run 9998 c.cl c.sq c.op c.ky c.vl c.ol
    generalize encCallL c.cl c.sq c.op c.ky c.vl c.ol = LC at *
    generalize cmdF c.cl c.sq c.op c.ky.size c.vl.size c.ol.size = FC at *
    obtain ⟨bb, hbb⟩ : ∃ b : Bool, b = !(FC == 0 && c.op != 0) := ⟨_, rfl⟩
    have Hbb : Hid (bb = !(FC == 0 && c.op != 0)) := hbb
    clear hbb hcn
    go_upto_region 13 with (first
      | (go_at_call 10; refine (HDc.out _ HBc.out).mono ?_; rintro e w10 ⟨rfl, hb10⟩; have HB10 : Hid (Below w.heap.size w (w10.alloc (.cells #[.int .i64 c.cl, .int .i64 c.sq, .int .i64 c.op, .string c.ky, .string c.vl, .string c.ol] 33))) := (HBc.out.trans (hb10.mono HBc.out.size)).alloc (Nat.le_trans HBc.out.size hb10.size) _; have BC10 : Hid (Blk (w10.alloc (.cells #[.int .i64 c.cl, .int .i64 c.sq, .int .i64 c.op, .string c.ky, .string c.vl, .string c.ol] 33)) w10.heap.size #[.int .i64 c.cl, .int .i64 c.sq, .int .i64 c.op, .string c.ky, .string c.vl, .string c.ol] 33) := Blk.new _ _ _; clear hb10)
      | (have hBA := BC10; refine gate_ld 33 (.tmp 6) rfl ?_; clear hBA; refine wpl_load_blk rfl 33 (.tmp 6) rfl (w10.heap.size) rfl BC10.out Tryz.underlying33 rfl infoCmdB rfl ?_)
      | (go_at_call 12; refine (HIc.out _).mono ?_; rintro e w11 ⟨v11, rfl, ho11, hb11⟩; obtain ⟨a11, c11, rfl⟩ := ho11.shape; have HL11 : Hid (Own w11 (w10.alloc (.cells #[.int .i64 c.cl, .int .i64 c.sq, .int .i64 c.op, .string c.ky, .string c.vl, .string c.ol] 33)).heap.size (.slice a11 LC.length c11) LC) := ho11; have HB11 : Hid (Below w.heap.size w w11) := HB10.out.trans (hb11.mono HB10.out.size); have BC11 : Hid (Blk w11 w10.heap.size #[.int .i64 c.cl, .int .i64 c.sq, .int .i64 c.op, .string c.ky, .string c.vl, .string c.ol] 33) := BC10.out.below hb11 BC10.out.lt; clear ho11 hb11 BC10 HB10))
    generalize hGs : (w10.alloc (.cells #[.int .i64 c.cl, .int .i64 c.sq, .int .i64 c.op, .string c.ky, .string c.vl, .string c.ol] 33)).heap.size = gs at HL11
    clear hGs
    go_cut [59] (fun s wx => s = .bool bb ∧ Below w11.heap.size w11 wx)
    case first =>
      by_cases hF : FC = 0
      · subst hF
        by_cases hop : c.op = 0
        · have hq : (c.op == 0) = true := by simpa using hop
          have hbt : bb = true := by rw [Hbb.out, hop]; rfl
          have HBT : Hid (bb = true) := hbt
          clear hbt hop Hbb
          go_wp2_with (first
            | (have hBA := BC11; refine gate_ld 33 (.tmp 6) rfl ?_; clear hBA; refine wpl_load_blk rfl 33 (.tmp 6) rfl (w10.heap.size) rfl BC11.out Tryz.underlying33 rfl infoCmdB rfl ?_)
            | (go_at_call 11; refine (HFc.out _).mono ?_; rintro e w12 ⟨rfl, hb12⟩; have HB12 : Hid (Below w11.heap.size w11 w12) := hb12; have cc12 := (BC11.out.below hb12 BC11.out.lt).cell; clear hb12 BC11))
          go_meet
          exact ⟨by rw [HBT.out], HB12.out⟩
        · have hq : (c.op == 0) = false := by rw [beq_eq_false_iff_ne]; exact hop
          have hbt : bb = false := by rw [Hbb.out]; simp [hop]
          have HBT : Hid (bb = false) := hbt
          clear hbt hop Hbb
          go_wp2_with (first
            | (have hBA := BC11; refine gate_ld 33 (.tmp 6) rfl ?_; clear hBA; refine wpl_load_blk rfl 33 (.tmp 6) rfl (w10.heap.size) rfl BC11.out Tryz.underlying33 rfl infoCmdB rfl ?_)
            | (go_at_call 11; refine (HFc.out _).mono ?_; rintro e w12 ⟨rfl, hb12⟩; have HB12 : Hid (Below w11.heap.size w11 w12) := hb12; have cc12 := (BC11.out.below hb12 BC11.out.lt).cell; clear hb12 BC11))
          go_meet
          exact ⟨by rw [HBT.out], HB12.out⟩
      · have hq : (FC != 0) = true := by rw [bne_iff_ne]; exact hF
        have hbt : bb = true := by rw [Hbb.out]; simp [hF]
        have HBT : Hid (bb = true) := hbt
        clear hbt hF Hbb
        go_wp2_with (first
          | (have hBA := BC11; refine gate_ld 33 (.tmp 6) rfl ?_; clear hBA; refine wpl_load_blk rfl 33 (.tmp 6) rfl (w10.heap.size) rfl BC11.out Tryz.underlying33 rfl infoCmdB rfl ?_)
          | (go_at_call 11; refine (HFc.out _).mono ?_; rintro e w12 ⟨rfl, hb12⟩; have HB12 : Hid (Below w11.heap.size w11 w12) := hb12; have cc12 := (BC11.out.below hb12 BC11.out.lt).cell; clear hb12 BC11))
        go_meet
        exact ⟨by rw [HBT.out], HB12.out⟩
    case rest =>
      obtain ⟨rfl, hb13⟩ := hcut
      have HL13 : Hid (Own wc gs (.slice a11 LC.length c11) LC) := HL11.out.below hb13
      have HB13 : Hid (Below w.heap.size w wc) := HB11.out.trans (hb13.mono HB11.out.size)
      have BC13 : Hid (Blk wc w10.heap.size #[.int .i64 c.cl, .int .i64 c.sq, .int .i64 c.op, .string c.ky, .string c.vl, .string c.ol] 33) := BC11.out.below hb13 BC11.out.lt
      clear hb13 HL11 HB11 BC11
      obtain ⟨W13, hW13⟩ : ∃ W, W = wc := ⟨_, rfl⟩
      subst hW13
      go_upto_if 59 with fail
      go_cut [59] (fun _ wx => Below w.heap.size w wx)
      case first =>
        cases bb with
        | true =>
          have hLC : LC = [] := HCB.out (fun hh => by have := Hbb.out; simp [hh.1, hh.2] at this)
          subst hLC
          clear Hbb HC0 HCB
          go_wp2_with fail
          go_meet
          exact HB13.out
        | false =>
          have hFF : FC = 0 ∧ c.op ≠ 0 := by have := Hbb.out; simpa using this.symm
          have HDD : Hid (∀ (u : World) (a : Option Addr) (len cp : Nat), Sents u A B → Bs u (.slice a len cp) LC → len ≤ cp → (Calls Tryz.prog 18 #[.slice a len cp] u fun e w' => e = .returned (.agg #[.int .i64 0, .int .i64 0, .int .i64 c.cl, .int .i64 c.sq, .int .i64 c.op, .string c.ky, .string c.vl, .string c.ol]) ∧ Below u.heap.size u w') ∧ (Calls Tryz.prog 16 #[.slice a len cp] u fun e w' => ∃ ev, e = .returned (.agg #[.int .i64 4, .int .i64 0, .int .i64 0, .int .i64 0, .int .i64 0, .int .i64 0, .int .i64 0, .int .i64 0, .int .i64 0, .int .i64 0, .int .i64 0, ev]) ∧ Below u.heap.size u w') ∧ (Calls Tryz.prog 19 #[.slice a len cp] u fun e w' => e = .returned (.agg #[.int .i64 4, .int .i64 0, .int .i64 0, .int .i64 0, .int .i64 0, .int .i64 0, .string ⟨#[]⟩, .int .i64 0]) ∧ Below u.heap.size u w')) := HC0.out hFF
          have HBs : Hid (∀ u : World, Own u gs (.slice a11 LC.length c11) LC → Bs u (.slice a11 LC.length c11) LC ∧ LC.length ≤ c11) := fun u h => ⟨h.bs (by have := HCL.out; unfold maxLen; omega), h.capL rfl⟩
          clear hFF Hbb HC0 HCB
          have G2 : True := trivial
          go_upto_region 17 with (first
            | (go_at_call 18; refine (HDD.out _ _ _ _ (HN.out.below HB13.out) (HBs.out _ HL13.out).1 (HBs.out _ HL13.out).2).1.mono ?_; rintro e w14 ⟨rfl, hb14⟩; have hal : Below w14.heap.size w14 (w14.alloc (.cells #[.int .i64 0, .int .i64 0, .int .i64 c.cl, .int .i64 c.sq, .int .i64 c.op, .string c.ky, .string c.vl, .string c.ol] 47)) := (Below.refl _ _).alloc (Nat.le_refl _) _; have HL14 : Hid (Own (w14.alloc (.cells #[.int .i64 0, .int .i64 0, .int .i64 c.cl, .int .i64 c.sq, .int .i64 c.op, .string c.ky, .string c.vl, .string c.ol] 47)) gs (.slice a11 LC.length c11) LC) := (HL13.out.below hb14).below hal; have HB14 : Hid (Below w.heap.size w (w14.alloc (.cells #[.int .i64 0, .int .i64 0, .int .i64 c.cl, .int .i64 c.sq, .int .i64 c.op, .string c.ky, .string c.vl, .string c.ol] 47))) := (HB13.out.trans (hb14.mono HB13.out.size)).alloc (Nat.le_trans HB13.out.size hb14.size) _; have BC14 : Hid (Blk (w14.alloc (.cells #[.int .i64 0, .int .i64 0, .int .i64 c.cl, .int .i64 c.sq, .int .i64 c.op, .string c.ky, .string c.vl, .string c.ol] 47)) w10.heap.size #[.int .i64 c.cl, .int .i64 c.sq, .int .i64 c.op, .string c.ky, .string c.vl, .string c.ol] 33) := (BC13.out.below hb14 BC13.out.lt).below hal (Nat.lt_of_lt_of_le BC13.out.lt hb14.size); have BA14 : Hid (Blk (w14.alloc (.cells #[.int .i64 0, .int .i64 0, .int .i64 c.cl, .int .i64 c.sq, .int .i64 c.op, .string c.ky, .string c.vl, .string c.ol] 47)) w14.heap.size #[.int .i64 0, .int .i64 0, .int .i64 c.cl, .int .i64 c.sq, .int .i64 c.op, .string c.ky, .string c.vl, .string c.ol] 47) := Blk.new _ _ _; clear hb14 hal)
            | (have hG2 := G2; refine gate_st 47 (.tmp 7) (.tmp 64) rfl ?_; clear hG2 G2; refine wpl_store_last rfl 47 (.tmp 7) (.tmp 64) rfl w14.heap.size rfl rfl rfl infoCAns rfl rfl (by simp [Value.oneCell']) ?_))
          have hpn : ∀ (a : Act) (v : Value), a.put none v = a := fun _ _ => rfl
          simp only [hpn]
          clear hpn
          obtain ⟨W14, hW14⟩ : ∃ W, W = w14.alloc (.cells #[.int .i64 0, .int .i64 0, .int .i64 c.cl, .int .i64 c.sq, .int .i64 c.op, .string c.ky, .string c.vl, .string c.ol] 47) := ⟨_, rfl⟩
          rw [← hW14] at HL14 HB14 BC14 BA14 ⊢
          clear hW14 HL13 HB13 BC13
          have ca14 := BA14.out.cell
          have G3 : True := trivial
          go_wp2_with (first
            | (have hG3 := G3; refine gate_ld 33 (.tmp 69) rfl ?_; clear hG3 G3; refine wpl_load_midG rfl rfl 33 (.tmp 69) rfl w14.heap.size 2 rfl [.int .i64 c.cl, .int .i64 c.sq, .int .i64 c.op, .string c.ky, .string c.vl, .string c.ol] _ (BA14.out.rangeAns rfl) Tryz.underlying33 rfl infoCmdB ?_)
            | (have hBA := BC14; refine gate_ld 33 (.tmp 6) rfl ?_; clear hBA; refine wpl_load_blkG rfl rfl 33 (.tmp 6) rfl (w10.heap.size) rfl BC14.out Tryz.underlying33 rfl infoCmdB rfl ?_)
            | (go_at_call 16; refine (HDD.out _ _ _ _ (HN.out.below HB14.out) (HBs.out _ HL14.out).1 (HBs.out _ HL14.out).2).2.1.mono ?_; rintro e w15 ⟨ev15, rfl, hb15⟩; have HL15 : Hid (Own w15 gs (.slice a11 LC.length c11) LC) := HL14.out.below hb15; have HB15 : Hid (Below w.heap.size w w15) := HB14.out.trans (hb15.mono HB14.out.size); clear hb15)
            | (go_at_call 19; refine (HDD.out _ _ _ _ (HN.out.below HB15.out) (HBs.out _ HL15.out).1 (HBs.out _ HL15.out).2).2.2.mono ?_; rintro e w16 ⟨rfl, hb16⟩; have HB16 : Hid (Below w.heap.size w w16) := HB15.out.trans (hb16.mono HB15.out.size); clear hb16))
          go_meet
          exact HB16.out
      case rest =>
        have HBd : Hid (Below w.heap.size w wc) := hcut
        clear hcut HL13 HB13 BC13 HC0 HCB HCL HFc HIc hEq Hbb
        obtain ⟨WD, hWD⟩ : ∃ W, W = wc := ⟨_, rfl⟩
        subst hWD
        have HSr : Hid (∀ (u : World), Calls Tryz.prog 14 #[.agg #[.int .i64 y.cl, .int .i64 y.sq, .int .i64 y.st, .int .i64 y.cd, .string y.vl, .int .i64 y.ld]] u fun r w' => ∃ v', r = .returned v' ∧ Own w' u.heap.size v' (encReply y.cl y.sq y.st y.cd y.ld y.vl) ∧ Below u.heap.size u w') := fun u => specEncodeReply_any _ _ _ _ _ y.vl u (by unfold maxLen; omega)
        have HIr : Hid (∀ (u : World), Calls Tryz.prog 15 #[.agg #[.int .i64 y.cl, .int .i64 y.sq, .int .i64 y.st, .int .i64 y.cd, .string y.vl, .int .i64 y.ld]] u fun r w' => ∃ v', r = .returned v' ∧ Own w' u.heap.size v' (encReply y.cl y.sq y.st y.cd y.ld y.vl) ∧ Below u.heap.size u w') := fun u => implEncodeReply_any _ _ _ _ _ y.vl u (by unfold maxLen; omega)
        have hr0 : encReply y.cl y.sq y.st y.cd y.ld y.vl = [] ∨ (repF y.cl y.sq y.st y.cd y.vl.size y.ld = 0) := by
          by_cases hF : repF y.cl y.sq y.st y.cd y.vl.size y.ld = 0
          · exact .inr hF
          · exact .inl (encReply_bad hF)
        have HR0 : Hid (repF y.cl y.sq y.st y.cd y.vl.size y.ld = 0 → ∀ (u : World) (a : Option Addr) (len cp : Nat), Sents u A B → Bs u (.slice a len cp) (encReply y.cl y.sq y.st y.cd y.ld y.vl) → len ≤ cp → (Calls Tryz.prog 19 #[.slice a len cp] u fun e w' => e = .returned (.agg #[.int .i64 0, .int .i64 0, .int .i64 y.cl, .int .i64 y.sq, .int .i64 y.st, .int .i64 y.cd, .string y.vl, .int .i64 y.ld]) ∧ Below u.heap.size u w') ∧ (Calls Tryz.prog 16 #[.slice a len cp] u fun e w' => ∃ ev, e = .returned (.agg #[.int .i64 4, .int .i64 0, .int .i64 0, .int .i64 0, .int .i64 0, .int .i64 0, .int .i64 0, .int .i64 0, .int .i64 0, .int .i64 0, .int .i64 0, ev]) ∧ Below u.heap.size u w') ∧ (Calls Tryz.prog 18 #[.slice a len cp] u fun e w' => e = .returned (.agg #[.int .i64 4, .int .i64 0, .int .i64 0, .int .i64 0, .int .i64 0, .string ⟨#[]⟩, .string ⟨#[]⟩, .string ⟨#[]⟩]) ∧ Below u.heap.size u w')) := fun hF u a len cp hs hb hc => ⟨decReply_0 hF a len cp u A B hs hb hc, decMsg_4 a len cp _ u A B hs hb hc (reply_round hF hb.2.1).2.1, decCall_4 a len cp _ u A B hs hb hc (reply_round hF hb.2.1).2.2.1⟩
        have HRL : Hid ((encReply y.cl y.sq y.st y.cd y.ld y.vl).length ≤ 12000) := encReply_len _ _ _ _ _ _
        have HRP : Hid (repF y.cl y.sq y.st y.cd y.vl.size y.ld = 0 → (∀ x ∈ encReply y.cl y.sq y.st y.cd y.ld y.vl, 0 ≤ x ∧ x ≤ 255) → 0 < (encReply y.cl y.sq y.st y.cd y.ld y.vl).length) := fun hF h8 => by have := sumC_len (encReply_good hF h8); omega
        have HRC : Hid (encReply y.cl y.sq y.st y.cd y.ld y.vl = [] ∨ repF y.cl y.sq y.st y.cd y.vl.size y.ld = 0) := hr0
        have hEq := eqRep_run 9998 y.cl y.sq y.st y.cd y.ld y.vl
        clear hrn hr0
        generalize encReply y.cl y.sq y.st y.cd y.ld y.vl = LR at *
        generalize repF y.cl y.sq y.st y.cd y.vl.size y.ld = FR at *
        go_upto_if 93 with (first
          | (go_at_call 13; refine (HDr.out _ HBd.out).mono ?_; rintro e w20 ⟨rfl, hb20⟩; have HB20 : Hid (Below w.heap.size w (w20.alloc (.cells #[.int .i64 y.cl, .int .i64 y.sq, .int .i64 y.st, .int .i64 y.cd, .string y.vl, .int .i64 y.ld] 38))) := (HBd.out.trans (hb20.mono HBd.out.size)).alloc (Nat.le_trans HBd.out.size hb20.size) _; have BR20 : Hid (Blk (w20.alloc (.cells #[.int .i64 y.cl, .int .i64 y.sq, .int .i64 y.st, .int .i64 y.cd, .string y.vl, .int .i64 y.ld] 38)) w20.heap.size #[.int .i64 y.cl, .int .i64 y.sq, .int .i64 y.st, .int .i64 y.cd, .string y.vl, .int .i64 y.ld] 38) := Blk.new _ _ _; clear hb20)
          | (have hBA := BR20; refine gate_ld 38 (.tmp 8) rfl ?_; clear hBA; refine wpl_load_blk rfl 38 (.tmp 8) rfl (w20.heap.size) rfl BR20.out Tryz.underlying38 rfl infoRepB rfl ?_)
          | (go_at_call 15; refine (HIr.out _).mono ?_; rintro e w21 ⟨v21, rfl, ho21, hb21⟩; obtain ⟨a21, c21, rfl⟩ := ho21.shape; have HL21 : Hid (Own w21 (w20.alloc (.cells #[.int .i64 y.cl, .int .i64 y.sq, .int .i64 y.st, .int .i64 y.cd, .string y.vl, .int .i64 y.ld] 38)).heap.size (.slice a21 LR.length c21) LR) := ho21; have HB21 : Hid (Below w.heap.size w w21) := HB20.out.trans (hb21.mono HB20.out.size); have BR21 : Hid (Blk w21 w20.heap.size #[.int .i64 y.cl, .int .i64 y.sq, .int .i64 y.st, .int .i64 y.cd, .string y.vl, .int .i64 y.ld] 38) := BR20.out.below hb21 BR20.out.lt; clear ho21 hb21 BR20 HB20)
          | (have hBA := BR21; refine gate_ld 38 (.tmp 8) rfl ?_; clear hBA; refine wpl_load_blk rfl 38 (.tmp 8) rfl (w20.heap.size) rfl BR21.out Tryz.underlying38 rfl infoRepB rfl ?_)
          | (go_at_call 14; refine (HSr.out _).mono ?_; rintro e w22 ⟨v22, rfl, ho22, hb22⟩; obtain ⟨a22, c22, rfl⟩ := ho22.shape; have HL22 : Hid (Own w22 (w20.alloc (.cells #[.int .i64 y.cl, .int .i64 y.sq, .int .i64 y.st, .int .i64 y.cd, .string y.vl, .int .i64 y.ld] 38)).heap.size (.slice a21 LR.length c21) LR) := HL21.out.below hb22; have HB22 : Hid (Below w.heap.size w w22) := HB21.out.trans (hb22.mono HB21.out.size); have BR22 : Hid (Blk w22 w20.heap.size #[.int .i64 y.cl, .int .i64 y.sq, .int .i64 y.st, .int .i64 y.cd, .string y.vl, .int .i64 y.ld] 38) := BR21.out.below hb22 BR21.out.lt; clear ho22 hb22 BR21 HB21 HL21))
        generalize hGs : (w20.alloc (.cells #[.int .i64 y.cl, .int .i64 y.sq, .int .i64 y.st, .int .i64 y.cd, .string y.vl, .int .i64 y.ld] 38)).heap.size = gs at HL22
        clear hGs
        go_cut [93] (fun _ wx => Below w.heap.size w wx)
        case first =>
          rcases HRC.out with hz | hz
          · subst hz
            clear HRC HR0 HRP
            go_wp2_with fail
            go_meet
            exact HB22.out
          · have hpos := HRP.out hz HL22.out.1
            have hne : ((LR.length : Int) == 0) = false := by rw [beq_eq_false_iff_ne]; omega
            have HDD : Hid (∀ (u : World) (a : Option Addr) (len cp : Nat), Sents u A B → Bs u (.slice a len cp) LR → len ≤ cp → (Calls Tryz.prog 19 #[.slice a len cp] u fun e w' => e = .returned (.agg #[.int .i64 0, .int .i64 0, .int .i64 y.cl, .int .i64 y.sq, .int .i64 y.st, .int .i64 y.cd, .string y.vl, .int .i64 y.ld]) ∧ Below u.heap.size u w') ∧ (Calls Tryz.prog 16 #[.slice a len cp] u fun e w' => ∃ ev, e = .returned (.agg #[.int .i64 4, .int .i64 0, .int .i64 0, .int .i64 0, .int .i64 0, .int .i64 0, .int .i64 0, .int .i64 0, .int .i64 0, .int .i64 0, .int .i64 0, ev]) ∧ Below u.heap.size u w') ∧ (Calls Tryz.prog 18 #[.slice a len cp] u fun e w' => e = .returned (.agg #[.int .i64 4, .int .i64 0, .int .i64 0, .int .i64 0, .int .i64 0, .string ⟨#[]⟩, .string ⟨#[]⟩, .string ⟨#[]⟩]) ∧ Below u.heap.size u w')) := HR0.out hz
            have HBs : Hid (∀ u : World, Own u gs (.slice a21 LR.length c21) LR → Bs u (.slice a21 LR.length c21) LR ∧ LR.length ≤ c21) := fun u h => ⟨h.bs (by have := HRL.out; unfold maxLen; omega), h.capL rfl⟩
            clear hz HRC HR0 HRP
            have G2 : True := trivial
            go_upto_region 25 with (first
              | (go_at_call 19; refine (HDD.out _ _ _ _ (HN.out.below HB22.out) (HBs.out _ HL22.out).1 (HBs.out _ HL22.out).2).1.mono ?_; rintro e w24 ⟨rfl, hb24⟩; have hal : Below w24.heap.size w24 (w24.alloc (.cells #[.int .i64 0, .int .i64 0, .int .i64 y.cl, .int .i64 y.sq, .int .i64 y.st, .int .i64 y.cd, .string y.vl, .int .i64 y.ld] 50)) := (Below.refl _ _).alloc (Nat.le_refl _) _; have HL24 : Hid (Own (w24.alloc (.cells #[.int .i64 0, .int .i64 0, .int .i64 y.cl, .int .i64 y.sq, .int .i64 y.st, .int .i64 y.cd, .string y.vl, .int .i64 y.ld] 50)) gs (.slice a21 LR.length c21) LR) := (HL22.out.below hb24).below hal; have HB24 : Hid (Below w.heap.size w (w24.alloc (.cells #[.int .i64 0, .int .i64 0, .int .i64 y.cl, .int .i64 y.sq, .int .i64 y.st, .int .i64 y.cd, .string y.vl, .int .i64 y.ld] 50))) := (HB22.out.trans (hb24.mono HB22.out.size)).alloc (Nat.le_trans HB22.out.size hb24.size) _; have BR24 : Hid (Blk (w24.alloc (.cells #[.int .i64 0, .int .i64 0, .int .i64 y.cl, .int .i64 y.sq, .int .i64 y.st, .int .i64 y.cd, .string y.vl, .int .i64 y.ld] 50)) w20.heap.size #[.int .i64 y.cl, .int .i64 y.sq, .int .i64 y.st, .int .i64 y.cd, .string y.vl, .int .i64 y.ld] 38) := (BR22.out.below hb24 BR22.out.lt).below hal (Nat.lt_of_lt_of_le BR22.out.lt hb24.size); have BA24 : Hid (Blk (w24.alloc (.cells #[.int .i64 0, .int .i64 0, .int .i64 y.cl, .int .i64 y.sq, .int .i64 y.st, .int .i64 y.cd, .string y.vl, .int .i64 y.ld] 50)) w24.heap.size #[.int .i64 0, .int .i64 0, .int .i64 y.cl, .int .i64 y.sq, .int .i64 y.st, .int .i64 y.cd, .string y.vl, .int .i64 y.ld] 50) := Blk.new _ _ _; clear hb24 hal)
              | (have hG2 := G2; refine gate_st 50 (.tmp 9) (.tmp 98) rfl ?_; clear hG2 G2; refine wpl_store_last rfl 50 (.tmp 9) (.tmp 98) rfl w24.heap.size rfl rfl rfl infoRAns rfl rfl (by simp [Value.oneCell']) ?_))
            have hpn : ∀ (a : Act) (v : Value), a.put none v = a := fun _ _ => rfl
            simp only [hpn]
            clear hpn
            obtain ⟨W24, hW24⟩ : ∃ W, W = w24.alloc (.cells #[.int .i64 0, .int .i64 0, .int .i64 y.cl, .int .i64 y.sq, .int .i64 y.st, .int .i64 y.cd, .string y.vl, .int .i64 y.ld] 50) := ⟨_, rfl⟩
            rw [← hW24] at HL24 HB24 BR24 BA24 ⊢
            clear hW24 HL22 HB22 BR22
            have ca24 := BA24.out.cell
            have G3 : True := trivial
            go_wp2_with (first
              | (have hG3 := G3; refine gate_ld 38 (.tmp 103) rfl ?_; clear hG3 G3; refine wpl_load_midG rfl rfl 38 (.tmp 103) rfl w24.heap.size 2 rfl [.int .i64 y.cl, .int .i64 y.sq, .int .i64 y.st, .int .i64 y.cd, .string y.vl, .int .i64 y.ld] _ (BA24.out.rangeAns rfl) Tryz.underlying38 rfl infoRepB ?_)
              | (have hBA := BR24; refine gate_ld 38 (.tmp 8) rfl ?_; clear hBA; refine wpl_load_blkG rfl rfl 38 (.tmp 8) rfl (w20.heap.size) rfl BR24.out Tryz.underlying38 rfl infoRepB rfl ?_)
              | (go_at_call 16; refine (HDD.out _ _ _ _ (HN.out.below HB24.out) (HBs.out _ HL24.out).1 (HBs.out _ HL24.out).2).2.1.mono ?_; rintro e w25 ⟨ev25, rfl, hb25⟩; have HL25 : Hid (Own w25 gs (.slice a21 LR.length c21) LR) := HL24.out.below hb25; have HB25 : Hid (Below w.heap.size w w25) := HB24.out.trans (hb25.mono HB24.out.size); clear hb25)
              | (go_at_call 18; refine (HDD.out _ _ _ _ (HN.out.below HB25.out) (HBs.out _ HL25.out).1 (HBs.out _ HL25.out).2).2.2.mono ?_; rintro e w26 ⟨rfl, hb26⟩; have HB26 : Hid (Below w.heap.size w w26) := HB25.out.trans (hb26.mono HB25.out.size); clear hb26))
            go_meet
            exact HB26.out
        case rest =>
          have HBe : Hid (Below w.heap.size w wc) := hcut
          clear hcut
          go_wp2_with (go_at_call 20; refine (HOf.out _ HBe.out).mono ?_; rintro e w30 ⟨rfl, hb30⟩; have HB30 : Hid (Below w.heap.size w w30) := HBe.out.trans (hb30.mono HBe.out.size); clear hb30)
          go_ret
          exact ⟨rfl, HB30.out⟩
end Go.Proofs.YtafmjckpbcijoaaGreatDoor
