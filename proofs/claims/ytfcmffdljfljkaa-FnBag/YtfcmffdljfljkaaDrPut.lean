/-
  spec.DrawBagPut.
-/
import Derived.Test.YtfcmffdljfljkaaDrPutP
namespace Go.Proofs.Ytfcmffdljfljkaa
open Go.RowKit
set_option linter.unusedVariables false
set_option linter.unusedSimpArgs false

/-- a drawn bag in its block q, under way -/
structure BagIn (w0 w : World) (g : Nat) (v : Value) (l : List Int) (k q : Nat) (N : Int) (ra : Option Addr) (n rc : Nat) (ua : Option Addr) (nw uc : Nat) (L : List Pk) (WL : List Int) : Prop where
  dr : Dr w0 w g v l k [(q, #[.int .i64 N, .slice ra n rc, .slice ua nw uc], 29)]
  own : OwnP w w0.heap.size (.slice ra n rc) L
  ow : OwnI w w0.heap.size (.slice ua nw uc) WL
  hn : n = L.length
  hw : nw = WL.length
section
variable {w0 w w' : World} {g : Nat} {v : Value} {l : List Int} {k k' q : Nat} {N : Int} {ra : Option Addr} {n rc : Nat} {ua : Option Addr} {nw uc : Nat} {L : List Pk} {WL : List Int}
theorem BagIn.call (h : BagIn w0 w g v l k q N ra n rc ua nw uc L WL) (hs : Src w' g v l k') (hg : w.grownBy w' (some g)) : BagIn w0 w' g v l k' q N ra n rc ua nw uc L WL :=
  ⟨h.dr.call hs hg, h.own.grownD hg h.dr.gl, h.ow.grown hg h.dr.gl, h.hn, h.hw⟩
theorem BagIn.below (h : BagIn w0 w g v l k q N ra n rc ua nw uc L WL) (hb : Below w.heap.size w w') : BagIn w0 w' g v l k q N ra n rc ua nw uc L WL :=
  ⟨h.dr.below hb, h.own.below hb, h.ow.below hb, h.hn, h.hw⟩
theorem BagIn.pick (h : BagIn w0 w g v l k q N ra n rc ua nw uc L WL) (m : Nat) (hL : l.length ≤ 1048576) (hk : k ≤ 900000) (hm : 0 < m) (hM : m ≤ 256) :
    Calls Try.prog 71 #[.pointer (some ⟨g, 0, none⟩), .int .i64 m] w fun e w' => e = .returned (.int .i64 (pickV l k m : Nat)) ∧ BagIn w0 w' g v l (k + 1) q N ra n rc ua nw uc L WL := by
  have := l1pick_any g w v l k m hL (by omega) hm (by omega) h.dr.src
  rw [show pickK m = 1 by unfold pickK; rw [if_pos hM]] at this
  exact this.mono fun e w' ⟨h1, h2, h3⟩ => ⟨h1, h.call h2 h3⟩
theorem BagIn.next (h : BagIn w0 w g v l k q N ra n rc ua nw uc L WL) (hL : l.length ≤ 1048576) (hk : k ≤ 900000) :
    Calls Try.prog 73 #[.pointer (some ⟨g, 0, none⟩)] w fun e w' => e = .returned (.int .i64 (nextV l k)) ∧ BagIn w0 w' g v l (k + 1) q N ra n rc ua nw uc L WL :=
  (l1next_any g w v l k hL (by omega) h.dr.src).mono fun e w' ⟨h1, h2, h3⟩ => ⟨h1, h.call h2 h3⟩
end
theorem grown_belowB {w w' : World} {o1 o2 : Obj} (h : World.grownBy ((w.alloc o1).alloc o2) w' (some (w.heap.size + 1))) : Below w.heap.size w w' := by
  have hb : Below w.heap.size w ((w.alloc o1).alloc o2) := ((Below.refl _ _).alloc (Nat.le_refl _) _).alloc (by simp) _
  refine ⟨h.os.trans hb.os, h.tape.trans hb.tape, h.output.trans hb.output, Nat.le_trans hb.size h.size, fun k hk => (h.block k (by simp; omega) (by intro e; injection e with e; omega)).trans (hb.block k hk)⟩
theorem bs_setRow {w : World} {v : Value} {l : List Int} {b : Nat} {C C' : Array Value} {t : TypeId} (h : Bs w v l) (hb : Blk w b C t) (hn : NoU8 C) : Bs (w.setRow b C') v l := by
  obtain ⟨h1, h8, a, cap, e, hc⟩ := h
  refine ⟨h1, h8, a, cap, e, fun i hi => ?_⟩
  obtain ⟨b', off, e', hj⟩ := hc i hi
  refine ⟨b', off, e', fun j hj' => ?_⟩
  have hcell := hj j hj'
  by_cases hbb : b' = b
  · subst hbb
    rw [hb.cell] at hcell
    exact absurd hcell (hn _ _)
  · rw [← hcell]
    exact World.cell?_of_block (w := w) (setRow_other _ _ _ _ hbb)
theorem bagD_ok (l : List Int) (k sz : Nat) (hsz : sz ≤ 400) : (bagD l k sz).2.2.2 ≤ k + 17000 ∧ (bagD l k sz).2.1.length ≤ 22 ∧ (bagD l k sz).2.2.1.length ≤ 7 := by
  have h7 := (waDr_k l (pkDr l (1 + ((pickV l k 3 : Nat) : Int), [], k + 1 + 1) (pickV l (k + 1) (3 + sz / 20))).2.2 7).2
  have h1 := pickV_lt l (k + 1) (3 + sz / 20) (by omega)
  have h2 := pkDr_ok l (1 + ((pickV l k 3 : Nat) : Int), [], k + 1 + 1) (pickV l (k + 1) (3 + sz / 20))
  unfold bagD
  dsimp only at h2 ⊢
  rw [(waDr_k l _ 7).1, h2.2.2.2]
  simp
  omega

set_option maxHeartbeats 16000000 in
set_option maxRecDepth 100000 in
theorem drawBagPut_any (a : Option Addr) (cap : Nat) (l : List Int) (w : World) (hv : Bs w (.slice a l.length cap) l) (hL : l.length ≤ 1048576) (s0 s1 s2 : Int × List Pkt × List Int × Nat) (TT FF : Int × Nat) (YY : List Int)
    (h0 : s0 = bagD l 0 (min l.length 400)) (h1 : s1 = put1 l s0) (h2 : s2 = put2 l s1) (hT : TT = putT l (s2.2.2.2 + 1)) (hF : FF = putF l TT.2 (1 + ((pickV l s2.2.2.2 7 : Nat) : Int))) (hY : YY = putY l FF.2) :
    Calls Try.prog 30 #[(.slice a l.length cap)] w fun r w' => ∃ va vc ua nu uc ba nb bc L, r = .returned (.tuple #[.agg #[.int .i64 s2.1, .slice va L.length vc, .slice ua nu uc], .int .i64 FF.1, .int .i64 TT.1, .slice ba nb bc]) ∧ cont L = s2.2.1 ∧ nu = s2.2.2.1.length ∧ nb = YY.length ∧ Pks w' (.slice va L.length vc) L ∧ Ix w' (.slice ua nu uc) s2.2.2.1 ∧ Bs w' (.slice ba nb bc) YY ∧ Below w.heap.size w w' := by
  have HBY : Hid (∀ j, 0 ≤ nextV l j ∧ nextV l j ≤ 255) := fun j => nextV_byte hv.2.1 j
  have HS0 : Hid (Src ((w.alloc (.cells #[.int .i64 0, .slice none 0 0, .slice none 0 0] 29)).alloc (.cells #[.slice a l.length cap, .int .i64 0] 98)) (w.heap.size + 1) (.slice a l.length cap) l 0) := by
    have hx := Src.start (w.alloc (.cells #[.int .i64 0, .slice none 0 0, .slice none 0 0] 29)) (.slice a l.length cap) l (hv.below ((Below.refl _ _).alloc (Nat.le_refl _) _)) 98
    rw [show (w.alloc (.cells #[.int .i64 0, .slice none 0 0, .slice none 0 0] 29)).heap.size = w.heap.size + 1 by simp] at hx
    exact hx
  have hm400 : min l.length 400 ≤ 400 := Nat.min_le_right _ _
  have hb0 := bagD_ok l 0 (min l.length 400) hm400
  rw [← h0] at hb0
  have HDB : Hid (∀ u : World, Src u (w.heap.size + 1) (.slice a l.length cap) l 0 → Calls Try.prog 69 #[.pointer (some ⟨(w.heap.size + 1), 0, none⟩), .int .i64 ((min l.length 400 : Nat) : Int)] u fun r w' => ∃ va vc ua uc L, r = .returned (.agg #[.int .i64 s0.1, .slice va L.length vc, .slice ua s0.2.2.1.length uc]) ∧ cont L = s0.2.1 ∧ OwnP w' u.heap.size (.slice va L.length vc) L ∧ OwnI w' u.heap.size (.slice ua s0.2.2.1.length uc) s0.2.2.1 ∧ Src w' (w.heap.size + 1) (.slice a l.length cap) l s0.2.2.2 ∧ u.grownBy w' (some (w.heap.size + 1))) := fun u hu => by
    rw [h0]
    exact (l3drawBag_any (w.heap.size + 1) u (.slice a l.length cap) l 0 _ hL (by omega) hm400 hu).mono fun r w' ⟨va, vc, ua, uc, L, e1, e2, e3, e4, _, e6, e7⟩ => ⟨va, vc, ua, uc, L, e1, e2, e3, e4, e6, e7⟩
  obtain ⟨N0, P0, X0, K0⟩ := s0
  have HSZ : Hid (∀ u : World, Calls Try.prog 70 #[(.slice a l.length cap)] u fun e w' => e = .returned (.int .i64 ((min l.length 400 : Nat) : Int)) ∧ w' = u) := fun u => l1size_any a l.length cap hv.1 u
  generalize min l.length 400 = sz at *
  dsimp only at hb0 HDB
  have b6 := pickV_lt l K0 6 (by decide)
  unfold put1 at h1
  dsimp only at h1
  have hb1 : s1.2.2.2 ≤ 17100 ∧ s1.2.1.length ≤ 22 ∧ s1.2.2.1.length ≤ 9 := by
    have hbk := badB_k l (K0 + 1) N0 P0 X0
    rw [h1]
    split <;> ((try dsimp only); omega)
  obtain ⟨p6, hp6⟩ : ∃ p, p = pickV l K0 6 := ⟨_, rfl⟩
  rw [← hp6] at h1 b6
  obtain ⟨N1, P1, X1, K1⟩ := s1
  have H1 : Hid ((N1, P1, X1, K1) = if p6 = 0 then badB l (K0 + 1) N0 P0 X0 else (N0, P0, X0, K0 + 1)) := h1
  have Hp6 : Hid (p6 = pickV l K0 6) := hp6
  dsimp only at hb1
  clear h0 h1 hp6 hm400 hv
  go_enter Try.func30, Try.ntmps30
  go_upto_if 20 with (first
    | (go_at_call 70; refine (HSZ.out _).mono ?_; rintro r wz ⟨rfl, rfl⟩)
    | (go_at_call 69; refine (HDB.out _ HS0.out).mono ?_; rintro r w2 ⟨ra, rc, ua, uc, L, rfl, hcL, hp2, hi2, hs2, hg2⟩; obtain ⟨n, hn⟩ : ∃ n, n = L.length := ⟨_, rfl⟩; obtain ⟨nw, hnw⟩ : ∃ n, n = X0.length := ⟨_, rfl⟩; rw [← hn] at hp2; rw [← hnw] at hi2; rw [← hn, ← hnw]; have HcL : Hid (cont L = P0) := hcL; have HBI : Hid (BagIn ((w.alloc (.cells #[.int .i64 0, .slice none 0 0, .slice none 0 0] 29)).alloc (.cells #[.slice a l.length cap, .int .i64 0] 98)) (w2.alloc (.cells #[.int .i64 N0, .slice ra n rc, .slice ua nw uc] 29)) (w.heap.size + 1) (.slice a l.length cap) l K0 w2.heap.size N0 ra n rc ua nw uc L X0) := ⟨((Dr.start HS0.out).call hs2 hg2).new #[.int .i64 N0, .slice ra n rc, .slice ua nw uc] 29 (noU8_of rfl), hp2.below ((Below.refl _ _).alloc (Nat.le_refl _) _), hi2.below ((Below.refl _ _).alloc (Nat.le_refl _) _), hn, hnw⟩; clear hcL hp2 hi2 hs2 hg2 hn hnw)
    | (go_at_call 71; refine (HBI.out.pick 6 hL (by omega) (by decide) (by decide)).mono ?_; rintro r w3 ⟨rfl, hb3⟩; rw [← Hp6.out]; have HB3 : Hid (BagIn ((w.alloc (.cells #[.int .i64 0, .slice none 0 0, .slice none 0 0] 29)).alloc (.cells #[.slice a l.length cap, .int .i64 0] 98)) w3 (w.heap.size + 1) (.slice a l.length cap) l (K0 + 1) w2.heap.size N0 ra n rc ua nw uc L X0) := hb3; clear hb3))
  clear HBI HDB HSZ Hp6
  generalize hq : w2.heap.size = q at HB3 ⊢
  clear hq
  go_cut [20] (fun _ wx => ∃ ra n rc ua nw uc L, cont L = P1 ∧ BagIn ((w.alloc (.cells #[.int .i64 0, .slice none 0 0, .slice none 0 0] 29)).alloc (.cells #[.slice a l.length cap, .int .i64 0] 98)) wx (w.heap.size + 1) (.slice a l.length cap) l K1 q N1 ra n rc ua nw uc L X1)
  case first =>
    by_cases cz : p6 = 0
    · subst cz
      have hx := H1.out
      rw [if_pos rfl] at hx
      have hbk := badB_k l (K0 + 1) N0 P0 X0
      rw [← hx] at hbk
      dsimp only at hbk
      have HBd : Hid (Calls Try.prog 72 #[.pointer (some ⟨(w.heap.size + 1), 0, none⟩), .agg #[.int .i64 N0, .slice ra n rc, .slice ua nw uc]] w3 fun r w' => ∃ (L' : List Pk) (ub : Option Addr) (nu ud : Nat), r = .returned (.agg #[.int .i64 N1, .slice ra n rc, .slice ub nu ud]) ∧ cont L' = P1 ∧ nu = X1.length ∧ OwnP w' (((w.alloc (.cells #[.int .i64 0, .slice none 0 0, .slice none 0 0] 29)).alloc (.cells #[.slice a l.length cap, .int .i64 0] 98))).heap.size (.slice ra n rc) L' ∧ OwnI w' (((w.alloc (.cells #[.int .i64 0, .slice none 0 0, .slice none 0 0] 29)).alloc (.cells #[.slice a l.length cap, .int .i64 0] 98))).heap.size (.slice ub nu ud) X1 ∧ Dr ((w.alloc (.cells #[.int .i64 0, .slice none 0 0, .slice none 0 0] 29)).alloc (.cells #[.slice a l.length cap, .int .i64 0] 98)) w' (w.heap.size + 1) (.slice a l.length cap) l K1 [(q, #[.int .i64 N0, .slice ra n rc, .slice ua nw uc], 29)]) := by
        have hn2 : n ≤ 100 := by
          have e1 := HB3.out.hn
          have e2 : (cont L).length = L.length := by unfold cont; rw [List.length_map]
          rw [HcL.out] at e2
          omega
        have hy := l3badBag_any (w.heap.size + 1) ((w.alloc (.cells #[.int .i64 0, .slice none 0 0, .slice none 0 0] 29)).alloc (.cells #[.slice a l.length cap, .int .i64 0] 98)) w3 (.slice a l.length cap) l (K0 + 1) q #[.int .i64 N0, .slice ra n rc, .slice ua nw uc] N0 ra n rc ua nw uc L X0 hL (by omega) HB3.out.hn HB3.out.hw hn2 HB3.out.dr HB3.out.own HB3.out.ow
        rw [HcL.out, ← hx] at hy
        exact hy
      have HL0 : Hid (P1.length = n) := (by
        have e1 := HB3.out.hn
        have e2 : (cont L).length = L.length := by unfold cont; rw [List.length_map]
        rw [HcL.out] at e2
        omega : P1.length = n)
      clear hx hbk H1
      go_wp2_with (first
        | (have hBA := HBd; refine gate_ld 29 (.tmp 7) rfl ?_; clear hBA; refine wpl_load_blk rfl 29 (.tmp 7) rfl q rfl (HB3.out.dr.blk 0 rfl) Try.underlying29 rfl infoBagB rfl ?_)
        | (go_at_call 72; refine HBd.out.mono ?_; rintro r w4 ⟨L', ub, nu, ud, rfl, hc4, hnu, hp4, hi4, hd4⟩; have HD4 : Hid (Dr ((w.alloc (.cells #[.int .i64 0, .slice none 0 0, .slice none 0 0] 29)).alloc (.cells #[.slice a l.length cap, .int .i64 0] 98)) w4 (w.heap.size + 1) (.slice a l.length cap) l K1 [(q, #[.int .i64 N0, .slice ra n rc, .slice ua nw uc], 29)]) := hd4; have HP4 : Hid (OwnP w4 (((w.alloc (.cells #[.int .i64 0, .slice none 0 0, .slice none 0 0] 29)).alloc (.cells #[.slice a l.length cap, .int .i64 0] 98))).heap.size (.slice ra n rc) L') := hp4; have HI4 : Hid (OwnI w4 (((w.alloc (.cells #[.int .i64 0, .slice none 0 0, .slice none 0 0] 29)).alloc (.cells #[.slice a l.length cap, .int .i64 0] 98))).heap.size (.slice ub nu ud) X1) := hi4; have Hc4 : Hid (cont L' = P1) := hc4; have Hnu : Hid (nu = X1.length) := hnu; clear hd4 hp4 hi4 hc4 hnu HBd)
        | (have hBA := HD4; refine gate_st 29 (.tmp 7) _ rfl ?_; clear hBA; refine wpl_store_blk rfl 29 (.tmp 7) _ rfl q rfl rfl (HD4.out.blk 0 rfl) infoBagB rfl rfl (by simp [Value.oneCell']) ?_))
      go_meet
      have hb4 := HD4.out.blk 0 rfl
      exact ⟨ra, n, rc, ub, nu, ud, L', Hc4.out, ⟨HD4.out.row 0 rfl _ (noU8_of rfl), HP4.out.rowB hb4 (by decide) (by decide), OwnI.rowB HI4.out hb4 (by decide), by rw [← HL0.out, ← Hc4.out]; unfold cont; rw [List.length_map], Hnu.out⟩⟩
    · have hx := H1.out
      rw [if_neg cz] at hx
      injection hx with hxa hx
      injection hx with hxb hx
      injection hx with hxc hxd
      subst hxa hxb hxc hxd
      have cz' : ((p6 : Int) == 0) = false := by rw [beq_eq_false_iff_ne]; omega
      go_wp2_with fail
      go_meet
      exact ⟨ra, n, rc, ua, nw, uc, L, HcL.out, HB3.out⟩
  case rest =>
    obtain ⟨ra, n, rc, ua, nw, uc, L, hcL, hb5⟩ := hcut
    have HcL : Hid (cont L = P1) := hcL
    have HB5 : Hid (BagIn ((w.alloc (.cells #[.int .i64 0, .slice none 0 0, .slice none 0 0] 29)).alloc (.cells #[.slice a l.length cap, .int .i64 0] 98)) wc (w.heap.size + 1) (.slice a l.length cap) l K1 q N1 ra n rc ua nw uc L X1) := hb5
    clear hcL hb5 HB3 H1
    obtain ⟨W5, hW5⟩ : ∃ W, W = wc := ⟨_, rfl⟩
    subst hW5
    have b20 := pickV_lt l K1 20 (by decide)
    have b2 := pickV_lt l (K1 + 1) 2 (by decide)
    unfold put2 at h2
    dsimp only at h2
    have hb2 : s2.2.2.2 ≤ 17200 := by
      rw [h2]
      split <;> (dsimp only; omega)
    have hb2p : s2.2.1.length ≤ 4096 ∧ s2.2.2.1.length ≤ 100 := by
      rw [h2]
      split
      · exact ⟨by unfold fullP; dsimp only; rw [List.length_map, List.length_range]; omega, by simp⟩
      · dsimp only; omega
    obtain ⟨c20, hc20⟩ : ∃ p, p = pickV l K1 20 := ⟨_, rfl⟩
    obtain ⟨p2, hp2⟩ : ∃ p, p = pickV l (K1 + 1) 2 := ⟨_, rfl⟩
    rw [← hc20, ← hp2] at h2
    rw [← hc20] at b20
    rw [← hp2] at b2
    obtain ⟨N2, P2, X2, K2⟩ := s2
    have H2 : Hid ((N2, P2, X2, K2) = if c20 = 0 then (4098, fullP (4096 - p2), [], K1 + 1 + 1) else (N1, P1, X1, K1 + 1)) := h2
    have Hc20 : Hid (c20 = pickV l K1 20) := hc20
    have Hp2 : Hid (p2 = pickV l (K1 + 1) 2) := hp2
    dsimp only at hb2 hb2p hT hF ⊢
    have HP2l : Hid (P2.length ≤ 4096) := hb2p.1
    have HX2l : Hid (X2.length ≤ 100) := hb2p.2
    clear hb2p
    clear h2 hc20 hp2
    go_upto_if 24 with (go_at_call 71; refine (HB5.out.pick 20 hL (by omega) (by decide) (by decide)).mono ?_; rintro r w6 ⟨rfl, hb6⟩; rw [← Hc20.out]; have HB6 : Hid (BagIn ((w.alloc (.cells #[.int .i64 0, .slice none 0 0, .slice none 0 0] 29)).alloc (.cells #[.slice a l.length cap, .int .i64 0] 98)) w6 (w.heap.size + 1) (.slice a l.length cap) l (K1 + 1) q N1 ra n rc ua nw uc L X1) := hb6; clear hb6)
    clear HB5 Hc20
    go_cut [24] (fun _ wx => ∃ ra n rc ua nw uc L, cont L = P2 ∧ BagIn ((w.alloc (.cells #[.int .i64 0, .slice none 0 0, .slice none 0 0] 29)).alloc (.cells #[.slice a l.length cap, .int .i64 0] 98)) wx (w.heap.size + 1) (.slice a l.length cap) l K2 q N2 ra n rc ua nw uc L X2)
    case first =>
      by_cases cz : c20 = 0
      · subst cz
        have hx := H2.out
        rw [if_pos rfl] at hx
        injection hx with hxa hx
        injection hx with hxb hx
        injection hx with hxc hxd
        obtain ⟨m, hm⟩ : ∃ m, m = 4096 - p2 := ⟨_, rfl⟩
        rw [← hm] at hxb
        subst hxa hxb hxc hxd
        have hwm : IntKind.i64.wrap (4096 - (p2 : Int)) = (m : Int) := by rw [IntKind.wrap_i64] <;> omega
        have hmb : m ≤ 4096 := by omega
        clear hm H2 HcL
        have G1 : True := trivial
        go_upto_region 8 with (first
          | (have hG1 := G1; refine gate_st 29 (.tmp 7) (.tmp 25) rfl ?_; clear hG1 G1; refine wpl_store_blk rfl 29 (.tmp 7) (.tmp 25) rfl q rfl rfl (HB6.out.dr.blk 0 rfl) infoBagB rfl rfl (by simp [Value.oneCell']) ?_; have HB8 : Hid (BagIn ((w.alloc (.cells #[.int .i64 0, .slice none 0 0, .slice none 0 0] 29)).alloc (.cells #[.slice a l.length cap, .int .i64 0] 98)) (w6.setRow q #[.int .i64 4098, .slice none 0 0, .slice none 0 0]) (w.heap.size + 1) (.slice a l.length cap) l (K1 + 1) q 4098 none 0 0 none 0 0 [] []) := ⟨HB6.out.dr.row 0 rfl _ (noU8_of rfl), OwnP.nil _ _, OwnI.nil _ _, rfl, rfl⟩; clear HB6)
          | (go_at_call 71; refine (HB8.out.pick 2 hL (by omega) (by decide) (by decide)).mono ?_; rintro r w9 ⟨rfl, hb9⟩; rw [← Hp2.out]; have HB9 : Hid (BagIn ((w.alloc (.cells #[.int .i64 0, .slice none 0 0, .slice none 0 0] 29)).alloc (.cells #[.slice a l.length cap, .int .i64 0] 98)) w9 (w.heap.size + 1) (.slice a l.length cap) l (K1 + 1 + 1) q 4098 none 0 0 none 0 0 [] []) := hb9; clear hb9 HB8))
        go_wp2
        go_loopw [9] (fun jv wr => ∃ (i : Nat) (ra : Option Addr) (rc : Nat) (L : List Pk), i ≤ m ∧ jv = .int .i64 ((i + 1 : Nat) : Int) ∧ cont L = fullP i ∧ BagIn ((w.alloc (.cells #[.int .i64 0, .slice none 0 0, .slice none 0 0] 29)).alloc (.cells #[.slice a l.length cap, .int .i64 0] 98)) wr (w.heap.size + 1) (.slice a l.length cap) l (K1 + 1 + 1) q 4098 ra i rc none 0 0 L []) (fun jv _ => m + 1 - (intOf jv).toNat)
        case atStart => exact ⟨0, none, 0, [], Nat.zero_le _, rfl, rfl, HB9.out⟩
        case round =>
          obtain ⟨i, ra, rc, L, hi, rfl, hcL, hb⟩ := hrel
          have HcL : Hid (cont L = fullP i) := hcL
          have HB : Hid (BagIn ((w.alloc (.cells #[.int .i64 0, .slice none 0 0, .slice none 0 0] 29)).alloc (.cells #[.slice a l.length cap, .int .i64 0] 98)) wr (w.heap.size + 1) (.slice a l.length cap) l (K1 + 1 + 1) q 4098 ra i rc none 0 0 L []) := hb
          clear hcL hb HB9
          by_cases hlt : i < m
          · have hlt' : (i : Int) + 1 ≤ (m : Int) := by omega
            have hwi : IntKind.i64.wrap ((i : Int) + 1 + 1) = (i : Int) + 1 + 1 := by rw [IntKind.wrap_i64] <;> omega
            have cq := (HB.out.dr.blk 0 rfl).cell
            have HLts := HB.out.own.lts
            have HLt : Hid ((∀ k, (Value.slice ra i rc).ownBlock = some k → k < wr.heap.size) ∧ ∀ p' ∈ L, ∀ k, p'.2.ownBlock = some k → k < wr.heap.size) := HLts
            have hal1 : Below wr.heap.size wr (wr.alloc (.cells #[.int .u8 1] 5)) := (Below.refl _ _).alloc (Nat.le_refl _) _
            have hal2 : Below wr.heap.size wr ((wr.alloc (.cells #[.int .u8 1] 5)).alloc (.cells #[.int .i64 ((i : Int) + 1), .int .i64 1, .int .i64 2, .slice (some ⟨wr.heap.size, 0, none⟩) 1 1] 60)) := hal1.alloc (by simp) _
            have HX : Hid (BagIn ((w.alloc (.cells #[.int .i64 0, .slice none 0 0, .slice none 0 0] 29)).alloc (.cells #[.slice a l.length cap, .int .i64 0] 98)) ((wr.alloc (.cells #[.int .u8 1] 5)).alloc (.cells #[.int .i64 ((i : Int) + 1), .int .i64 1, .int .i64 2, .slice (some ⟨wr.heap.size, 0, none⟩) 1 1] 60)) (w.heap.size + 1) (.slice a l.length cap) l (K1 + 1 + 1) q 4098 ra i rc none 0 0 L []) := HB.out.below hal2
            have HBy : Hid (Own ((wr.alloc (.cells #[.int .u8 1] 5)).alloc (.cells #[.int .i64 ((i : Int) + 1), .int .i64 1, .int .i64 2, .slice (some ⟨wr.heap.size, 0, none⟩) 1 1] 60)) wr.heap.size (.slice (some ⟨wr.heap.size, 0, none⟩) 1 1) [1]) := (Own.lit wr [1] #[.int .u8 1] rfl (by simp) (by simp [maxLen])).below ((Below.refl _ _).alloc (Nat.le_refl _) _)
            have HPa : Hid (PkAt ((wr.alloc (.cells #[.int .u8 1] 5)).alloc (.cells #[.int .i64 ((i : Int) + 1), .int .i64 1, .int .i64 2, .slice (some ⟨wr.heap.size, 0, none⟩) 1 1] 60)) (wr.heap.size + 1) 0 ((⟨(i : Int) + 1, 1, 2, [1]⟩ : Pkt), Value.slice (some ⟨wr.heap.size, 0, none⟩) 1 1)) := (by have := pkAt_new (wr.alloc (.cells #[.int .u8 1] 5)) ((i : Int) + 1) 1 2 [1] (Value.slice (some ⟨wr.heap.size, 0, none⟩) 1 1); simpa using this : PkAt ((wr.alloc (.cells #[.int .u8 1] 5)).alloc (.cells #[.int .i64 ((i : Int) + 1), .int .i64 1, .int .i64 2, .slice (some ⟨wr.heap.size, 0, none⟩) 1 1] 60)) (wr.heap.size + 1) 0 ((⟨(i : Int) + 1, 1, 2, [1]⟩ : Pkt), Value.slice (some ⟨wr.heap.size, 0, none⟩) 1 1))
            have HZ : Hid ((((w.alloc (.cells #[.int .i64 0, .slice none 0 0, .slice none 0 0] 29)).alloc (.cells #[.slice a l.length cap, .int .i64 0] 98))).heap.size ≤ wr.heap.size) := HB.out.dr.size
            have HZ2 : Hid ((((w.alloc (.cells #[.int .i64 0, .slice none 0 0, .slice none 0 0] 29)).alloc (.cells #[.slice a l.length cap, .int .i64 0] 98))).heap.size ≤ (((wr.alloc (.cells #[.int .u8 1] 5)).alloc (.cells #[.int .i64 ((i : Int) + 1), .int .i64 1, .int .i64 2, .slice (some ⟨wr.heap.size, 0, none⟩) 1 1] 60))).heap.size) := HX.out.dr.size
            have HLl : Hid (L.length ≤ 1100000) := (by rw [← HB.out.hn]; omega : L.length ≤ 1100000)
            clear HLts hal1 hal2
            go_wp2_with (at_builtin; refine wpl_appendP rfl (.tmp 34) (.tmp 38) rfl ((⟨(i : Int) + 1, 1, 2, [1]⟩ : Pkt), Value.slice (some ⟨wr.heap.size, 0, none⟩) 1 1) HX.out.own rfl (wr.heap.size + 1) 1 HPa.out rfl HBy.out (by simp [maxLen]) HZ.out HLt.out rfl HLl.out HZ2.out ?_; intro v10 w10 ho10 hg10; have hd10 : Dr ((w.alloc (.cells #[.int .i64 0, .slice none 0 0, .slice none 0 0] 29)).alloc (.cells #[.slice a l.length cap, .int .i64 0] 98)) w10 (w.heap.size + 1) (.slice a l.length cap) l (K1 + 1 + 1) [(q, #[.int .i64 4098, .slice ra i rc, .slice none 0 0], 29)] := HX.out.dr.grew hg10 (fun q' e' => (HX.out.own.row.lt q' e').1) (fun y hy => (by rw [List.mem_singleton.1 hy]; exact HX.out.own.neBlk (HX.out.dr.blk 0 rfl) (by decide))); obtain ⟨sa, sc, rfl⟩ := ho10.shape; have hln : (L ++ [((⟨(i : Int) + 1, 1, 2, [1]⟩ : Pkt), Value.slice (some ⟨wr.heap.size, 0, none⟩) 1 1)]).length = i + 1 := (by rw [List.length_append, ← HB.out.hn]; rfl); rw [hln] at ho10; have HO10 : Hid (OwnP w10 (((w.alloc (.cells #[.int .i64 0, .slice none 0 0, .slice none 0 0] 29)).alloc (.cells #[.slice a l.length cap, .int .i64 0] 98))).heap.size (.slice sa (i + 1) sc) (L ++ [((⟨(i : Int) + 1, 1, 2, [1]⟩ : Pkt), Value.slice (some ⟨wr.heap.size, 0, none⟩) 1 1)])) := ho10; have HLn : Hid (i + 1 = (L ++ [((⟨(i : Int) + 1, 1, 2, [1]⟩ : Pkt), Value.slice (some ⟨wr.heap.size, 0, none⟩) 1 1)]).length) := hln.symm; rw [hln]; have HD10 : Hid (Dr ((w.alloc (.cells #[.int .i64 0, .slice none 0 0, .slice none 0 0] 29)).alloc (.cells #[.slice a l.length cap, .int .i64 0] 98)) w10 (w.heap.size + 1) (.slice a l.length cap) l (K1 + 1 + 1) [(q, #[.int .i64 4098, .slice ra i rc, .slice none 0 0], 29)]) := hd10; have cq10 := (hd10.blk 0 rfl).cell; have fq10 := (hd10.blk 0 rfl).free; clear ho10 hd10 hg10 hln)
            go_roundw
            case rel =>
              refine ⟨i + 1, sa, sc, L ++ [((⟨(i : Int) + 1, 1, 2, [1]⟩ : Pkt), Value.slice (some ⟨wr.heap.size, 0, none⟩) 1 1)], by omega, by go_num, ?_, ⟨HD10.out.set 0 rfl 1 (by simp) _ rfl, HO10.out.setB (HD10.out.blk 0 rfl) (by decide) (by decide) _, OwnI.nil _ _, HLn.out, rfl⟩⟩
              rw [fullP_succ, ← HcL.out]
              unfold cont
              rw [List.map_append]
              rfl
            case measure => simp [intOf]; omega
          · have hlt' : ¬ (i : Int) + 1 ≤ (m : Int) := by omega
            have him : i = m := by omega
            subst him
            go_wp2
            go_meet
            exact ⟨ra, i, rc, none, 0, 0, L, HcL.out, HB.out⟩
      · have hx := H2.out
        rw [if_neg cz] at hx
        injection hx with hxa hx
        injection hx with hxb hx
        injection hx with hxc hxd
        subst hxa hxb hxc hxd
        have cz' : ((c20 : Int) == 0) = false := by rw [beq_eq_false_iff_ne]; omega
        go_wp2_with fail
        go_meet
        exact ⟨ra, n, rc, ua, nw, uc, L, HcL.out, HB6.out⟩
    case rest =>
      obtain ⟨ra, n, rc, ua, nw, uc, L, hcL, hb7⟩ := hcut
      have HcL : Hid (cont L = P2) := hcL
      have HB7 : Hid (BagIn ((w.alloc (.cells #[.int .i64 0, .slice none 0 0, .slice none 0 0] 29)).alloc (.cells #[.slice a l.length cap, .int .i64 0] 98)) wc (w.heap.size + 1) (.slice a l.length cap) l K2 q N2 ra n rc ua nw uc L X2) := hb7
      clear hcL hb7 HB6 H2
      obtain ⟨W7, hW7⟩ : ∃ W, W = wc := ⟨_, rfl⟩
      subst hW7
      obtain ⟨TV, KT⟩ := TT
      obtain ⟨FV, KF⟩ := FF
      dsimp only at hT hF hY ⊢
      unfold putT at hT
      unfold putF at hF
      unfold putY at hY
      have b7 := pickV_lt l K2 7 (by decide)
      have b7' := pickV_lt l (K2 + 1) 7 (by decide)
      have b4 := pickV_lt l (K2 + 1 + 1) 4 (by decide)
      have b22 := pickV_lt l (K2 + 1 + 1 + 1) 22 (by decide)
      have hKT : KT ≤ K2 + 4 := by
        have e := congrArg Prod.snd hT
        dsimp only at e
        rw [e]
        split <;> (dsimp only; omega)
      have c6b := pickV_lt l KT 6 (by decide)
      have d22 := pickV_lt l (KT + 1) 22 (by decide)
      have hKF : KF ≤ KT + 2 := by
        have e := congrArg Prod.snd hF
        dsimp only at e
        rw [e]
        split <;> (dsimp only; omega)
      have q16b := pickV_lt l (KF + 1) 16 (by decide)
      have hx8 := HBY.out KF
      obtain ⟨f7, hf7⟩ : ∃ p, p = pickV l K2 7 := ⟨_, rfl⟩
      obtain ⟨t7, ht7⟩ : ∃ p, p = pickV l (K2 + 1) 7 := ⟨_, rfl⟩
      obtain ⟨c4, hc4⟩ : ∃ p, p = pickV l (K2 + 1 + 1) 4 := ⟨_, rfl⟩
      obtain ⟨t22, ht22⟩ : ∃ p, p = pickV l (K2 + 1 + 1 + 1) 22 := ⟨_, rfl⟩
      obtain ⟨c6, hc6⟩ : ∃ p, p = pickV l KT 6 := ⟨_, rfl⟩
      obtain ⟨f22, hf22⟩ : ∃ p, p = pickV l (KT + 1) 22 := ⟨_, rfl⟩
      obtain ⟨x, hx⟩ : ∃ p, p = nextV l KF := ⟨_, rfl⟩
      obtain ⟨q16, hq16⟩ : ∃ p, p = pickV l (KF + 1) 16 := ⟨_, rfl⟩
      rw [← hc4, ← ht22, ← ht7] at hT
      rw [← hc6, ← hf22, ← hf7] at hF
      rw [← hx, ← hq16] at hY
      rw [← hf7] at b7
      rw [← ht7] at b7'
      rw [← hc4] at b4
      rw [← ht22] at b22
      rw [← hc6] at c6b
      rw [← hf22] at d22
      rw [← hx] at hx8
      rw [← hq16] at q16b
      have Hf7 : Hid (f7 = pickV l K2 7) := hf7
      have Ht7 : Hid (t7 = pickV l (K2 + 1) 7) := ht7
      have Hc4 : Hid (c4 = pickV l (K2 + 1 + 1) 4) := hc4
      have Ht22 : Hid (t22 = pickV l (K2 + 1 + 1 + 1) 22) := ht22
      have Hc6 : Hid (c6 = pickV l KT 6) := hc6
      have Hf22 : Hid (f22 = pickV l (KT + 1) 22) := hf22
      have Hx : Hid (x = nextV l KF) := hx
      have Hq16 : Hid (q16 = pickV l (KF + 1) 16) := hq16
      have HT : Hid ((TV, KT) = if c4 = 0 then ((t22 : Int), K2 + 1 + 1 + 1 + 1) else (1 + (t7 : Int), K2 + 1 + 1 + 1)) := hT
      have HF : Hid ((FV, KF) = if c6 = 0 then ((f22 : Int), KT + 1 + 1) else (1 + (f7 : Int), KT + 1)) := hF
      have HY : Hid (YY = if q16 = 0 then [] else if q16 < 3 then List.replicate (16383 + q16) 120 else [x, 1]) := hY
      have hwf : IntKind.i64.wrap (1 + (f7 : Int)) = 1 + (f7 : Int) := by rw [IntKind.wrap_i64] <;> omega
      have hwt : IntKind.i64.wrap (1 + (t7 : Int)) = 1 + (t7 : Int) := by rw [IntKind.wrap_i64] <;> omega
      clear hf7 ht7 hc4 ht22 hc6 hf22 hx hq16 hT hF hY HBY
      have G1 : True := trivial
      have G2 : True := trivial
      go_upto_if 46 with (first
        | (go_at_call 71; clear G1; refine (HB7.out.pick 7 hL (by omega) (by decide) (by decide)).mono ?_; rintro r w8 ⟨rfl, hb⟩; rw [← Hf7.out]; have HB8 : Hid (BagIn ((w.alloc (.cells #[.int .i64 0, .slice none 0 0, .slice none 0 0] 29)).alloc (.cells #[.slice a l.length cap, .int .i64 0] 98)) w8 (w.heap.size + 1) (.slice a l.length cap) l (K2 + 1) q N2 ra n rc ua nw uc L X2) := hb; clear hb)
        | (go_at_call 71; clear G2; refine (HB8.out.pick 7 hL (by omega) (by decide) (by decide)).mono ?_; rintro r w9 ⟨rfl, hb⟩; rw [← Ht7.out]; have HB9 : Hid (BagIn ((w.alloc (.cells #[.int .i64 0, .slice none 0 0, .slice none 0 0] 29)).alloc (.cells #[.slice a l.length cap, .int .i64 0] 98)) w9 (w.heap.size + 1) (.slice a l.length cap) l (K2 + 1 + 1) q N2 ra n rc ua nw uc L X2) := hb; clear hb)
        | (go_at_call 71; refine (HB9.out.pick 4 hL (by omega) (by decide) (by decide)).mono ?_; rintro r w10 ⟨rfl, hb⟩; rw [← Hc4.out]; have HB10 : Hid (BagIn ((w.alloc (.cells #[.int .i64 0, .slice none 0 0, .slice none 0 0] 29)).alloc (.cells #[.slice a l.length cap, .int .i64 0] 98)) w10 (w.heap.size + 1) (.slice a l.length cap) l (K2 + 1 + 1 + 1) q N2 ra n rc ua nw uc L X2) := hb; clear hb))
      go_cut [11, 46] (fun s _ wx => s = .int .i64 TV ∧ BagIn ((w.alloc (.cells #[.int .i64 0, .slice none 0 0, .slice none 0 0] 29)).alloc (.cells #[.slice a l.length cap, .int .i64 0] 98)) wx (w.heap.size + 1) (.slice a l.length cap) l KT q N2 ra n rc ua nw uc L X2)
      case first =>
        by_cases cz : c4 = 0
        · subst cz
          have hx := HT.out
          rw [if_pos rfl] at hx
          injection hx with hxa hxb
          subst hxa hxb
          go_wp2_with (go_at_call 71; refine (HB10.out.pick 22 hL (by omega) (by decide) (by decide)).mono ?_; rintro r w11 ⟨rfl, hb⟩; rw [← Ht22.out]; have HB11 : Hid (BagIn ((w.alloc (.cells #[.int .i64 0, .slice none 0 0, .slice none 0 0] 29)).alloc (.cells #[.slice a l.length cap, .int .i64 0] 98)) w11 (w.heap.size + 1) (.slice a l.length cap) l (K2 + 1 + 1 + 1 + 1) q N2 ra n rc ua nw uc L X2) := hb; clear hb)
          go_meet
          exact ⟨rfl, HB11.out⟩
        · have hx := HT.out
          rw [if_neg cz] at hx
          injection hx with hxa hxb
          subst hxa hxb
          have cz' : ((c4 : Int) == 0) = false := by rw [beq_eq_false_iff_ne]; omega
          go_wp2_with fail
          go_meet
          exact ⟨rfl, HB10.out⟩
      case rest =>
        obtain ⟨rfl, hb12⟩ := hcut
        have HB12 : Hid (BagIn ((w.alloc (.cells #[.int .i64 0, .slice none 0 0, .slice none 0 0] 29)).alloc (.cells #[.slice a l.length cap, .int .i64 0] 98)) wc (w.heap.size + 1) (.slice a l.length cap) l KT q N2 ra n rc ua nw uc L X2) := hb12
        clear hb12 HB10 HB9 HB8 HB7 HT
        obtain ⟨W12, hW12⟩ : ∃ W, W = wc := ⟨_, rfl⟩
        subst hW12
        go_upto_if 49 with (go_at_call 71; refine (HB12.out.pick 6 hL (by omega) (by decide) (by decide)).mono ?_; rintro r w13 ⟨rfl, hb⟩; rw [← Hc6.out]; have HB13 : Hid (BagIn ((w.alloc (.cells #[.int .i64 0, .slice none 0 0, .slice none 0 0] 29)).alloc (.cells #[.slice a l.length cap, .int .i64 0] 98)) w13 (w.heap.size + 1) (.slice a l.length cap) l (KT + 1) q N2 ra n rc ua nw uc L X2) := hb; clear hb)
        go_cut [10, 49] (fun s _ wx => s = .int .i64 FV ∧ BagIn ((w.alloc (.cells #[.int .i64 0, .slice none 0 0, .slice none 0 0] 29)).alloc (.cells #[.slice a l.length cap, .int .i64 0] 98)) wx (w.heap.size + 1) (.slice a l.length cap) l KF q N2 ra n rc ua nw uc L X2)
        case first =>
          by_cases cz : c6 = 0
          · subst cz
            have hx := HF.out
            rw [if_pos rfl] at hx
            injection hx with hxa hxb
            subst hxa hxb
            go_wp2_with (go_at_call 71; refine (HB13.out.pick 22 hL (by omega) (by decide) (by decide)).mono ?_; rintro r w14 ⟨rfl, hb⟩; rw [← Hf22.out]; have HB14 : Hid (BagIn ((w.alloc (.cells #[.int .i64 0, .slice none 0 0, .slice none 0 0] 29)).alloc (.cells #[.slice a l.length cap, .int .i64 0] 98)) w14 (w.heap.size + 1) (.slice a l.length cap) l (KT + 1 + 1) q N2 ra n rc ua nw uc L X2) := hb; clear hb)
            go_meet
            exact ⟨rfl, HB14.out⟩
          · have hx := HF.out
            rw [if_neg cz] at hx
            injection hx with hxa hxb
            subst hxa hxb
            have cz' : ((c6 : Int) == 0) = false := by rw [beq_eq_false_iff_ne]; omega
            go_wp2_with fail
            go_meet
            exact ⟨rfl, HB13.out⟩
        case rest =>
          obtain ⟨rfl, hb15⟩ := hcut
          have HB15 : Hid (BagIn ((w.alloc (.cells #[.int .i64 0, .slice none 0 0, .slice none 0 0] 29)).alloc (.cells #[.slice a l.length cap, .int .i64 0] 98)) wc (w.heap.size + 1) (.slice a l.length cap) l KF q N2 ra n rc ua nw uc L X2) := hb15
          clear hb15 HB13 HB12 HF
          obtain ⟨W15, hW15⟩ : ∃ W, W = wc := ⟨_, rfl⟩
          subst hW15
          have hwx : IntKind.u8.wrap x = x := by simp [IntKind.wrap, IntKind.signed, IntKind.bits]; omega
          have HLit : Hid (∀ y ∈ [x, 1], 0 ≤ y ∧ y ≤ 255) := fun y hy => (by simp at hy; omega : 0 ≤ y ∧ y ≤ 255)
          obtain ⟨ny, hny⟩ : ∃ n, n = YY.length := ⟨_, rfl⟩
          have Hny : Hid (ny = YY.length) := hny
          clear hny
          go_upto_if 56 with (first
            | (go_at_call 73; refine (HB15.out.next hL (by omega)).mono ?_; rintro r w16 ⟨rfl, hb⟩; rw [← Hx.out]; have HB16 : Hid (BagIn ((w.alloc (.cells #[.int .i64 0, .slice none 0 0, .slice none 0 0] 29)).alloc (.cells #[.slice a l.length cap, .int .i64 0] 98)) w16 (w.heap.size + 1) (.slice a l.length cap) l (KF + 1) q N2 ra n rc ua nw uc L X2) := hb; clear hb)
            | (go_at_call 71; refine (l1pick_any (w.heap.size + 1) _ (.slice a l.length cap) l (KF + 1) 16 hL (by omega) (by decide) (by decide) (HB16.out.below ((Below.refl _ _).alloc (Nat.le_refl _) (.cells #[.int .u8 x, .int .u8 1] 5))).dr.src).mono ?_; rintro r w17 ⟨rfl, hs, hgr⟩; rw [← Hq16.out]; have HB17 : Hid (BagIn ((w.alloc (.cells #[.int .i64 0, .slice none 0 0, .slice none 0 0] 29)).alloc (.cells #[.slice a l.length cap, .int .i64 0] 98)) w17 (w.heap.size + 1) (.slice a l.length cap) l (KF + 1 + 1) q N2 ra n rc ua nw uc L X2) := (HB16.out.below ((Below.refl _ _).alloc (Nat.le_refl _) (.cells #[.int .u8 x, .int .u8 1] 5))).call hs hgr; have HY17 : Hid (Own w17 w16.heap.size (.slice (some ⟨w16.heap.size, 0, none⟩) 2 2) [x, 1]) := (Own.lit w16 [x, 1] #[.int .u8 x, .int .u8 1] rfl HLit.out (by simp [maxLen])).grownL hgr (Nat.lt_of_lt_of_le HB16.out.dr.gl HB16.out.dr.size); clear hs hgr))
          go_cut [12, 56] (fun s _ wx => ∃ ba bc, s = .slice ba ny bc ∧ Bs wx (.slice ba ny bc) YY ∧ BagIn ((w.alloc (.cells #[.int .i64 0, .slice none 0 0, .slice none 0 0] 29)).alloc (.cells #[.slice a l.length cap, .int .i64 0] 98)) wx (w.heap.size + 1) (.slice a l.length cap) l (KF + 1 + 1) q N2 ra n rc ua nw uc L X2)
          case first =>
            have hY := HY.out
            by_cases cz : q16 = 0
            · rw [if_pos cz] at hY
              subst cz
              have hn0 : 0 = ny := by rw [Hny.out, hY]; rfl
              subst hn0
              have HYY : Hid (YY = []) := hY
              clear hY HY
              go_wp2_with fail
              go_meet
              exact ⟨none, 0, rfl, by rw [HYY.out]; exact (Own.nil w17 0).bs (by simp), HB17.out⟩
            · rw [if_neg cz] at hY
              have cz' : ((q16 : Int) == 0) = false := by rw [beq_eq_false_iff_ne]; omega
              by_cases c3 : q16 < 3
              · rw [if_pos c3] at hY
                have hny : ny = 16383 + q16 := by rw [Hny.out, hY, List.length_replicate]
                rw [← hny] at hY
                have HYY : Hid (YY = List.replicate ny 120) := hY
                have c3' : (q16 : Int) < 3 := by omega
                have hw1 : IntKind.i64.wrap (16384 + (q16 : Int)) = 16384 + (q16 : Int) := by rw [IntKind.wrap_i64] <;> omega
                have hw2 : IntKind.i64.wrap (16384 + (q16 : Int) - 1) = (ny : Int) := by rw [IntKind.wrap_i64] <;> omega
                have hnyb : ny ≤ 20000 := by omega
                have hny0 : 0 < ny := by omega
                have HLg : Hid (∀ u : World, Calls Try.prog 74 #[.int .i64 ny, .int .u8 120] u fun e w' => e = .returned (.string (strOfNums (List.replicate ny 120))) ∧ Below u.heap.size u w') := fun u => l1longB_any ny 120 hny0 (by omega) (by decide) u
                have hcv : ∀ u : World, (convert 9 35 (.string (strOfNums (List.replicate ny 120)))).run Try.prog u = .ok (.slice (some ⟨u.heap.size, 0, none⟩) ny (grownCap u ny 0 5)) (Lib.bytesWorld u 5 (strOfNums (List.replicate ny 120))) := fun u => by
                  have := Lib.run_convert_string_bytes (P := Try.prog) u 9 35 5 (strOfNums (List.replicate ny 120)) Try.underlying9 Try.underlying35 Try.underlying5
                  rw [strOfNums_size, List.length_replicate] at this
                  exact this
                have HbW : Hid (∀ u : World, Below u.heap.size u (Lib.bytesWorld u 5 (strOfNums (List.replicate ny 120))) ∧ ∀ cp, Bs (Lib.bytesWorld u 5 (strOfNums (List.replicate ny 120))) (.slice (some ⟨u.heap.size, 0, none⟩) ny cp) (List.replicate ny 120)) := fun u => ⟨below_bytesW u _, fun cp => bs_bytesW u ny 120 (by decide) (by omega) cp⟩
                clear hY HY hny c3 cz
                generalize strOfNums (List.replicate ny 120) = SS at *
                go_wp2_with (go_at_call 74; refine (HLg.out _).mono ?_; rintro r w18 ⟨rfl, hb18⟩; have HB18 : Hid (BagIn ((w.alloc (.cells #[.int .i64 0, .slice none 0 0, .slice none 0 0] 29)).alloc (.cells #[.slice a l.length cap, .int .i64 0] 98)) w18 (w.heap.size + 1) (.slice a l.length cap) l (KF + 1 + 1) q N2 ra n rc ua nw uc L X2) := HB17.out.below hb18; clear hb18)
                go_meet
                exact ⟨_, _, rfl, by rw [HYY.out]; exact (HbW.out w18).2 _, HB18.out.below (HbW.out w18).1⟩
              · rw [if_neg c3] at hY
                have hn0 : 2 = ny := by rw [Hny.out, hY]; rfl
                subst hn0
                have HYY : Hid (YY = [x, 1]) := hY
                have c3' : ¬ (q16 : Int) < 3 := by omega
                clear hY HY
                go_wp2_with fail
                go_meet
                exact ⟨_, _, rfl, by rw [HYY.out]; exact HY17.out.bs (by simp [maxLen]), HB17.out⟩
          case rest =>
            obtain ⟨ba, bc, rfl, hby, hbi⟩ := hcut
            have HYc : Hid (Bs wc (.slice ba ny bc) YY) := hby
            have HBc : Hid (BagIn ((w.alloc (.cells #[.int .i64 0, .slice none 0 0, .slice none 0 0] 29)).alloc (.cells #[.slice a l.length cap, .int .i64 0] 98)) wc (w.heap.size + 1) (.slice a l.length cap) l (KF + 1 + 1) q N2 ra n rc ua nw uc L X2) := hbi
            have HB0 : Hid (Blk wc w.heap.size #[.int .i64 0, .slice none 0 0, .slice none 0 0] 29) := ((Blk.new w #[.int .i64 0, .slice none 0 0, .slice none 0 0] 29).alloc _).grown hbi.dr.grown (by omega)
            clear hby hbi HB17 HB16 HB15 HY17
            go_wp2_with (first
              | (have hBA := HBc; refine gate_ld 29 (.tmp 7) rfl ?_; clear hBA; refine wpl_load_blk rfl 29 (.tmp 7) rfl q rfl (HBc.out.dr.blk 0 rfl) Try.underlying29 rfl infoBagB rfl ?_)
              | (have hBA := HB0; refine gate_st 29 (.tmp 2) _ rfl ?_; clear hBA; refine wpl_store_blk rfl 29 (.tmp 2) _ rfl (w.heap.size) rfl rfl HB0.out infoBagB rfl rfl (by simp [Value.oneCell']) ?_))
            have hn := HBc.out.hn
            subst hn
            have hlen : L.length ≤ maxLen := by
              have e1 := HcL.out
              have e2 : (cont L).length = L.length := by unfold cont; rw [List.length_map]
              have e3 := HP2l.out
              rw [e1] at e2
              unfold maxLen
              omega
            have hlenw : X2.length ≤ maxLen := by have := HX2l.out; unfold maxLen; omega
            have hk : ∀ k, (((w.alloc (.cells #[.int .i64 0, .slice none 0 0, .slice none 0 0] 29)).alloc (.cells #[.slice a l.length cap, .int .i64 0] 98))).heap.size ≤ k → k < wc.heap.size → (wc.setRow w.heap.size #[.int .i64 N2, .slice ra L.length rc, .slice ua nw uc]).heap[k]? = wc.heap[k]? := fun k hk _ => setRow_other _ _ _ _ (by simp at hk; omega)
            have hp := ((HBc.out.own.keep hk).r hlen).pks
            have hi := ((OwnI.keep HBc.out.ow hk).r hlenw).ix
            have hy := bs_setRow (C' := #[.int .i64 N2, .slice ra L.length rc, .slice ua nw uc]) HYc.out HB0.out (noU8_of rfl)
            have cb := (HB0.out.row #[.int .i64 N2, .slice ra L.length rc, .slice ua nw uc]).cell
            exact bodyPost_ret (v := .tuple #[.agg #[.int .i64 N2, .slice ra L.length rc, .slice ua nw uc], .int .i64 FV, .int .i64 TV, .slice ba ny bc]) (by simp [results, Try.results30, go_sem, cb]) rfl ⟨ra, rc, ua, nw, uc, ba, ny, bc, L, rfl, HcL.out, HBc.out.hw, Hny.out, hp, hi, hy, below_row (grown_belowB HBc.out.dr.grown) (Nat.le_refl _) _⟩
end Go.Proofs.Ytfcmffdljfljkaa
