/-
  The walk of the law FnExactParseScript.
-/
import Derived.Test.YtanpindbhdeomaaGreatDoorPsLw
namespace Go.Proofs.YtanpindbhdeomaaGreatDoor
open Go.RowKit
set_option linter.unusedVariables false
set_option linter.unusedSimpArgs false

theorem drawM_len (ws : List (List UInt8)) : (drawM ws).2.length ≤ 4096 := by
  unfold drawM
  split
  · simp
  · split
    · simp
    · split
      · simp
      · split
        · simp; omega
        · simp
theorem lineQ_len {k : Nat} {x : Scr} {l : List UInt8} (hd : x.ds.length ≤ 4096) (hs : x.ss.length ≤ 4096) : (lineQ k x l).2.ds.length ≤ 4096 ∧ (lineQ k x l).2.ss.length ≤ 4096 := by
  unfold lineQ
  split
  · split
    · exact ⟨hd, hs⟩
    · exact ⟨hd, hs⟩
  · split
    · split
      · refine ⟨?_, hs⟩
        show (drawL l).2.length ≤ 4096
        unfold drawL
        split
        · simp
        · exact drawM_len _
      · exact ⟨hd, hs⟩
    · split
      · rename_i h0
        refine ⟨hd, ?_⟩
        have := stepN_room h0
        show (x.ss ++ _).length ≤ 4096
        rw [List.length_append]
        simp
        omega
      · exact ⟨hd, hs⟩
theorem linesQ_len : ∀ (L : List (List UInt8)) (k : Nat) (x : Scr), x.ds.length ≤ 4096 → x.ss.length ≤ 4096 → (linesQ k x L).2.2.ds.length ≤ 4096 ∧ (linesQ k x L).2.2.ss.length ≤ 4096
  | [], k, x, hd, hs => ⟨hd, hs⟩
  | l :: r, k, x, hd, hs => by
    rw [linesQ]
    split
    · exact linesQ_len r (k + 1) _ (lineQ_len hd hs).1 (lineQ_len hd hs).2
    · exact ⟨hd, hs⟩
theorem parseQ_len (t : List UInt8) : (parseQ t).2.2.ds.length ≤ 4096 ∧ (parseQ t).2.2.ss.length ≤ 4096 := by
  have hz : scr0.ds.length ≤ 4096 ∧ scr0.ss.length ≤ 4096 := ⟨Nat.zero_le _, Nat.zero_le _⟩
  unfold parseQ
  split
  · exact hz
  · split
    · exact hz
    · split
      · exact hz
      · split
        · exact hz
        · exact linesQ_len _ _ _ hz.1 hz.2
theorem own_len {α : Type} {cs : α → List Value} {m : Nat} {T : TypeId} {w : World} {B : Nat} {a : Option Addr} {n c : Nat} {l : List α} (h : OwnG cs m T w B (.slice a n c) l) : n = l.length := by
  obtain ⟨a', c', e⟩ := h.shape
  simp only [Value.slice.injEq] at e
  exact e.2.1
set_option maxHeartbeats 2000000 in
set_option maxRecDepth 100000 in
theorem lawParse_walk (t : List UInt8) (w : World) (he : EnvP w) :
    Calls Tryz.prog 3 #[.string (sOf t)] w fun e w' => e = .returned (.bool true) ∧ Below w.heap.size w w' := by
  have hss : (sOf t).size = t.length := sOf_size t
  have HE : Hid (EnvP w) := he
  obtain ⟨hl1, hl2⟩ := parseQ_len t
  obtain ⟨c0, hc0⟩ : ∃ c, c = (parseQ t).1 := ⟨_, rfl⟩
  obtain ⟨l0, hl0⟩ : ∃ c : Int, c = ((parseQ t).2.1 : Int) := ⟨_, rfl⟩
  obtain ⟨us, hus⟩ : ∃ c, c = (parseQ t).2.2.u.s := ⟨_, rfl⟩
  obtain ⟨uc, huc⟩ : ∃ c, c = (parseQ t).2.2.u.c := ⟨_, rfl⟩
  obtain ⟨ue, hue⟩ : ∃ c, c = (parseQ t).2.2.u.el := ⟨_, rfl⟩
  obtain ⟨ub, hub⟩ : ∃ c, c = (parseQ t).2.2.u.b := ⟨_, rfl⟩
  obtain ⟨ur, hur⟩ : ∃ c, c = (parseQ t).2.2.u.r := ⟨_, rfl⟩
  obtain ⟨ud, hud⟩ : ∃ c, c = (parseQ t).2.2.u.d := ⟨_, rfl⟩
  obtain ⟨ds, hds⟩ : ∃ c, c = (parseQ t).2.2.ds := ⟨_, rfl⟩
  obtain ⟨ss, hsx⟩ : ∃ c, c = (parseQ t).2.2.ss := ⟨_, rfl⟩
  have HA : Hid (∀ e z B, AnP (parseQ t) e z B → ∃ (d : Option Addr) (n c : Nat) (s : Option Addr) (m r : Nat), e = .returned (.agg #[.int .i64 c0, .int .i64 l0, .int .i64 us, .int .i64 uc, .int .i64 ue, .int .i64 ub, .int .i64 ur, .int .i64 ud, .slice d n c, .slice s m r]) ∧ OwnG inC 1 3 z B (.slice d n c) ds ∧ OwnG stC 10 48 z B (.slice s m r) ss) := by
    unfold Hid
    intro e z B h
    rw [hc0, hl0, hus, huc, hue, hub, hur, hud, hds, hsx]
    exact h
  rw [← hds] at hl1
  rw [← hsx] at hl2
  have HSp : Hid (∀ z, Calls Tryz.prog 4 #[.string (sOf t)] z fun e w' => (∃ (d : Option Addr) (n c : Nat) (s : Option Addr) (m r : Nat), e = .returned (.agg #[.int .i64 c0, .int .i64 l0, .int .i64 us, .int .i64 uc, .int .i64 ue, .int .i64 ub, .int .i64 ur, .int .i64 ud, .slice d n c, .slice s m r]) ∧ OwnG inC 1 3 w' z.heap.size (.slice d n c) ds ∧ OwnG stC 10 48 w' z.heap.size (.slice s m r) ss) ∧ Below z.heap.size z w') := fun z => (sParseScript_any t z).mono fun e w' h => ⟨HA.out _ _ _ h.1, h.2⟩
  have HIm : Hid (∀ z, Below w.heap.size w z → Calls Tryz.prog 5 #[.string (sOf t)] z fun e w' => (∃ (d : Option Addr) (n c : Nat) (s : Option Addr) (m r : Nat), e = .returned (.agg #[.int .i64 c0, .int .i64 l0, .int .i64 us, .int .i64 uc, .int .i64 ue, .int .i64 ub, .int .i64 ur, .int .i64 ud, .slice d n c, .slice s m r]) ∧ OwnG inC 1 3 w' z.heap.size (.slice d n c) ds ∧ OwnG stC 10 48 w' z.heap.size (.slice s m r) ss) ∧ Below z.heap.size z w') := fun z hz => (parseI_any t z (HE.out.below hz)).mono fun e w' h => ⟨HA.out _ _ _ h.1, h.2⟩
  have HIx : Hid (∀ z B v, OwnG inC 1 3 z B v ds → Ix z v ds) := fun z B v h => own_ix h (by omega)
  have HSl : Hid (∀ z B v, OwnG stC 10 48 z B v ss → Sl stC 10 z v ss) := fun z B v h => h.sl stpLaw (by unfold maxLen; omega)
  have HLd : Hid (ds.length ≤ 4096) := hl1
  have HLs : Hid (ss.length ≤ 4096) := hl2
  clear hc0 hl0 hus huc hue hub hur hud hds hsx HA he hl1 hl2
  generalize sOf t = S at *
  have G1 : Hid True := trivial
  have G2 : Hid True := trivial
  have G3 : Hid True := trivial
  have G4 : Hid True := trivial
  have G5 : Hid True := trivial
  by_cases hbig : 1048576 < t.length
  · have hbi : (1048576 : Int) < (t.length : Int) := by omega
    clear HSp HIm
    go_enter Tryz.func3, Tryz.ntmps3
    go_wp2
    go_ret
    exact ⟨rfl, Below.refl _ _⟩
  have hbi : ¬ (1048576 : Int) < (t.length : Int) := by omega
  go_enter Tryz.func3, Tryz.ntmps3
  go_wp2_with (first
    | (go_at_call 4; refine (HSp.out _).mono ?_; rintro e w1 ⟨⟨d1, n1, e1, s1, m1, r1, rfl, hd, hs⟩, hb⟩; have HD1 : Hid (OwnG inC 1 3 w1 w.heap.size (.slice d1 n1 e1) ds) := hd; have HS1 : Hid (OwnG stC 10 48 w1 w.heap.size (.slice s1 m1 r1) ss) := hs; have HB1 : Hid (Below w.heap.size w w1) := hb; have q1 : w.heap.size ≤ w1.heap.size := hb.size; have HZd1 : Hid (∀ k, (Value.slice d1 n1 e1).ownBlock = some k → k < w1.heap.size) := (fun k hk => (hd.lts k hk).2); have HZs1 : Hid (∀ k, (Value.slice s1 m1 r1).ownBlock = some k → k < w1.heap.size) := (fun k hk => (hs.lts k hk).2); clear hd hs hb)
    | (have hBA := G1; refine gate_st 29 (.tmp 3) _ rfl ?_; clear hBA; refine wpl_store_last rfl 29 (.tmp 3) _ rfl (w1.heap.size) rfl rfl rfl sizeAnP rfl rfl (by simp [Value.oneCell']) ?_; clear G1; have B2 : Hid (Blk (w1.alloc (.cells #[.int .i64 c0, .int .i64 l0, .int .i64 us, .int .i64 uc, .int .i64 ue, .int .i64 ub, .int .i64 ur, .int .i64 ud, .slice d1 n1 e1, .slice s1 m1 r1] 29)) w1.heap.size #[.int .i64 c0, .int .i64 l0, .int .i64 us, .int .i64 uc, .int .i64 ue, .int .i64 ub, .int .i64 ur, .int .i64 ud, .slice d1 n1 e1, .slice s1 m1 r1] 29) := Blk.new _ _ _; have HX2 : Hid (Below w1.heap.size w1 (w1.alloc (.cells #[.int .i64 c0, .int .i64 l0, .int .i64 us, .int .i64 uc, .int .i64 ue, .int .i64 ub, .int .i64 ur, .int .i64 ud, .slice d1 n1 e1, .slice s1 m1 r1] 29))) := (Below.refl _ _).alloc (Nat.le_refl _) _; have hz2 : (w1.alloc (.cells #[.int .i64 c0, .int .i64 l0, .int .i64 us, .int .i64 uc, .int .i64 ue, .int .i64 ub, .int .i64 ur, .int .i64 ud, .slice d1 n1 e1, .slice s1 m1 r1] 29)).heap.size = w1.heap.size + 1 := (by simp); generalize w1.alloc (.cells #[.int .i64 c0, .int .i64 l0, .int .i64 us, .int .i64 uc, .int .i64 ue, .int .i64 ub, .int .i64 ur, .int .i64 ud, .slice d1 n1 e1, .slice s1 m1 r1] 29) = w2 at *; have HB2 : Hid (Below w.heap.size w w2) := HB1.out.trans (HX2.out.mono q1); have HD2 : Hid (OwnG inC 1 3 w2 w.heap.size (.slice d1 n1 e1) ds) := HD1.out.below HX2.out; have HS2 : Hid (OwnG stC 10 48 w2 w.heap.size (.slice s1 m1 r1) ss) := HS1.out.below HX2.out; clear HD1 HS1 HX2)
    | (have hG := G2; go_at_call 5; clear hG G2; refine (HIm.out _ HB2.out).mono ?_; rintro e w3 ⟨⟨d3, n3, e3, s3, m3, r3, rfl, hd, hs⟩, hb⟩; have HD3 : Hid (OwnG inC 1 3 w3 w2.heap.size (.slice d3 n3 e3) ds) := hd; have HS3 : Hid (OwnG stC 10 48 w3 w2.heap.size (.slice s3 m3 r3) ss) := hs; have HB3 : Hid (Below w2.heap.size w2 w3) := hb; have q3 : w2.heap.size ≤ w3.heap.size := hb.size; clear hd hs hb)
    | (have hBA := G3; refine gate_st 29 (.tmp 4) _ rfl ?_; clear hBA; refine wpl_store_last rfl 29 (.tmp 4) _ rfl (w3.heap.size) rfl rfl rfl sizeAnP rfl rfl (by simp [Value.oneCell']) ?_; clear G3; have B4 : Hid (Blk (w3.alloc (.cells #[.int .i64 c0, .int .i64 l0, .int .i64 us, .int .i64 uc, .int .i64 ue, .int .i64 ub, .int .i64 ur, .int .i64 ud, .slice d3 n3 e3, .slice s3 m3 r3] 29)) w3.heap.size #[.int .i64 c0, .int .i64 l0, .int .i64 us, .int .i64 uc, .int .i64 ue, .int .i64 ub, .int .i64 ur, .int .i64 ud, .slice d3 n3 e3, .slice s3 m3 r3] 29) := Blk.new _ _ _; have HX4 : Hid (Below w3.heap.size w3 (w3.alloc (.cells #[.int .i64 c0, .int .i64 l0, .int .i64 us, .int .i64 uc, .int .i64 ue, .int .i64 ub, .int .i64 ur, .int .i64 ud, .slice d3 n3 e3, .slice s3 m3 r3] 29))) := (Below.refl _ _).alloc (Nat.le_refl _) _; have hz4 : (w3.alloc (.cells #[.int .i64 c0, .int .i64 l0, .int .i64 us, .int .i64 uc, .int .i64 ue, .int .i64 ub, .int .i64 ur, .int .i64 ud, .slice d3 n3 e3, .slice s3 m3 r3] 29)).heap.size = w3.heap.size + 1 := (by simp); generalize w3.alloc (.cells #[.int .i64 c0, .int .i64 l0, .int .i64 us, .int .i64 uc, .int .i64 ue, .int .i64 ub, .int .i64 ur, .int .i64 ud, .slice d3 n3 e3, .slice s3 m3 r3] 29) = w4 at *; have HB24 : Hid (Below w2.heap.size w2 w4) := HB3.out.trans (HX4.out.mono q3); have HB4 : Hid (Below w.heap.size w w4) := HB2.out.trans (HB24.out.mono (by omega)); have BA4 : Hid (Blk w4 w1.heap.size #[.int .i64 c0, .int .i64 l0, .int .i64 us, .int .i64 uc, .int .i64 ue, .int .i64 ub, .int .i64 ur, .int .i64 ud, .slice d1 n1 e1, .slice s1 m1 r1] 29) := B2.out.below HB24.out (by omega); have HD4 : Hid (OwnG inC 1 3 w4 w2.heap.size (.slice d3 n3 e3) ds) := HD3.out.below HX4.out; have HS4 : Hid (OwnG stC 10 48 w4 w2.heap.size (.slice s3 m3 r3) ss) := HS3.out.below HX4.out; have HDa : Hid (OwnG inC 1 3 w4 w.heap.size (.slice d1 n1 e1) ds) := HD2.out.below HB24.out; have HSa : Hid (OwnG stC 10 48 w4 w.heap.size (.slice s1 m1 r1) ss) := HS2.out.below HB24.out; have hn3 : n3 ≤ 70000 := (by have h1 := own_len HD4.out; have h2 := HLd.out; omega); have hm3 : m3 ≤ 70000 := (by have h1 := own_len HS4.out; have h2 := HLs.out; omega); clear HD3 HS3 HX4 HB3 HD2 HS2)
    | (refine gate_ld 29 (.tmp 4) rfl ?_; refine wpl_load_blk rfl 29 (.tmp 4) rfl (w3.heap.size) rfl B4.out Tryz.underlying29 rfl sizeAnP rfl ?_)
    | (refine gate_ld 29 (.tmp 3) rfl ?_; refine wpl_load_blk rfl 29 (.tmp 3) rfl (w1.heap.size) rfl BA4.out Tryz.underlying29 rfl sizeAnP rfl ?_)
    | (have hG := G4; go_at_call 6; clear hG G4; refine (eqParse_same _ _ _ _ _ _ _ _ _ _ _ _ ds ss _ (HIx.out _ _ _ HD4.out) (HSl.out _ _ _ HS4.out) (HIx.out _ _ _ HDa.out) (HSl.out _ _ _ HSa.out)).mono ?_; rintro e w5 ⟨rfl, hb⟩; have BA5 : Hid (Blk w5 w1.heap.size #[.int .i64 c0, .int .i64 l0, .int .i64 us, .int .i64 uc, .int .i64 ue, .int .i64 ub, .int .i64 ur, .int .i64 ud, .slice d1 n1 e1, .slice s1 m1 r1] 29) := BA4.out.below hb BA4.out.lt; have BG5 : Hid (Blk w5 w3.heap.size #[.int .i64 c0, .int .i64 l0, .int .i64 us, .int .i64 uc, .int .i64 ue, .int .i64 ub, .int .i64 ur, .int .i64 ud, .slice d3 n3 e3, .slice s3 m3 r3] 29) := B4.out.below hb B4.out.lt; have HD5 : Hid (OwnG inC 1 3 w5 w2.heap.size (.slice d3 n3 e3) ds) := HD4.out.below hb; have HS5 : Hid (OwnG stC 10 48 w5 w2.heap.size (.slice s3 m3 r3) ss) := HS4.out.below hb; have HDb : Hid (OwnG inC 1 3 w5 w.heap.size (.slice d1 n1 e1) ds) := HDa.out.below hb; have HSb : Hid (OwnG stC 10 48 w5 w.heap.size (.slice s1 m1 r1) ss) := HSa.out.below hb; have q45 : w4.heap.size ≤ w5.heap.size := hb.size; have HB5 : Hid (Below w.heap.size w w5) := HB4.out.trans (hb.mono HB4.out.size); clear hb BA4 B4 HD4 HS4 HDa HSa HB4 HB24)
    | (refine gate_ld 29 (.tmp 4) rfl ?_; refine wpl_load_blk rfl 29 (.tmp 4) rfl (w3.heap.size) rfl BG5.out Tryz.underlying29 rfl sizeAnP rfl ?_)
    | (go_at_call 7; refine (markParse_own _ _ _ _ _ _ _ _ d3 n3 e3 s3 m3 r3 ds ss w5 w2.heap.size (by omega) HD5.out HS5.out hn3 hm3).mono ?_; rintro e w6 ⟨rfl, hk, hb, hf⟩; have HM6 : Hid (Mkd w6 d3 n3 s3 m3) := hk; have BA6 : Hid (Blk w6 w1.heap.size #[.int .i64 c0, .int .i64 l0, .int .i64 us, .int .i64 uc, .int .i64 ue, .int .i64 ub, .int .i64 ur, .int .i64 ud, .slice d1 n1 e1, .slice s1 m1 r1] 29) := BA5.out.below hb (by omega); have BG6 : Hid (Blk w6 w3.heap.size #[.int .i64 c0, .int .i64 l0, .int .i64 us, .int .i64 uc, .int .i64 ue, .int .i64 ub, .int .i64 ur, .int .i64 ud, .slice d3 n3 e3, .slice s3 m3 r3] 29) := BG5.out.keep (hf _ BG5.out.lt (own_neBlk HD5.out BG5.out (by decide)) (own_neBlk HS5.out BG5.out (by decide))); have HD6 : Hid (OwnG inC 1 3 w6 w.heap.size (.slice d1 n1 e1) ds) := HDb.out.block (fun k hk => hb.block k (by have := HZd1.out k hk; omega)); have HS6 : Hid (OwnG stC 10 48 w6 w.heap.size (.slice s1 m1 r1) ss) := HSb.out.block (fun k hk => hb.block k (by have := HZs1.out k hk; omega)); have HB6 : Hid (Below w.heap.size w w6) := HB5.out.trans (hb.mono (by omega)); obtain ⟨R, hR⟩ : ∃ R : Int, R = ((1 + n3 + 10 * m3 : Nat) : Int) := ⟨_, rfl⟩; rw [← hR]; have hR0 : ¬ R < 0 := (by omega); have HR : Hid (R = ((1 + n3 + 10 * m3 : Nat) : Int)) := hR; clear hR hk hb hf BA5 BG5 HD5 HS5 HDb HSb HB5)
    | (refine gate_ld 29 (.tmp 4) rfl ?_; refine wpl_load_blk rfl 29 (.tmp 4) rfl (w3.heap.size) rfl BG6.out Tryz.underlying29 rfl sizeAnP rfl ?_)
    | (have hG := G5; go_at_call 8; clear hG G5; refine (heldParse_own _ _ _ _ _ _ _ _ d3 n3 e3 s3 m3 r3 w6 HM6.out hn3 hm3).mono ?_; rintro e w7 ⟨rfl, hb⟩; rw [← HR.out]; have HM7 : Hid (Mkd w7 d3 n3 s3 m3) := HM6.out.below hb; have BA7 : Hid (Blk w7 w1.heap.size #[.int .i64 c0, .int .i64 l0, .int .i64 us, .int .i64 uc, .int .i64 ue, .int .i64 ub, .int .i64 ur, .int .i64 ud, .slice d1 n1 e1, .slice s1 m1 r1] 29) := BA6.out.below hb BA6.out.lt; have BG7 : Hid (Blk w7 w3.heap.size #[.int .i64 c0, .int .i64 l0, .int .i64 us, .int .i64 uc, .int .i64 ue, .int .i64 ub, .int .i64 ur, .int .i64 ud, .slice d3 n3 e3, .slice s3 m3 r3] 29) := BG6.out.below hb BG6.out.lt; have HD7 : Hid (OwnG inC 1 3 w7 w.heap.size (.slice d1 n1 e1) ds) := HD6.out.below hb; have HS7 : Hid (OwnG stC 10 48 w7 w.heap.size (.slice s1 m1 r1) ss) := HS6.out.below hb; have HB7 : Hid (Below w.heap.size w w7) := HB6.out.trans (hb.mono HB6.out.size); clear hb HM6 BA6 BG6 HD6 HS6 HB6)
    | (go_at_call 5; refine (HIm.out _ HB7.out).mono ?_; rintro e w8 ⟨⟨d8, n8, e8, s8, m8, r8, rfl, hd, hs⟩, hb⟩; have HD8 : Hid (OwnG inC 1 3 w8 w7.heap.size (.slice d8 n8 e8) ds) := hd; have HS8 : Hid (OwnG stC 10 48 w8 w7.heap.size (.slice s8 m8 r8) ss) := hs; have HB8 : Hid (Below w7.heap.size w7 w8) := hb; have q8 : w7.heap.size ≤ w8.heap.size := hb.size; clear hd hs hb)
    | (refine gate_st 29 (.tmp 7) _ rfl ?_; refine wpl_store_last rfl 29 (.tmp 7) _ rfl (w8.heap.size) rfl rfl rfl sizeAnP rfl rfl (by simp [Value.oneCell']) ?_; have BH9 : Hid (Blk (w8.alloc (.cells #[.int .i64 c0, .int .i64 l0, .int .i64 us, .int .i64 uc, .int .i64 ue, .int .i64 ub, .int .i64 ur, .int .i64 ud, .slice d8 n8 e8, .slice s8 m8 r8] 29)) w8.heap.size #[.int .i64 c0, .int .i64 l0, .int .i64 us, .int .i64 uc, .int .i64 ue, .int .i64 ub, .int .i64 ur, .int .i64 ud, .slice d8 n8 e8, .slice s8 m8 r8] 29) := Blk.new _ _ _; have HX9 : Hid (Below w8.heap.size w8 (w8.alloc (.cells #[.int .i64 c0, .int .i64 l0, .int .i64 us, .int .i64 uc, .int .i64 ue, .int .i64 ub, .int .i64 ur, .int .i64 ud, .slice d8 n8 e8, .slice s8 m8 r8] 29))) := (Below.refl _ _).alloc (Nat.le_refl _) _; generalize w8.alloc (.cells #[.int .i64 c0, .int .i64 l0, .int .i64 us, .int .i64 uc, .int .i64 ue, .int .i64 ub, .int .i64 ur, .int .i64 ud, .slice d8 n8 e8, .slice s8 m8 r8] 29) = w9 at *; have HB79 : Hid (Below w7.heap.size w7 w9) := HB8.out.trans (HX9.out.mono q8); have HB9 : Hid (Below w.heap.size w w9) := HB7.out.trans (HB79.out.mono HB7.out.size); have BA9 : Hid (Blk w9 w1.heap.size #[.int .i64 c0, .int .i64 l0, .int .i64 us, .int .i64 uc, .int .i64 ue, .int .i64 ub, .int .i64 ur, .int .i64 ud, .slice d1 n1 e1, .slice s1 m1 r1] 29) := BA7.out.below HB79.out BA7.out.lt; have BG9 : Hid (Blk w9 w3.heap.size #[.int .i64 c0, .int .i64 l0, .int .i64 us, .int .i64 uc, .int .i64 ue, .int .i64 ub, .int .i64 ur, .int .i64 ud, .slice d3 n3 e3, .slice s3 m3 r3] 29) := BG7.out.below HB79.out BG7.out.lt; have HM9 : Hid (Mkd w9 d3 n3 s3 m3) := HM7.out.below HB79.out; have HD9 : Hid (OwnG inC 1 3 w9 w7.heap.size (.slice d8 n8 e8) ds) := HD8.out.below HX9.out; have HS9 : Hid (OwnG stC 10 48 w9 w7.heap.size (.slice s8 m8 r8) ss) := HS8.out.below HX9.out; have HDc : Hid (OwnG inC 1 3 w9 w.heap.size (.slice d1 n1 e1) ds) := HD7.out.below HB79.out; have HSc : Hid (OwnG stC 10 48 w9 w.heap.size (.slice s1 m1 r1) ss) := HS7.out.below HB79.out; clear HD8 HS8 HX9 HB8 HD7 HS7 HB7 BA7 BG7 HM7 HB79)
    | (refine gate_ld 29 (.tmp 7) rfl ?_; refine wpl_load_blk rfl 29 (.tmp 7) rfl (w8.heap.size) rfl BH9.out Tryz.underlying29 rfl sizeAnP rfl ?_)
    | (refine gate_ld 29 (.tmp 3) rfl ?_; refine wpl_load_blk rfl 29 (.tmp 3) rfl (w1.heap.size) rfl BA9.out Tryz.underlying29 rfl sizeAnP rfl ?_)
    | (go_at_call 6; refine (eqParse_same _ _ _ _ _ _ _ _ _ _ _ _ ds ss _ (HIx.out _ _ _ HD9.out) (HSl.out _ _ _ HS9.out) (HIx.out _ _ _ HDc.out) (HSl.out _ _ _ HSc.out)).mono ?_; rintro e w10 ⟨rfl, hb⟩; have BG10 : Hid (Blk w10 w3.heap.size #[.int .i64 c0, .int .i64 l0, .int .i64 us, .int .i64 uc, .int .i64 ue, .int .i64 ub, .int .i64 ur, .int .i64 ud, .slice d3 n3 e3, .slice s3 m3 r3] 29) := BG9.out.below hb BG9.out.lt; have HM10 : Hid (Mkd w10 d3 n3 s3 m3) := HM9.out.below hb; have HB10 : Hid (Below w.heap.size w w10) := HB9.out.trans (hb.mono HB9.out.size); clear hb BG9 BA9 BH9 HM9 HD9 HS9 HDc HSc HB9)
    | (refine gate_ld 29 (.tmp 4) rfl ?_; refine wpl_load_blk rfl 29 (.tmp 4) rfl (w3.heap.size) rfl BG10.out Tryz.underlying29 rfl sizeAnP rfl ?_)
    | (go_at_call 8; refine (heldParse_own _ _ _ _ _ _ _ _ d3 n3 e3 s3 m3 r3 w10 HM10.out hn3 hm3).mono ?_; rintro e w11 ⟨rfl, hb⟩; rw [← HR.out]; have HB11 : Hid (Below w.heap.size w w11) := HB10.out.trans (hb.mono HB10.out.size); clear hb HM10 BG10 HB10))
  go_ret
  exact ⟨rfl, HB11.out⟩
end Go.Proofs.YtanpindbhdeomaaGreatDoor
