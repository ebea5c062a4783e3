/-
  The law FnExactRecover: its walk.
-/
import Derived.Test.YtlfnlhbkagjheaaDoorRcImpl
import Derived.Test.YtlfnlhbkagjheaaDoorRsRec
import Derived.Test.YtlfnlhbkagjheaaDoorRcMark
import Derived.Test.YtlfnlhbkagjheaaDoorToBytes
namespace Go.Proofs.YtlfnlhbkagjheaaDoor
open Go.RowKit
set_option linter.unusedVariables false
set_option linter.unusedSimpArgs false

theorem runR_len (l : List Int) : ∀ (f g n : Nat) (s : Stt), s.log.length ≤ g → g ≤ l.length → (runR l f g n s).2.2.2.log.length ≤ l.length := by
  intro f
  induction f with
  | zero => intro g n s h1 h2; rw [runR]; exact Nat.le_trans h1 h2
  | succ f ih =>
    intro g n s h1 h2
    rw [runR]
    split
    · split
      · exact Nat.le_trans h1 h2
      · next hg ho =>
        have hc := cutC_zero (oneE_cut (Decidable.not_not.1 ho))
        have hl := thenS_len s (frec ((l.drop g).take (cutN (l.drop g))))
        have h4 := hc.2.2.2.1
        rw [List.length_drop] at h4
        exact ih _ _ _ (by omega) (by omega)
    · exact Nat.le_trans h1 h2
theorem rcv_len (l : List Int) : (rcv l).2.2.2.log.length ≤ l.length := runR_len l _ 0 0 _ (Nat.le_refl _) (Nat.zero_le _)
theorem rcv_shape (l : List Int) : ∃ x0 x1 x2 x3 x4 : Int, ∀ ev, rcvV (rcv l) ev = .agg #[.int .i64 x0, .int .i64 x1, .int .i64 x2, .int .i64 x3, .int .i64 x4, ev] := ⟨_, _, _, _, _, fun ev => rfl⟩

/-- what stays of the law's first answers -/
structure LawI (W0 W : World) (b3 b5 : Nat) (C3 C5 : List Value) (ev0 : Value) (Ls : List Ent) : Prop where
  bel : Below W0.heap.size W0 W
  r3 : W.rangeAt b3 0 C3
  r5 : W.rangeAt b5 0 C5
  l3 : b3 < W.heap.size
  l5 : b5 < W.heap.size
  own0 : OwnE W W0.heap.size ev0 Ls
theorem LawI.below {W0 W W' : World} {b3 b5 : Nat} {C3 C5 : List Value} {ev0 : Value} {Ls : List Ent} (h : LawI W0 W b3 b5 C3 C5 ev0 Ls) (hb : Below W.heap.size W W') : LawI W0 W' b3 b5 C3 C5 ev0 Ls :=
  ⟨h.bel.trans (hb.mono h.bel.size), range_of_block (hb.block b3 h.l3) h.r3, range_of_block (hb.block b5 h.l5) h.r5, Nat.lt_of_lt_of_le h.l3 hb.size, Nat.lt_of_lt_of_le h.l5 hb.size, h.own0.below hb⟩
theorem LawI.grownRow {W0 W W' : World} {b3 b5 : Nat} {C3 C5 : List Value} {ev0 : Value} {Ls : List Ent} (h : LawI W0 W b3 b5 C3 C5 ev0 Ls) {row : Option Nat} (hg : W.grownBy W' row) (hq : ∀ q, row = some q → W0.heap.size ≤ q ∧ q ≠ b3 ∧ q ≠ b5 ∧ ev0.ownBlock ≠ some q) : LawI W0 W' b3 b5 C3 C5 ev0 Ls := by
  have hb : ∀ k, k < W.heap.size → (∀ q, row = some q → q ≠ k) → W'.heap[k]? = W.heap[k]? := fun k hk hne => hg.block k hk (fun e => hne k e.symm rfl)
  refine ⟨⟨hg.os.trans h.bel.os, hg.tape.trans h.bel.tape, hg.output.trans h.bel.output, Nat.le_trans h.bel.size hg.size, fun k hk => (hb k (Nat.lt_of_lt_of_le hk h.bel.size) (fun q e => by have := (hq q e).1; omega)).trans (h.bel.block k hk)⟩,
    range_of_block (hb b3 h.l3 (fun q e => (hq q e).2.1)) h.r3, range_of_block (hb b5 h.l5 (fun q e => (hq q e).2.2.1)) h.r5, Nat.lt_of_lt_of_le h.l3 hg.size, Nat.lt_of_lt_of_le h.l5 hg.size, h.own0.block fun k hk => hb k (h.own0.2.lt k hk).2 (fun q e e' => (hq q e).2.2.2 (by rw [e']; exact hk))⟩
theorem LawI.grown {W0 W W' : World} {b3 b5 : Nat} {C3 C5 : List Value} {ev0 : Value} {Ls : List Ent} (h : LawI W0 W b3 b5 C3 C5 ev0 Ls) {q : Nat} (hg : W.grownBy W' (some q)) (h0 : W0.heap.size ≤ q) (h3 : q ≠ b3) (h5 : q ≠ b5) (he : ev0.ownBlock ≠ some q) : LawI W0 W' b3 b5 C3 C5 ev0 Ls :=
  h.grownRow hg fun q' e => by injection e with e; subst e; exact ⟨h0, h3, h5, he⟩
theorem bs_there {w : World} {q n cap : Nat} {l : List Int} (h : Bs w (.slice (some ⟨q, 0, none⟩) n cap) l) : ∀ i, i < n → ∃ y, w.cell? ⟨q, i, none⟩ = some y := by
  obtain ⟨_, _, a, c, e, hc⟩ := h
  injection e with e1 e2 e3
  intro i hi
  obtain ⟨b, off, e', hj⟩ := hc 0 (by omega)
  rw [← e1] at e'
  injection e' with e'
  injection e' with eb eo
  subst eb eo
  have := hj i (by omega)
  rw [Nat.zero_add] at this
  exact ⟨_, this⟩

set_option maxHeartbeats 8000000 in
set_option maxRecDepth 100000 in
theorem lawRecover_walk (v : Value) (l : List Int) (w : World) (hv : Bs w v l) (A : Nat → Addr) (B : Nat) (hs : Sents w A B) :
    Calls Tryd.prog 3 #[v] w fun e w' => e = .returned (.bool true) ∧ Below w.heap.size w w' := by
  have HV : Hid (Bs w v l) := hv
  obtain ⟨hml, h8, a, c, rfl, hcell⟩ := hv
  unfold maxLen at hml
  clear hcell h8
  by_cases hl : l.length ≤ 1048576
  · obtain ⟨x0, x1, x2, x3, x4, hX⟩ := rcv_shape l
    have hLs := rcv_len l
    have HSp0 := fun w' a c h hc => recoverS_any a c l w' h hc hl
    have HIm0 := fun w' a c hs h hc => recoverI_any a c l w' A B hs h hc hl
    simp only [hX] at HSp0 HIm0
    generalize (rcv l).2.2.2.log = Ls at hLs HSp0 HIm0
    obtain ⟨n, hn0⟩ : ∃ n, Ls.length = n := ⟨_, rfl⟩
    have HL : Hid (Ls.length = n) := hn0
    have hn : n ≤ 1048576 := by omega
    have hLm : Hid (Ls.length ≤ maxLen) := by show Ls.length ≤ maxLen; unfold maxLen; omega
    have HSp : Hid (∀ w' a c, Bs w' (.slice a l.length c) l → l.length ≤ c → Calls Tryd.prog 5 #[.slice a l.length c] w' fun e w'' => ∃ ea ec, e = .returned (.agg #[.int .i64 x0, .int .i64 x1, .int .i64 x2, .int .i64 x3, .int .i64 x4, .slice ea n ec]) ∧ OwnE w'' w'.heap.size (.slice ea n ec) Ls ∧ Below w'.heap.size w' w'') := fun w' a c h hc => (HSp0 w' a c h hc).mono (by
      rintro e w'' ⟨ev, rfl, ho, hb⟩
      obtain ⟨ea, ec, rfl⟩ := ho.shape
      rw [HL.out] at ho ⊢
      exact ⟨ea, ec, rfl, ho, hb⟩)
    have HIm : Hid (∀ w' a c, Sents w' A B → Bs w' (.slice a l.length c) l → l.length ≤ c → Calls Tryd.prog 7 #[.slice a l.length c] w' fun e w'' => ∃ ea ec, e = .returned (.agg #[.int .i64 x0, .int .i64 x1, .int .i64 x2, .int .i64 x3, .int .i64 x4, .slice ea n ec]) ∧ OwnE w'' w'.heap.size (.slice ea n ec) Ls ∧ Below w'.heap.size w' w'') := fun w' a c hs h hc => (HIm0 w' a c hs h hc).mono (by
      rintro e w'' ⟨ev, rfl, ho, hb⟩
      obtain ⟨ea, ec, rfl⟩ := ho.shape
      rw [HL.out] at ho ⊢
      exact ⟨ea, ec, rfl, ho, hb⟩)
    clear HSp0 HIm0 hX hn0 hLs
    have hd : decide ((1 : Int) + l.length < 0) = false := by simp; omega
    have y1 : True := trivial
    have y2 : True := trivial
    have y3 : True := trivial
    have y4 : True := trivial
    have y5 : True := trivial
    have y6 : True := trivial
    have y7 : True := trivial
    have z1 : True := trivial
    have z2 : True := trivial
    have z3 : True := trivial
    have z4 : True := trivial
    have z5 : True := trivial
    have z6 : True := trivial
    have z7 : True := trivial
    go_enter Tryd.func3, Tryd.ntmps3
    go_wp2_with (first
      | (go_at_call 6; clear y1; refine (toByteS_new _ l _ HV.out hl).mono ?_; rintro e w1 ⟨q1, _, hq1, rfl, hs1, hb1, _⟩)
      | (go_at_call 5; refine Calls.mono (HSp.out _ _ _ hs1 (Nat.le_refl _)) ?_; rintro e w2 ⟨ea0, ec0, rfl, ho0, hb2⟩; have hB2 := hb1.trans (hb2.mono hb1.size); have hB2' := hB2.alloc hB2.size (.cells #[.int .i64 x0, .int .i64 x1, .int .i64 x2, .int .i64 x3, .int .i64 x4, .slice ea0 n ec0] 27); have hr3 := range_new w2 [.int .i64 x0, .int .i64 x1, .int .i64 x2, .int .i64 x3, .int .i64 x4, .slice ea0 n ec0] 27; have hz2 := hB2.size)
      | (refine gate_store 27 (.tmp 3) (.tmp 15) rfl ?_; refine wpl_store_new rfl 27 (.tmp 3) (.tmp 15) rfl #[.int .i64 0, .int .i64 0, .int .i64 0, .int .i64 0, .int .i64 0, .slice none 0 0] #[.int .i64 x0, .int .i64 x1, .int .i64 x2, .int .i64 x3, .int .i64 x4, .slice ea0 n ec0] rfl rfl infoRcv rfl (by simp [Value.oneCell']) ?_)
      | (go_at_call 6; clear y2; refine (toByteS_new _ l _ (HV.out.below hB2') hl).mono ?_; rintro e w3 ⟨q3, hq3, hq3', rfl, hs3, hb3, hf3⟩; simp only [World.size_alloc] at hq3; have hB3 := hB2'.trans (hb3.mono hB2'.size); have hz3 := hB3.size)
      | (go_at_call 7; clear y3; refine Calls.mono (HIm.out _ _ _ (hs.below hB3) hs3 (Nat.le_refl _)) ?_; rintro e w4 ⟨ea1, ec1, rfl, ho1, hb4⟩; have hz4 := hb4.size; have hB4 := (hB3.trans (hb4.mono hB3.size)); have hb4a := hb4.alloc hz4 (.cells #[.int .i64 x0, .int .i64 x1, .int .i64 x2, .int .i64 x3, .int .i64 x4, .slice ea1 n ec1] 27); have I4 : LawI w (w4.alloc (.cells #[.int .i64 x0, .int .i64 x1, .int .i64 x2, .int .i64 x3, .int .i64 x4, .slice ea1 n ec1] 27)) w2.heap.size w4.heap.size [.int .i64 x0, .int .i64 x1, .int .i64 x2, .int .i64 x3, .int .i64 x4, .slice ea0 n ec0] [.int .i64 x0, .int .i64 x1, .int .i64 x2, .int .i64 x3, .int .i64 x4, .slice ea1 n ec1] (.slice ea0 n ec0) Ls := ⟨hB4.alloc (by omega) _, range_of_block ((hb4a.block w2.heap.size (by omega)).trans (hb3.block w2.heap.size (by simp))) hr3, range_new w4 [.int .i64 x0, .int .i64 x1, .int .i64 x2, .int .i64 x3, .int .i64 x4, .slice ea1 n ec1] 27, by simp; omega, by simp, (((ho0.le hb1.size).below ((Below.refl _ _).alloc (Nat.le_refl _) _)).below hb3).below hb4a⟩; have own4 := ho1.below ((Below.refl w4.heap.size w4).alloc (Nat.le_refl _) (.cells #[.int .i64 x0, .int .i64 x1, .int .i64 x2, .int .i64 x3, .int .i64 x4, .slice ea1 n ec1] 27)); have hs4 := (hs3.below hb4).below ((Below.refl w4.heap.size w4).alloc (Nat.le_refl _) (.cells #[.int .i64 x0, .int .i64 x1, .int .i64 x2, .int .i64 x3, .int .i64 x4, .slice ea1 n ec1] 27)); have hf4 : ∀ i, (w4.alloc (.cells #[.int .i64 x0, .int .i64 x1, .int .i64 x2, .int .i64 x3, .int .i64 x4, .slice ea1 n ec1] 27)).frozen? ⟨q3, i, none⟩ = false := (fun i => (hb4a.frozen (p := ⟨q3, i, none⟩) hq3').trans (hf3 i)))
      | (refine gate_store 27 (.tmp 5) (.tmp 19) rfl ?_; refine wpl_store_new rfl 27 (.tmp 5) (.tmp 19) rfl #[.int .i64 0, .int .i64 0, .int .i64 0, .int .i64 0, .int .i64 0, .slice none 0 0] #[.int .i64 x0, .int .i64 x1, .int .i64 x2, .int .i64 x3, .int .i64 x4, .slice ea1 n ec1] rfl rfl infoRcv rfl (by simp [Value.oneCell']) ?_)
      | (refine gate_load 27 (.tmp 5) rfl ?_; clear z1; refine wpList_load_mid rfl 27 (.tmp 5) rfl w4.heap.size 0 rfl [.int .i64 x0, .int .i64 x1, .int .i64 x2, .int .i64 x3, .int .i64 x4, .slice ea1 n ec1] _ I4.r5 Tryd.underlying27 rfl infoRcv ?_)
      | (refine gate_load 27 (.tmp 3) rfl ?_; clear z2; refine wpList_load_mid rfl 27 (.tmp 3) rfl w2.heap.size 0 rfl [.int .i64 x0, .int .i64 x1, .int .i64 x2, .int .i64 x3, .int .i64 x4, .slice ea0 n ec0] _ I4.r3 Tryd.underlying27 rfl infoRcv ?_)
      | (go_at_call 8; clear y4; refine (eqRecovery_same x0 x1 x2 x3 x4 _ _ _ _ _ _ Ls _ (own4.es hLm.out) (I4.own0.es hLm.out)).mono ?_; rintro e w5 ⟨rfl, hb5⟩; have I5 := I4.below hb5; have own5 := own4.below hb5; have hs5 := hs4.below hb5; have hz5 := hb5.size; have hq5 : q3 < (w4.alloc (.cells #[.int .i64 x0, .int .i64 x1, .int .i64 x2, .int .i64 x3, .int .i64 x4, .slice ea1 n ec1] 27)).heap.size := (by simp; omega); have hf5 : ∀ i, w5.frozen? ⟨q3, i, none⟩ = false := (fun i => (hb5.frozen (p := ⟨q3, i, none⟩) hq5).trans (hf4 i)))
      | (go_at_call 6; clear y5; refine (toByteS_fit _ l _ (HV.out.below I5.bel) hl).mono ?_; rintro e w6 ⟨a6, rfl, hs6, hb6, _⟩; have I6 := I5.below hb6; have own6 := own5.below hb6; have hs6' := hs5.below hb6; have hq6 : q3 < w5.heap.size := Nat.lt_of_lt_of_le hq5 hz5; have hf6 : ∀ i, w6.frozen? ⟨q3, i, none⟩ = false := (fun i => (hb6.frozen (p := ⟨q3, i, none⟩) hq6).trans (hf5 i)); have hz6 := hb6.size)
      | (go_at_call 9; refine (eqByteS_same _ _ l _ hs6' hs6).mono ?_; rintro e w7 ⟨rfl, hb7⟩; have I7 := I6.below hb7; have own7 := own6.below hb7; have hs7 := hs6'.below hb7; have hq7 : q3 < w6.heap.size := Nat.lt_of_lt_of_le hq6 hz6; have hf7 : ∀ i, w7.frozen? ⟨q3, i, none⟩ = false := (fun i => (hb7.frozen (p := ⟨q3, i, none⟩) hq7).trans (hf6 i)); have hz7 := hb7.size)
      | (go_at_call 10; refine (markByteS_free q3 l.length _ _ (bs_there hs7) hf7 hl).mono ?_; rintro e w8 ⟨rfl, hg8⟩; have I8 := I7.grown hg8 (by omega) (by omega) (by omega) (fun e0 => by have := (ho0.2.lt _ e0).2; omega); have own8 := own7.grown hg8 hq3'; have p0 : w8.cell? ⟨w4.heap.size, 0, none⟩ = some (.int .i64 x0) := (I8.r5 0 _ rfl); have o0 : w8.cell? ⟨w2.heap.size, 0, none⟩ = some (.int .i64 x0) := (I8.r3 0 _ rfl); have p1 : w8.cell? ⟨w4.heap.size, 1, none⟩ = some (.int .i64 x1) := (I8.r5 1 _ rfl); have o1 : w8.cell? ⟨w2.heap.size, 1, none⟩ = some (.int .i64 x1) := (I8.r3 1 _ rfl); have p2 : w8.cell? ⟨w4.heap.size, 2, none⟩ = some (.int .i64 x2) := (I8.r5 2 _ rfl); have o2 : w8.cell? ⟨w2.heap.size, 2, none⟩ = some (.int .i64 x2) := (I8.r3 2 _ rfl); have p3 : w8.cell? ⟨w4.heap.size, 3, none⟩ = some (.int .i64 x3) := (I8.r5 3 _ rfl); have o3 : w8.cell? ⟨w2.heap.size, 3, none⟩ = some (.int .i64 x3) := (I8.r3 3 _ rfl); have p4 : w8.cell? ⟨w4.heap.size, 4, none⟩ = some (.int .i64 x4) := (I8.r5 4 _ rfl); have o4 : w8.cell? ⟨w2.heap.size, 4, none⟩ = some (.int .i64 x4) := (I8.r3 4 _ rfl); have p5 : w8.cell? ⟨w4.heap.size, 5, none⟩ = some (.slice ea1 n ec1) := (I8.r5 5 _ rfl); have o5 : w8.cell? ⟨w2.heap.size, 5, none⟩ = some (.slice ea0 n ec0) := (I8.r3 5 _ rfl))
      | (go_at_call 8; clear y6; refine (eqRecovery_same x0 x1 x2 x3 x4 _ _ _ _ _ _ Ls _ (own8.es hLm.out) (I8.own0.es hLm.out)).mono ?_; rintro e w9 ⟨rfl, hb9⟩; have I9 := I8.below hb9; have own9 := own8.below hb9; clear p0 o0 p1 o1 p2 o2 p3 o3 p4 o4 p5 o5)
      | (refine gate_load 27 (.tmp 5) rfl ?_; clear z3; refine wpList_load_mid rfl 27 (.tmp 5) rfl w4.heap.size 0 rfl [.int .i64 x0, .int .i64 x1, .int .i64 x2, .int .i64 x3, .int .i64 x4, .slice ea1 n ec1] _ I9.r5 Tryd.underlying27 rfl infoRcv ?_)
      | (go_at_call 11; refine (markRecovery_own x0 x1 x2 x3 x4 ea1 n ec1 _ _ Ls own9 HL.out hn).mono ?_; rintro e w10 ⟨rfl, hm10, hg10⟩; have I10 := I9.grownRow hg10 (fun q e0 => by have h1 := (ho1.2.lt q e0); have h2 := hq3'; exact ⟨by omega, by omega, by omega, fun e1 => by have := (ho0.2.lt _ e1).2; omega⟩))
      | (refine gate_load 27 (.tmp 5) rfl ?_; clear z4; refine wpList_load_mid rfl 27 (.tmp 5) rfl w4.heap.size 0 rfl [.int .i64 x0, .int .i64 x1, .int .i64 x2, .int .i64 x3, .int .i64 x4, .slice ea1 n ec1] _ I10.r5 Tryd.underlying27 rfl infoRcv ?_)
      | (go_at_call 12; clear y7; refine (heldRecovery_own x0 x1 x2 x3 x4 ea1 n ec1 _ hm10 hn).mono ?_; rintro e w11 ⟨rfl, hb11⟩; have I11 := I10.below hb11; have hm11 := hm10.below hb11)
      | (go_at_call 6; refine (toByteS_fit _ l _ (HV.out.below I11.bel) hl).mono ?_; rintro e w12 ⟨a12, rfl, hs12, hb12, _⟩; have I12 := I11.below hb12; have hm12 := hm11.below hb12)
      | (go_at_call 7; refine Calls.mono (HIm.out _ _ _ (hs.below I12.bel) hs12 (Nat.le_refl _)) ?_; rintro e w13 ⟨ea2, ec2, rfl, ho2, hb13⟩; have hba := (Below.refl w13.heap.size w13).alloc (Nat.le_refl _) (.cells #[.int .i64 x0, .int .i64 x1, .int .i64 x2, .int .i64 x3, .int .i64 x4, .slice ea2 n ec2] 27); have I13 := (I12.below hb13).below hba; have hm13 := (hm12.below hb13).below hba; have own13 := ho2.below hba; have hr9 := range_new w13 [.int .i64 x0, .int .i64 x1, .int .i64 x2, .int .i64 x3, .int .i64 x4, .slice ea2 n ec2] 27)
      | (refine gate_store 27 (.tmp 9) (.tmp 53) rfl ?_; refine wpl_store_new rfl 27 (.tmp 9) (.tmp 53) rfl #[.int .i64 0, .int .i64 0, .int .i64 0, .int .i64 0, .int .i64 0, .slice none 0 0] #[.int .i64 x0, .int .i64 x1, .int .i64 x2, .int .i64 x3, .int .i64 x4, .slice ea2 n ec2] rfl rfl infoRcv rfl (by simp [Value.oneCell']) ?_)
      | (refine gate_load 27 (.tmp 9) rfl ?_; clear z5; refine wpList_load_mid rfl 27 (.tmp 9) rfl w13.heap.size 0 rfl [.int .i64 x0, .int .i64 x1, .int .i64 x2, .int .i64 x3, .int .i64 x4, .slice ea2 n ec2] _ hr9 Tryd.underlying27 rfl infoRcv ?_)
      | (refine gate_load 27 (.tmp 3) rfl ?_; clear z6; refine wpList_load_mid rfl 27 (.tmp 3) rfl w2.heap.size 0 rfl [.int .i64 x0, .int .i64 x1, .int .i64 x2, .int .i64 x3, .int .i64 x4, .slice ea0 n ec0] _ I13.r3 Tryd.underlying27 rfl infoRcv ?_)
      | (go_at_call 8; refine (eqRecovery_same x0 x1 x2 x3 x4 _ _ _ _ _ _ Ls _ (own13.es hLm.out) (I13.own0.es hLm.out)).mono ?_; rintro e w14 ⟨rfl, hb14⟩; have I14 := I13.below hb14; have hm14 := hm13.below hb14)
      | (refine gate_load 27 (.tmp 5) rfl ?_; clear z7; refine wpList_load_mid rfl 27 (.tmp 5) rfl w4.heap.size 0 rfl [.int .i64 x0, .int .i64 x1, .int .i64 x2, .int .i64 x3, .int .i64 x4, .slice ea1 n ec1] _ I14.r5 Tryd.underlying27 rfl infoRcv ?_)
      | (go_at_call 12; refine (heldRecovery_own x0 x1 x2 x3 x4 ea1 n ec1 _ hm14 hn).mono ?_; rintro e w15 ⟨rfl, hb15⟩; have I15 := I14.below hb15))
    all_goals go_ret
    all_goals exact ⟨rfl, I15.bel⟩
  · have hl' : (1048576 : Int) < l.length := by omega
    go_enter Tryd.func3, Tryd.ntmps3
    go_wp2
    go_ret
    exact ⟨rfl, Below.refl _ _⟩
end Go.Proofs.YtlfnlhbkagjheaaDoor
