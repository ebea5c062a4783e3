/-
  spec.l2drawRecords.
-/
import Derived.Test.YtjoflnnomebkpaaDoorDrRsP
import Derived.Test.YtjoflnnomebkpaaDoorPlanSpec
namespace Go.Proofs.YtjoflnnomebkpaaDoor
open Go.RowKit
set_option linter.unusedVariables false
set_option linter.unusedSimpArgs false

/-- the loop's state -/
def RsAt (w : World) (g : Nat) (v : Value) (l : List Int) (wr : World) (rv : Value) (s : RsS) : Prop :=
  ∃ la lc, OwnR wr w.heap.size rv s.rs ∧ Dr w wr g v l s.k [(w.heap.size + 1, #[.int .i64 s.t, .int .i64 s.vo, .slice la s.L.length lc], 39)] ∧ OwnE wr w.heap.size (.slice la s.L.length lc) s.L
theorem ownE_blk {w w' : World} {B b : Nat} {v : Value} {l : List Ent} {C : Array Value} {t : TypeId} (h : OwnE w B v l) (hb : Blk w b C t) (hne : 92 ≠ t) (hk : ∀ q, q ≠ b → w'.heap[q]? = w.heap[q]?) : OwnE w' B v l :=
  h.block fun q hq => hk q (fun e => ownsRow.neBlk h.2 hb hne (by rw [hq, e]))
theorem ownR_blk {w w' : World} {B b : Nat} {v : Value} {l : List Rec} {C : Array Value} {t : TypeId} (h : OwnR w B v l) (hb : Blk w b C t) (hne : 94 ≠ t) (hk : ∀ q, q ≠ b → w'.heap[q]? = w.heap[q]?) : OwnR w' B v l :=
  h.keep fun q hq => hk q (fun e => ownsRow.neBlk h hb hne (by rw [hq, e]))
theorem OwnR.grown {w w' : World} {B b : Nat} {v : Value} {l : List Rec} (h : OwnR w B v l) (hg : w.grownBy w' (some b)) (hb : b < B) : OwnR w' B v l :=
  h.keep fun k hk => hg.block k (h.lt k hk).2 (by intro e; injection e with e; have := (h.lt k hk).1; omega)

set_option maxHeartbeats 16000000 in
set_option maxRecDepth 100000 in
theorem l2drawRecords_loop (g : Nat) (w : World) (v : Value) (l : List Int) (k size : Nat) (hL : l.length ≤ 1048576) (hk : k ≤ 400000000) (hs : size ≤ 400) (h : Src w g v l k) :
    Calls Tryd.prog 43 #[.pointer (some ⟨g, 0, none⟩), .int .i64 size] w fun r w' => ∃ rv, r = .returned rv ∧ OwnR w' w.heap.size rv (recsD l k size).1 ∧ Src w' g v l (recsD l k size).2 ∧ w.grownBy w' (some g) := by
  have hg0 : g < w.heap.size := h.lt
  have HD0 : Hid (Dr w ((w.alloc (.cells #[] 94)).alloc (.cells #[.int .i64 0, .int .i64 0, .slice none 0 0] 39)) g v l k [(w.heap.size + 1, #[.int .i64 0, .int .i64 0, .slice none 0 0], 39)]) := by
    have hX := ((Dr.start h).other (.cells #[] 94)).new #[.int .i64 0, .int .i64 0, .slice none 0 0] 39 (noU8_of rfl)
    have hY : Dr w ((w.alloc (.cells #[] 94)).alloc (.cells #[.int .i64 0, .int .i64 0, .slice none 0 0] 39)) g v l k [(w.heap.size + 1, #[.int .i64 0, .int .i64 0, .slice none 0 0], 39)] := by simpa using hX
    exact hY
  clear h
  have hp := pickV_lt l k (2 + size / 40) (by omega)
  obtain ⟨p, hpp⟩ : ∃ p, p = pickV l k (2 + size / 40) := ⟨_, rfl⟩
  have HPK : Hid (Calls Tryd.prog 44 #[.pointer (some ⟨g, 0, none⟩), .int .i64 (2 + (size : Int) / 40)] ((w.alloc (.cells #[] 94)).alloc (.cells #[.int .i64 0, .int .i64 0, .slice none 0 0] 39)) fun e w' => e = .returned (.int .i64 (p : Nat)) ∧ Dr w w' g v l (k + 1) [(w.heap.size + 1, #[.int .i64 0, .int .i64 0, .slice none 0 0], 39)] ∧ World.grownBy ((w.alloc (.cells #[] 94)).alloc (.cells #[.int .i64 0, .int .i64 0, .slice none 0 0] 39)) w' (some g)) := by
    rw [hpp, show (2 + (size : Int) / 40) = ((2 + size / 40 : Nat) : Int) by omega]
    exact HD0.out.pickG (2 + size / 40) hL (by omega) (by omega) (by omega)
  unfold recsD
  rw [← hpp] at hp ⊢
  clear hpp
  obtain ⟨n, hn⟩ : ∃ n, n = 1 + p := ⟨_, rfl⟩
  have hn' : 1 + (p : Int) = (n : Int) := by omega
  rw [← hn]
  obtain ⟨k0, hk0⟩ : ∃ k0, k0 = k + 1 := ⟨_, rfl⟩
  rw [← hk0]
  rw [← hk0] at HPK
  have hok := fun i (hi : i ≤ n) => rsRun_ok l k0 i (by omega)
  have HOK : Hid (∀ i, i ≤ n → RsOk k0 i (rsRun l k0 i)) := hok
  clear hok
  have hnb : n ≤ 12 := by omega
  clear hn
  go_enter Tryd.func43, Tryd.ntmps43
  go_wp2_with (go_at_call 44; refine HPK.out.mono ?_; rintro e w1 ⟨rfl, hd1, hg1⟩; have HD1 : Hid (Dr w w1 g v l k0 [(w.heap.size + 1, #[.int .i64 0, .int .i64 0, .slice none 0 0], 39)]) := hd1; have HR1 : Hid (OwnR w1 w.heap.size (.slice (some ⟨w.heap.size, 0, none⟩) 0 0) []) := ((OwnR.made w w.heap.size (Nat.le_refl _)).below ((Below.refl _ _).alloc (Nat.le_refl _) _)).grown hg1 hg0; clear hd1 hg1)
  go_loopw [5, 8] (fun rv iv wr => ∃ i : Nat, i ≤ n ∧ iv = .int .i64 i ∧ RsAt w g v l wr rv (rsRun l k0 i)) (fun _ i _ => n - (intOf i).toNat)
  case atStart => exact ⟨0, Nat.zero_le _, rfl, none, 0, HR1.out, HD1.out, OwnE.nil _ _⟩
  case round =>
    obtain ⟨i, hi, rfl, la, lc, hr, hd, hl⟩ := hrel
    have hok := HOK.out i hi
    clear HD1 HR1 HPK HD0
    by_cases hlt : i < n
    · have hnx : rsRun l k0 (i + 1) = rsStep l (rsRun l k0 i) := rfl
      have HNX : Hid (rsRun l k0 (i + 1) = rsStep l (rsRun l k0 i)) := hnx
      clear hnx
      generalize rsRun l k0 i = s at *
      have hlen := hok.len
      have hrl := hok.rlen
      have hsk := hok.k
      have HOKs : Hid (RsOk k0 i s) := hok
      have HR : Hid (OwnR wr w.heap.size u5 s.rs) := hr
      have HD : Hid (Dr w wr g v l s.k [(w.heap.size + 1, #[.int .i64 s.t, .int .i64 s.vo, .slice la s.L.length lc], 39)]) := hd
      have HE : Hid (OwnE wr w.heap.size (.slice la s.L.length lc) s.L) := hl
      have hnxo := nx_ok l s.k s.t s.vo s.L 4 hok.t0 hok.t1 hok.ents
      have hN1 := hnxo.2.2.1
      have ce := (hd.blk 0 rfl).cell
      have fe := (hd.blk 0 rfl).free
      have hb0 := hd.lt 0 rfl
      clear hok hr hd hl hnxo
      have HNxt : Hid (Calls Tryd.prog 54 #[.pointer (some ⟨g, 0, none⟩), .agg #[.int .i64 s.t, .int .i64 s.vo, .slice la s.L.length lc], .int .i64 4] wr fun r w' => ∃ ea ec, r = .returned (.agg #[.int .i64 (nxT l s.k s.t s.vo s.L 4), .int .i64 (nxV l s.k s.t s.vo s.L 4), .slice ea (nxL l s.k s.t s.vo s.L 4).length ec]) ∧ OwnE w' wr.heap.size (.slice ea (nxL l s.k s.t s.vo s.L 4).length ec) (nxL l s.k s.t s.vo s.L 4) ∧ Src w' g v l (nxK l s.k s.t s.vo s.L 4) ∧ wr.grownBy w' (some g)) := l2drawNext_any g wr v l s.k s.t s.vo la lc s.L 4 w.heap.size hL (by omega) (by omega) ⟨HOKs.out.t0, HOKs.out.t1⟩ (by omega) (fun e he => ⟨(HOKs.out.ents e he).1, (HOKs.out.ents e he).2.1⟩) HE.out hg0 HD.out.src
      have HPl : Hid (∀ (ea : Option Addr) (ec : Nat) (u : World), Es u (.slice la s.L.length lc) s.L → Es u (.slice ea (nxL l s.k s.t s.vo s.L 4).length ec) (nxL l s.k s.t s.vo s.L 4) → Calls Tryd.prog 17 #[.agg #[.int .i64 s.t, .int .i64 s.vo, .slice la s.L.length lc], .agg #[.int .i64 (nxT l s.k s.t s.vo s.L 4), .int .i64 (nxV l s.k s.t s.vo s.L 4), .slice ea (nxL l s.k s.t s.vo s.L 4).length ec]] u fun x w' => PlanAt u w' x (planC s.t s.vo s.L (nxT l s.k s.t s.vo s.L 4) (nxV l s.k s.t s.vo s.L 4) (nxL l s.k s.t s.vo s.L 4)) (planL s.t s.vo s.L (nxT l s.k s.t s.vo s.L 4) (nxV l s.k s.t s.vo s.L 4) (nxL l s.k s.t s.vo s.L 4))) := fun ea ec u h1 h2 => sPlanRecords_any s.t s.vo la lc s.L (nxT l s.k s.t s.vo s.L 4) (nxV l s.k s.t s.vo s.L 4) ea ec (nxL l s.k s.t s.vo s.L 4) u h1 h2 (by omega) (by omega)
      have hPl := planL_len2 s.t s.vo s.L (nxT l s.k s.t s.vo s.L 4) (nxV l s.k s.t s.vo s.L 4) (nxL l s.k s.t s.vo s.L 4)
      have HST : Hid (rsStep l s = ⟨s.rs ++ planL s.t s.vo s.L (nxT l s.k s.t s.vo s.L 4) (nxV l s.k s.t s.vo s.L 4) (nxL l s.k s.t s.vo s.L 4), (nxT l s.k s.t s.vo s.L 4), (nxV l s.k s.t s.vo s.L 4), (nxL l s.k s.t s.vo s.L 4), (nxK l s.k s.t s.vo s.L 4)⟩) := (rfl : rsStep l s = _)

      generalize nxT l s.k s.t s.vo s.L 4 = NT at *
      generalize nxV l s.k s.t s.vo s.L 4 = NV at *
      generalize nxL l s.k s.t s.vo s.L 4 = NL at *
      generalize nxK l s.k s.t s.vo s.L 4 = NK at *
      generalize planL s.t s.vo s.L NT NV NL = PL at *
      generalize planC s.t s.vo s.L NT NV NL = PC at *
      go_upto_region 8 with (first
        | (go_at_call 54; refine HNxt.out.mono ?_; rintro e w2 ⟨ea, ec, rfl, ho2, hs2, hg2⟩; have HD2 : Hid (Dr w (w2.alloc (.cells #[.int .i64 NT, .int .i64 NV, .slice ea NL.length ec] 39)) g v l NK [(w.heap.size + 1, #[.int .i64 s.t, .int .i64 s.vo, .slice la s.L.length lc], 39), (w2.heap.size, #[.int .i64 NT, .int .i64 NV, .slice ea NL.length ec], 39)]) := (HD.out.call hs2 hg2).new #[.int .i64 NT, .int .i64 NV, .slice ea NL.length ec] 39 (noU8_of rfl); have HE2 : Hid (OwnE (w2.alloc (.cells #[.int .i64 NT, .int .i64 NV, .slice ea NL.length ec] 39)) w.heap.size (.slice la s.L.length lc) s.L) := (HE.out.grown hg2 hg0).below ((Below.refl _ _).alloc (Nat.le_refl _) _); have HN2 : Hid (OwnE (w2.alloc (.cells #[.int .i64 NT, .int .i64 NV, .slice ea NL.length ec] 39)) w.heap.size (.slice ea NL.length ec) NL) := (ho2.below ((Below.refl _ _).alloc (Nat.le_refl _) _)).le (by have := HD.out.size; omega); have HR2 : Hid (OwnR (w2.alloc (.cells #[.int .i64 NT, .int .i64 NV, .slice ea NL.length ec] 39)) w.heap.size u5 s.rs) := (HR.out.grown hg2 hg0).below ((Below.refl _ _).alloc (Nat.le_refl _) _); have ce2 := (HD2.out.blk 0 rfl).cell; have hz2 := hg2.size; have hz2b : w.heap.size + 1 < w2.heap.size := (by omega); have cc20 := (ce2 0); have cc21 := (ce2 1); have cc22 := (ce2 2); clear ho2 hs2 hg2 ce2))
      obtain ⟨W3, hW3⟩ : ∃ W3, W3 = w2.alloc (.cells #[.int .i64 NT, .int .i64 NV, .slice ea NL.length ec] 39) := ⟨_, rfl⟩
      rw [← hW3] at HD2 HE2 HN2 HR2 ⊢
      clear hW3 cc20 cc21 cc22
      have ce3 := (HD2.out.blk 0 rfl).cell
      have cb3 := (HD2.out.blk 1 rfl).cell
      have HEs := HE2.out.es (by unfold maxLen; omega)
      have HNs := HN2.out.es (by unfold maxLen; omega)
      have hz3 := HD2.out.lt 1 rfl
      have hz3' := HD2.out.lt 0 rfl
      clear ce fe
      go_upto_region 9 with (first
        | (go_at_call 17; refine (HPl.out ea ec W3 HEs HNs).mono ?_; rintro x w4 ⟨pa, pc, rfl, ho4, hb4⟩; have HD4 : Hid (Dr w (w4.alloc (.cells #[.int .i64 PC, .slice pa PL.length pc] 43)) g v l NK [(w.heap.size + 1, #[.int .i64 s.t, .int .i64 s.vo, .slice la s.L.length lc], 39), (w2.heap.size, #[.int .i64 NT, .int .i64 NV, .slice ea NL.length ec], 39), (w4.heap.size, #[.int .i64 PC, .slice pa PL.length pc], 43)]) := (HD2.out.below hb4).new #[.int .i64 PC, .slice pa PL.length pc] 43 (noU8_of rfl); have HN4 : Hid (OwnE (w4.alloc (.cells #[.int .i64 PC, .slice pa PL.length pc] 43)) w.heap.size (.slice ea NL.length ec) NL) := (HN2.out.below hb4).below ((Below.refl _ _).alloc (Nat.le_refl _) _); have HR4 : Hid (OwnR (w4.alloc (.cells #[.int .i64 PC, .slice pa PL.length pc] 43)) w.heap.size u5 s.rs) := (HR2.out.below hb4).below ((Below.refl _ _).alloc (Nat.le_refl _) _); have HP4 : Hid (OwnR (w4.alloc (.cells #[.int .i64 PC, .slice pa PL.length pc] 43)) W3.heap.size (.slice pa PL.length pc) PL) := ho4.below ((Below.refl _ _).alloc (Nat.le_refl _) _); have HF4 : Hid (∀ q, u5.ownBlock = some q → q < W3.heap.size) := (fun q hq => (HR2.out.lt q hq).2); clear ho4 hb4))
      clear HEs HNs
      obtain ⟨W5, hW5⟩ : ∃ W5, W5 = w4.alloc (.cells #[.int .i64 PC, .slice pa PL.length pc] 43) := ⟨_, rfl⟩
      rw [← hW5] at HD4 HN4 HR4 HP4 ⊢
      clear hW5
      have ce5 := (HD4.out.blk 0 rfl).cell
      have cb5 := (HD4.out.blk 1 rfl).cell
      have cp5 := (HD4.out.blk 2 rfl).cell
      have hz5 := HD4.out.size
      obtain ⟨ra, rc, hrv⟩ := HR4.out.shape
      have hrc : s.rs.length ≤ rc := by
        rcases HR4.out.2 with ⟨e1, e2⟩ | ⟨q, cap, cur, e1, _, _, e2, _⟩
        · rw [hrv] at e1; injection e1 with _ e3 e4; omega
        · rw [hrv] at e1; injection e1 with _ e3 e4; omega
      subst hrv
      go_cut [5] (fun s5 wx => OwnR wx w.heap.size s5 (s.rs ++ PL) ∧ OwnE wx w.heap.size (.slice ea NL.length ec) NL ∧ Dr w wx g v l NK [(w.heap.size + 1, #[.int .i64 s.t, .int .i64 s.vo, .slice la s.L.length lc], 39), (w2.heap.size, #[.int .i64 NT, .int .i64 NV, .slice ea NL.length ec], 39), (w4.heap.size, #[.int .i64 PC, .slice pa PL.length pc], 43)])
      case first =>
        cases pa with
        | none =>
          have hPL : PL = [] := by
            rcases HP4.out.2 with ⟨e1, e2⟩ | ⟨q, cap, cur, e1, _⟩
            · exact List.eq_nil_of_length_eq_zero e2
            · injection e1 with e1; cases e1
          subst hPL
          cases ra with
          | none =>
            go_wp2_with fail
            go_meet
            exact ⟨by rw [List.append_nil]; exact HR4.out, HN4.out, HD4.out⟩
          | some rad =>
            go_wp2_with fail
            go_meet
            exact ⟨by rw [List.append_nil]; exact HR4.out, HN4.out, HD4.out⟩
        | some pad =>
          obtain ⟨q, hq, hrg⟩ : ∃ q, pad = ⟨q, 0, none⟩ ∧ W5.rangeAt q 0 (recCells PL) := by
            rcases HP4.out.2 with ⟨e1, e2⟩ | ⟨q, cap, cur, e1, _⟩
            · injection e1 with e1; cases e1
            · injection e1 with e1 _ e3
              injection e1 with e1
              subst e1
              exact ⟨q, rfl, HP4.out.range rfl⟩
          subst hq
          go_wp2_with (at_builtin; refine wpl_appendRs rfl (.tmp 35) (.tmp 37) rfl HR4.out rfl hrg rfl (by omega) (by omega) ?_; intro v6 w6 ho6 hg6; have HR6 : Hid (OwnR w6 w.heap.size v6 (s.rs ++ PL)) := ho6; have HG6 : Hid (Grew W5 (.slice ra s.rs.length rc) w6 v6) := hg6; clear ho6 hg6)
          go_meet
          refine ⟨HR6.out, HN4.out.block fun q' hq' => HG6.out.block (HN4.out.2.lt q' hq').2 (fun e => ownsRow.neRow HR4.out HN4.out.2 (by decide) q' e hq'), HD4.out.grew HG6.out (fun q' hq' => (HR4.out.lt q' hq').1) ?_⟩
          intro x hx
          simp only [List.mem_cons, List.not_mem_nil, or_false] at hx
          rcases hx with rfl | rfl | rfl
          · exact ownsRow.neBlk HR4.out (HD4.out.blk 0 rfl) (by decide)
          · exact ownsRow.neBlk HR4.out (HD4.out.blk 1 rfl) (by decide)
          · exact ownsRow.neBlk HR4.out (HD4.out.blk 2 rfl) (by decide)
      case rest =>
        obtain ⟨hr6, hn6, hd6⟩ := hcut
        have h1 := hd6.set 0 rfl 0 (by simp) (.int .i64 NT) rfl
        have h2 := h1.set 0 rfl 1 (by simp) (.int .i64 NV) rfl
        have h3 := h2.set 0 rfl 2 (by simp) (.slice ea NL.length ec) rfl
        have HD6 : Hid (Dr w (((wc.setCell ⟨w.heap.size + 1, 0, none⟩ (.int .i64 NT)).setCell ⟨w.heap.size + 1, 1, none⟩ (.int .i64 NV)).setCell ⟨w.heap.size + 1, 2, none⟩ (.slice ea NL.length ec)) g v l NK [(w.heap.size + 1, #[.int .i64 NT, .int .i64 NV, .slice ea NL.length ec], 39), (w2.heap.size, #[.int .i64 NT, .int .i64 NV, .slice ea NL.length ec], 39), (w4.heap.size, #[.int .i64 PC, .slice pa PL.length pc], 43)]) := h3
        have HR6 : Hid (OwnR (((wc.setCell ⟨w.heap.size + 1, 0, none⟩ (.int .i64 NT)).setCell ⟨w.heap.size + 1, 1, none⟩ (.int .i64 NV)).setCell ⟨w.heap.size + 1, 2, none⟩ (.slice ea NL.length ec)) w.heap.size u5 (s.rs ++ PL)) := ownR_blk hr6 (hd6.blk 0 rfl) (by decide) (fun q hq => by rw [Below.heap_setCell _ _ _ _ (by simpa using hq), Below.heap_setCell _ _ _ _ (by simpa using hq), Below.heap_setCell _ _ _ _ (by simpa using hq)])
        have HN6 : Hid (OwnE (((wc.setCell ⟨w.heap.size + 1, 0, none⟩ (.int .i64 NT)).setCell ⟨w.heap.size + 1, 1, none⟩ (.int .i64 NV)).setCell ⟨w.heap.size + 1, 2, none⟩ (.slice ea NL.length ec)) w.heap.size (.slice ea NL.length ec) NL) := ownE_blk hn6 (hd6.blk 0 rfl) (by decide) (fun q hq => by rw [Below.heap_setCell _ _ _ _ (by simpa using hq), Below.heap_setCell _ _ _ _ (by simpa using hq), Below.heap_setCell _ _ _ _ (by simpa using hq)])
        have cs := (hd6.blk 0 rfl).cell
        have fs := (hd6.blk 0 rfl).free
        have cb := (hd6.blk 1 rfl).cell
        clear h1 h2 h3 hr6 hn6 hd6 ce5 cb5 cp5
        go_wp2_with fail
        go_roundw
        case rel => exact ⟨i + 1, by omega, by go_num, by rw [HNX.out, HST.out]; exact ⟨ea, ec, HR6.out, HD6.out.one, HN6.out⟩⟩
        case measure => simp [intOf]; omega
    · obtain rfl : i = n := by omega
      have hrl := hok.rlen
      have hsk := hok.k
      have hfit := hok.rfits
      generalize hS : rsRun l k0 i = s at *
      have HR : Hid (OwnR wr w.heap.size u5 s.rs) := hr
      have HD : Hid (Dr w wr g v l s.k []) := hd.nilF
      obtain ⟨ra, rc, hrv⟩ := hr.shape
      subst hrv
      have HTL : Hid (rsTail l (rsRun l k0 i).rs (rsRun l k0 i).k = rsTail l s.rs s.k) := (by rw [hS] : rsTail l (rsRun l k0 i).rs (rsRun l k0 i).k = rsTail l s.rs s.k)
      clear hr hd hl hok hS hfit HOK
      have b6 := pickV_lt l s.k 6 (by decide)
      obtain ⟨p6, hp6⟩ : ∃ p6, p6 = pickV l s.k 6 := ⟨_, rfl⟩
      have HP6 : Hid (Calls Tryd.prog 44 #[.pointer (some ⟨g, 0, none⟩), .int .i64 6] wr fun e w' => e = .returned (.int .i64 (p6 : Nat)) ∧ Dr w w' g v l (s.k + 1) [] ∧ wr.grownBy w' (some g)) := by rw [hp6]; exact HD.out.pickG 6 hL (by omega) (by decide) (by decide)
      rw [← hp6] at b6
      have HPE : Hid (p6 = pickV l s.k 6) := hp6
      clear hp6
      obtain ⟨rn, hrn⟩ : ∃ rn, rn = s.rs.length := ⟨_, rfl⟩
      rw [← hrn] at HR hrl
      rw [← hrn]
      have HRN : Hid (rn = s.rs.length) := hrn
      clear hrn
      have A6 : True := trivial
      rcases (show (p6 = 0 ∧ 0 < rn) ∨ (p6 = 1 ∧ 1 < rn) ∨ (p6 = 0 ∧ rn = 0) ∨ (p6 = 1 ∧ rn ≤ 1) ∨ (1 < p6) by omega) with ⟨c0, c1⟩ | ⟨c0, c1⟩ | ⟨c0, c1⟩ | ⟨c0, c1⟩ | c0
      · subst c0
        have hi1 := pickV_lt l (s.k + 1) rn c1
        have c2 : decide ((0 : Int) < (rn : Int)) = true := by simp; omega
        obtain ⟨ix, hix⟩ : ∃ ix, ix = pickV l (s.k + 1) rn := ⟨_, rfl⟩
        have HIX : Hid (ix = pickV l (s.k + 1) rn) := hix
        rw [← hix] at hi1
        clear hix
        have hpk := pickK_le rn
        obtain ⟨K3, hK3⟩ : ∃ K3, K3 = s.k + 1 + pickK rn := ⟨_, rfl⟩
        have HPL : Hid (∀ u : World, Dr w u g v l (s.k + 1) [] → Calls Tryd.prog 44 #[.pointer (some ⟨g, 0, none⟩), .int .i64 (rn : Int)] u fun e w' => e = .returned (.int .i64 (ix : Nat)) ∧ Dr w w' g v l K3 [] ∧ u.grownBy w' (some g)) := fun u hu => by
          rw [HIX.out, hK3]
          exact (l1pick_any g u v l (s.k + 1) rn hL (by omega) (by omega) (by omega) hu.src).mono fun e w' ⟨h1, h2, h3⟩ => ⟨h1, hu.call h2 h3, h3⟩
        have hix2 : ix < s.rs.length := by rw [← HRN.out]; exact hi1
        have HT : Hid (rsTail l s.rs s.k = (s.rs.set ix (badR l K3 s.rs[ix]), badRK l K3)) := (by unfold rsTail; rw [if_pos ⟨HPE.out.symm, by rw [← HRN.out]; exact c1⟩, ← HRN.out, ← HIX.out, ← hK3, getR_eq hix2] : rsTail l s.rs s.k = (s.rs.set ix (badR l K3 s.rs[ix]), badRK l K3))
        obtain ⟨q, hq, _⟩ := HR.out.at11 HRN.out ix hix2
        subst hq
        have hix' : (ix : Int) < (rn : Int) := by omega
        have hq9 : w.heap.size ≤ q := (HR.out.lt q rfl).1
        have HAT : Hid (∀ u : World, OwnR u w.heap.size (.slice (some ⟨q, 0, none⟩) rn rc) s.rs → u.rangeAt q (ix * 11) s.rs[ix].cells ∧ u.there q (ix * 11) 11) := fun u hu => by
          obtain ⟨q', e, h1, h2⟩ := hu.at11 HRN.out ix hix2
          injection e with e
          injection e with e _
          subst e
          exact ⟨h1, h2⟩
        have HBD : Hid (∀ u : World, Dr w u g v l K3 [] → Calls Tryd.prog 78 #[.pointer (some ⟨g, 0, none⟩), .agg s.rs[ix].cells.toArray] u fun x w' => x = .returned (.agg (badR l K3 s.rs[ix]).cells.toArray) ∧ Dr w w' g v l (badRK l K3) [] ∧ u.grownBy w' (some g)) := fun u hu => (l2badRecord_any g u v l K3 s.rs[ix] hL (by omega) hu.src).mono fun e w' ⟨h1, h2, h3⟩ => ⟨h1, hu.call h2 h3, h3⟩
        generalize s.rs[ix] = r at *
        generalize badR l K3 r = r2 at *
        generalize badRK l K3 = K4 at *
        have A7 : True := trivial
        go_wp2_with (first
          | (go_at_call 44; clear A6; refine HP6.out.mono ?_; rintro e w2 ⟨rfl, hd2, hg2⟩; have HD2 : Hid (Dr w w2 g v l (s.k + 1) []) := hd2; have HR2 : Hid (OwnR w2 w.heap.size (.slice (some ⟨q, 0, none⟩) rn rc) s.rs) := HR.out.grown hg2 hg0; clear hd2 hg2)
          | (go_at_call 44; clear A7; refine (HPL.out _ HD2.out).mono ?_; rintro e w3 ⟨rfl, hd3, hg3⟩; have HD3 : Hid (Dr w w3 g v l K3 []) := hd3; have HR3 : Hid (OwnR w3 w.heap.size (.slice (some ⟨q, 0, none⟩) rn rc) s.rs) := HR2.out.grown hg3 hg0; have hra := (HAT.out w3 HR3.out).1; clear hd3 hg3)
          | (have hBA := HD3; refine gate_load' 94 (.tmp 58) rfl ?_; clear hBA; refine wpList_load_mid rfl 94 (.tmp 58) rfl q (ix * 11) rfl r.cells _ hra Tryd.underlying94 rfl sizeRec ?_)
          | (go_at_call 78; refine (HBD.out _ HD3.out).mono ?_; rintro e w4 ⟨rfl, hd4, hg4⟩; have HD4 : Hid (Dr w w4 g v l K4 []) := hd4; have HR4 : Hid (OwnR w4 w.heap.size (.slice (some ⟨q, 0, none⟩) rn rc) s.rs) := HR3.out.grown hg4 hg0; have hth := (HAT.out w4 HR4.out).2; clear hd4 hg4)
          | (have hBA := HD4; refine gate_st 94 (.tmp 61) (.tmp 60) rfl ?_; clear hBA; refine wpList_store_mid rfl 94 (.tmp 61) (.tmp 60) rfl q (ix * 11) r2.cells.toArray rfl rfl hth sizeRec (by simp [Rec.cells, Value.oneCell']) ?_; obtain ⟨U, hU⟩ : ∃ U, U = w4.setCells q (ix * 11) r2.cells := ⟨_, rfl⟩; rw [show w4.setCells q (ix * 11) r2.cells.toArray.toList = U from hU.symm]; have HRU : Hid (OwnR U w.heap.size (.slice (some ⟨q, 0, none⟩) rn rc) (s.rs.set ix r2)) := (by rw [hU]; exact HR4.out.setR HRN.out ix hix2 r2); have HDU : Hid (Dr w U g v l K4 []) := (by rw [hU]; exact HD4.out.belowB (below_cells hq9 _ _ _) (Nat.le_refl _) (by simp)); clear hU))
        go_ret
        rw [HTL.out, HT.out]
        exact ⟨_, rfl, HRU.out, HDU.out.src, HDU.out.grown⟩
      · subst c0
        have hi1 := pickV_lt l (s.k + 1) rn (by omega)
        have c2 : decide ((1 : Int) < (rn : Int)) = true := by simp; omega
        obtain ⟨ix, hix⟩ : ∃ ix, ix = pickV l (s.k + 1) rn := ⟨_, rfl⟩
        have HIX : Hid (ix = pickV l (s.k + 1) rn) := hix
        rw [← hix] at hi1
        clear hix
        have hpk := pickK_le rn
        obtain ⟨K3, hK3⟩ : ∃ K3, K3 = s.k + 1 + pickK rn := ⟨_, rfl⟩
        have hj1 := pickV_lt l K3 rn (by omega)
        obtain ⟨jx, hjx⟩ : ∃ jx, jx = pickV l K3 rn := ⟨_, rfl⟩
        have HJX : Hid (jx = pickV l K3 rn) := hjx
        rw [← hjx] at hj1
        clear hjx
        obtain ⟨K4, hK4⟩ : ∃ K4, K4 = K3 + pickK rn := ⟨_, rfl⟩
        have HPL : Hid (∀ u : World, Dr w u g v l (s.k + 1) [] → Calls Tryd.prog 44 #[.pointer (some ⟨g, 0, none⟩), .int .i64 (rn : Int)] u fun e w' => e = .returned (.int .i64 (ix : Nat)) ∧ Dr w w' g v l K3 [] ∧ u.grownBy w' (some g)) := fun u hu => by
          rw [HIX.out, hK3]
          exact (l1pick_any g u v l (s.k + 1) rn hL (by omega) (by omega) (by omega) hu.src).mono fun e w' ⟨h1, h2, h3⟩ => ⟨h1, hu.call h2 h3, h3⟩
        have HPJ : Hid (∀ u : World, Dr w u g v l K3 [] → Calls Tryd.prog 44 #[.pointer (some ⟨g, 0, none⟩), .int .i64 (rn : Int)] u fun e w' => e = .returned (.int .i64 (jx : Nat)) ∧ Dr w w' g v l K4 [] ∧ u.grownBy w' (some g)) := fun u hu => by
          rw [HJX.out, hK4]
          exact (l1pick_any g u v l K3 rn hL (by omega) (by omega) (by omega) hu.src).mono fun e w' ⟨h1, h2, h3⟩ => ⟨h1, hu.call h2 h3, h3⟩
        have hix2 : ix < s.rs.length := by rw [← HRN.out]; exact hi1
        have hjx2 : jx < s.rs.length := by rw [← HRN.out]; exact hj1
        have HT : Hid (rsTail l s.rs s.k = ((s.rs.set ix s.rs[jx]).set jx s.rs[ix], K4)) := (by unfold rsTail; rw [if_neg (by rw [← HPE.out]; omega), if_pos ⟨HPE.out.symm, by rw [← HRN.out]; exact c1⟩, ← HRN.out, ← HIX.out, ← hK3, ← hK4, ← HJX.out, getR_eq hix2, getR_eq hjx2] : rsTail l s.rs s.k = ((s.rs.set ix s.rs[jx]).set jx s.rs[ix], K4))
        obtain ⟨q, hq, _⟩ := HR.out.at11 HRN.out ix hix2
        subst hq
        have hix' : (ix : Int) < (rn : Int) := by omega
        have hjx' : (jx : Int) < (rn : Int) := by omega
        have hq9 : w.heap.size ≤ q := (HR.out.lt q rfl).1
        have hqne : ∀ u : World, OwnR u w.heap.size (.slice (some ⟨q, 0, none⟩) rn rc) s.rs → q < u.heap.size := fun u hu => (hu.lt q rfl).2
        have HQN : Hid (∀ u : World, OwnR u w.heap.size (.slice (some ⟨q, 0, none⟩) rn rc) s.rs → q < u.heap.size) := hqne
        clear hqne
        have HAT : Hid (∀ (u : World) (L : List Rec) (m : Nat) (hm : m < L.length), rn = L.length → OwnR u w.heap.size (.slice (some ⟨q, 0, none⟩) rn rc) L → u.rangeAt q (m * 11) L[m].cells ∧ u.there q (m * 11) 11) := fun u L m hm hn hu => by
          obtain ⟨q', e, h1, h2⟩ := hu.at11 hn m hm
          injection e with e
          injection e with e _
          subst e
          exact ⟨h1, h2⟩
        have HRJ : Hid (∀ u : World, OwnR u w.heap.size (.slice (some ⟨q, 0, none⟩) rn rc) s.rs → u.rangeAt q (jx * 11) s.rs[jx].cells ∧ u.there q (ix * 11) 11) := fun u hu => ⟨(HAT.out u s.rs jx hjx2 HRN.out hu).1, (HAT.out u s.rs ix hix2 HRN.out hu).2⟩
        have HRI : Hid (∀ u : World, OwnR u w.heap.size (.slice (some ⟨q, 0, none⟩) rn rc) s.rs → u.rangeAt q (ix * 11) s.rs[ix].cells) := fun u hu => (HAT.out u s.rs ix hix2 HRN.out hu).1
        have HSI : Hid (∀ (u : World) (r : Rec), OwnR u w.heap.size (.slice (some ⟨q, 0, none⟩) rn rc) s.rs → OwnR (u.setCells q (ix * 11) r.cells) w.heap.size (.slice (some ⟨q, 0, none⟩) rn rc) (s.rs.set ix r)) := fun u r hu => hu.setR HRN.out ix hix2 r
        have HSJ : Hid (∀ (u : World) (r r' : Rec), OwnR u w.heap.size (.slice (some ⟨q, 0, none⟩) rn rc) (s.rs.set ix r) → OwnR (u.setCells q (jx * 11) r'.cells) w.heap.size (.slice (some ⟨q, 0, none⟩) rn rc) ((s.rs.set ix r).set jx r') ∧ u.there q (jx * 11) 11) := fun u r r' hu => ⟨hu.setR (by rw [List.length_set]; exact HRN.out) jx (by rw [List.length_set]; exact hjx2) r', (HAT.out u (s.rs.set ix r) jx (by rw [List.length_set]; exact hjx2) (by rw [List.length_set]; exact HRN.out) hu).2⟩
        generalize s.rs[ix] = ri at *
        generalize s.rs[jx] = rj at *
        clear HAT
        have A7 : True := trivial
        have A8 : True := trivial
        have A9 : True := trivial
        have A10 : True := trivial
        go_wp2_with (first
          | (go_at_call 44; clear A6; refine HP6.out.mono ?_; rintro e w2 ⟨rfl, hd2, hg2⟩; have HD2 : Hid (Dr w w2 g v l (s.k + 1) []) := hd2; have HR2 : Hid (OwnR w2 w.heap.size (.slice (some ⟨q, 0, none⟩) rn rc) s.rs) := HR.out.grown hg2 hg0; clear hd2 hg2)
          | (go_at_call 44; clear A7; refine (HPL.out _ HD2.out).mono ?_; rintro e w3 ⟨rfl, hd3, hg3⟩; have HD3 : Hid (Dr w w3 g v l K3 []) := hd3; have HR3 : Hid (OwnR w3 w.heap.size (.slice (some ⟨q, 0, none⟩) rn rc) s.rs) := HR2.out.grown hg3 hg0; clear hd3 hg3)
          | (go_at_call 44; clear A8; refine (HPJ.out _ HD3.out).mono ?_; rintro e w4 ⟨rfl, hd4, hg4⟩; have HD4 : Hid (Dr w w4 g v l K4 []) := hd4; have HR4 : Hid (OwnR w4 w.heap.size (.slice (some ⟨q, 0, none⟩) rn rc) s.rs) := HR3.out.grown hg4 hg0; have hri := HRI.out w4 HR4.out; have hq4 := HQN.out w4 HR4.out; clear hd4 hg4)
          | (have hBA := HD4; refine gate_load' 94 (.tmp 79) rfl ?_; clear hBA; refine wpList_load_mid rfl 94 (.tmp 79) rfl q (ix * 11) rfl ri.cells _ hri Tryd.underlying94 rfl sizeRec ?_)
          | (have hBA := A9; refine gate_st 94 (.tmp 15) _ rfl ?_; clear hBA A9; refine wpl_store_last rfl 94 (.tmp 15) _ rfl (w4.heap.size) rfl rfl rfl sizeRec rfl rfl (by simp [Rec.cells, Value.oneCell']) ?_; obtain ⟨W5, hW5⟩ : ∃ W5, W5 = w4.alloc (.cells ri.cells.toArray 94) := ⟨_, rfl⟩; rw [← hW5]; have HD5 : Hid (Dr w W5 g v l K4 []) := (by rw [hW5]; exact HD4.out.other _); have HR5 : Hid (OwnR W5 w.heap.size (.slice (some ⟨q, 0, none⟩) rn rc) s.rs) := (by rw [hW5]; exact HR4.out.below ((Below.refl _ _).alloc (Nat.le_refl _) _)); have HB5 : Hid (Blk W5 w4.heap.size ri.cells.toArray 94) := (by rw [hW5]; exact Blk.new _ _ _); have hrj := HRJ.out W5 HR5.out; clear hW5)
          | (have hBA := HD5; refine gate_load' 94 (.tmp 85) rfl ?_; clear hBA; refine wpList_load_mid rfl 94 (.tmp 85) rfl q (jx * 11) rfl rj.cells _ hrj.1 Tryd.underlying94 rfl sizeRec ?_)
          | (have hBA := HD5; refine gate_st 94 (.tmp 87) (.tmp 86) rfl ?_; clear hBA; refine wpList_store_mid rfl 94 (.tmp 87) (.tmp 86) rfl q (ix * 11) rj.cells.toArray rfl rfl hrj.2 sizeRec (by simp [Rec.cells, Value.oneCell']) ?_; obtain ⟨U, hU⟩ : ∃ U, U = W5.setCells q (ix * 11) rj.cells := ⟨_, rfl⟩; rw [show W5.setCells q (ix * 11) rj.cells.toArray.toList = U from hU.symm]; have HRU : Hid (OwnR U w.heap.size (.slice (some ⟨q, 0, none⟩) rn rc) (s.rs.set ix rj)) := (by rw [hU]; exact HSI.out W5 rj HR5.out); have HDU : Hid (Dr w U g v l K4 []) := (by rw [hU]; exact HD5.out.belowB (below_cells hq9 _ _ _) (Nat.le_refl _) (by simp)); have HBU : Hid (Blk U w4.heap.size ri.cells.toArray 94) := (by rw [hU]; exact HB5.out.keep (setC_other (by omega) _ _ _)); have hrk := HSJ.out U rj ri HRU.out; clear hU)
          | (have hBA := HBU; refine gate_ld 94 (.tmp 15) rfl ?_; clear hBA; refine wpl_load_blk rfl 94 (.tmp 15) rfl (w4.heap.size) rfl HBU.out Tryd.underlying94 rfl sizeRec rfl ?_)
          | (have hBA := HBU; refine gate_st 94 (.tmp 91) (.tmp 90) rfl ?_; clear hBA; refine wpList_store_mid rfl 94 (.tmp 91) (.tmp 90) rfl q (jx * 11) ri.cells.toArray rfl rfl hrk.2 sizeRec (by simp [Rec.cells, Value.oneCell']) ?_; obtain ⟨U2, hU2⟩ : ∃ U2, U2 = U.setCells q (jx * 11) ri.cells := ⟨_, rfl⟩; rw [show U.setCells q (jx * 11) ri.cells.toArray.toList = U2 from hU2.symm]; have HRV : Hid (OwnR U2 w.heap.size (.slice (some ⟨q, 0, none⟩) rn rc) ((s.rs.set ix rj).set jx ri)) := (by rw [hU2]; exact hrk.1); have HDV : Hid (Dr w U2 g v l K4 []) := (by rw [hU2]; exact HDU.out.belowB (below_cells hq9 _ _ _) (Nat.le_refl _) (by simp)); clear hU2))
        go_ret
        rw [HTL.out, HT.out]
        exact ⟨_, rfl, HRV.out, HDV.out.src, HDV.out.grown⟩
      · subst c0
        have c2 : decide ((0 : Int) < (rn : Int)) = false := by simp; omega
        have c3 : decide (0 < rn) = false := by simp; omega
        have HT : Hid (rsTail l s.rs s.k = (s.rs, s.k + 1)) := (by unfold rsTail; rw [if_neg (by rw [← HRN.out]; omega), if_neg (by rw [← HPE.out]; omega)] : rsTail l s.rs s.k = (s.rs, s.k + 1))
        clear c1
        go_wp2_with (go_at_call 44; clear A6; refine HP6.out.mono ?_; rintro e w2 ⟨rfl, hd2, hg2⟩; have HD2 : Hid (Dr w w2 g v l (s.k + 1) []) := hd2; have HR2 : Hid (OwnR w2 w.heap.size (.slice ra rn rc) s.rs) := HR.out.grown hg2 hg0; clear hd2 hg2)
        go_ret
        rw [HTL.out, HT.out]
        exact ⟨_, rfl, HR2.out, HD2.out.src, HD2.out.grown⟩
      · subst c0
        have HT : Hid (rsTail l s.rs s.k = (s.rs, s.k + 1)) := (by unfold rsTail; rw [if_neg (by rw [← HPE.out]; omega), if_neg (by rw [← HRN.out]; omega)] : rsTail l s.rs s.k = (s.rs, s.k + 1))
        have c2 : decide ((1 : Int) < (rn : Int)) = false := by simp; omega
        go_wp2_with (go_at_call 44; clear A6; refine HP6.out.mono ?_; rintro e w2 ⟨rfl, hd2, hg2⟩; have HD2 : Hid (Dr w w2 g v l (s.k + 1) []) := hd2; have HR2 : Hid (OwnR w2 w.heap.size (.slice ra rn rc) s.rs) := HR.out.grown hg2 hg0; clear hd2 hg2)
        go_ret
        rw [HTL.out, HT.out]
        exact ⟨_, rfl, HR2.out, HD2.out.src, HD2.out.grown⟩
      · have HT : Hid (rsTail l s.rs s.k = (s.rs, s.k + 1)) := (by unfold rsTail; rw [if_neg (by rw [← HPE.out]; omega), if_neg (by rw [← HPE.out]; omega)] : rsTail l s.rs s.k = (s.rs, s.k + 1))
        have c2 : ((p6 : Int) == 0) = false := by rw [beq_eq_false_iff_ne]; omega
        have c3 : ((p6 : Int) == 1) = false := by rw [beq_eq_false_iff_ne]; omega
        go_wp2_with (go_at_call 44; clear A6; refine HP6.out.mono ?_; rintro e w2 ⟨rfl, hd2, hg2⟩; have HD2 : Hid (Dr w w2 g v l (s.k + 1) []) := hd2; have HR2 : Hid (OwnR w2 w.heap.size (.slice ra rn rc) s.rs) := HR.out.grown hg2 hg0; clear hd2 hg2)
        go_ret
        rw [HTL.out, HT.out]
        exact ⟨_, rfl, HR2.out, HD2.out.src, HD2.out.grown⟩
end Go.Proofs.YtjoflnnomebkpaaDoor
