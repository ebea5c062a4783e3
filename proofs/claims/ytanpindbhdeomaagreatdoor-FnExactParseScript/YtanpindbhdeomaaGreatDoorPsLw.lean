/-
  The law's own functions on the answers of ParseScript.
-/
import Derived.Test.YtanpindbhdeomaaGreatDoorPsIm
import Derived.Test.YtanpindbhdeomaaGreatDoorPsEq
import Derived.Test.YtanpindbhdeomaaGreatDoorPsMi
import Derived.Test.YtanpindbhdeomaaGreatDoorPsHd
namespace Go.Proofs.YtanpindbhdeomaaGreatDoor
open Go.RowKit
set_option linter.unusedVariables false
set_option linter.unusedSimpArgs false

theorem own_ix {w : World} {B : Nat} {v : Value} {l : List Int} (h : OwnG inC 1 3 w B v l) (hl : l.length ≤ 70000) : Ix w v l := by
  obtain ⟨a, c, e⟩ := h.shape
  refine ⟨by unfold maxLen; omega, a, c, e, fun i hi => ?_⟩
  obtain ⟨g, cg, e2, _, _, hc⟩ := row_ints h (by omega) hl
  rw [e] at e2
  cases e2
  exact ⟨g, 0, rfl, fun j hj => by rw [Nat.zero_add]; exact hc j hj⟩
set_option maxHeartbeats 400000 in
set_option maxRecDepth 100000 in
theorem eqParse_same (c ln us uc ue ub ur ud : Int) (vd vs vd' vs' : Value) (ds : List Int) (ss : List Stp) (w : World) (hd : Ix w vd ds) (hs : Sl stC 10 w vs ss) (hd' : Ix w vd' ds) (hs' : Sl stC 10 w vs' ss) :
    Calls Tryz.prog 6 #[.agg #[.int .i64 c, .int .i64 ln, .int .i64 us, .int .i64 uc, .int .i64 ue, .int .i64 ub, .int .i64 ur, .int .i64 ud, vd, vs], .agg #[.int .i64 c, .int .i64 ln, .int .i64 us, .int .i64 uc, .int .i64 ue, .int .i64 ub, .int .i64 ur, .int .i64 ud, vd', vs']] w fun e w' => e = .returned (.bool true) ∧ Below w.heap.size w w' := by
  have HQ : Hid (∀ z, Below w.heap.size w z → Calls Tryz.prog 13 #[.agg #[.int .i64 us, .int .i64 uc, .int .i64 ue, .int .i64 ub, .int .i64 ur, .int .i64 ud, vd, vs], .agg #[.int .i64 us, .int .i64 uc, .int .i64 ue, .int .i64 ub, .int .i64 ur, .int .i64 ud, vd', vs']] z fun e w' => e = .returned (.bool true) ∧ Below z.heap.size z w') := fun z h => eqScript_sk us uc ue ub ur ud vd vs vd' vs' ds ss z (hd.below h) (hs.below h) (hd'.below h) (hs'.below h)
  obtain ⟨_, da, dc, rfl, _⟩ := hd
  obtain ⟨_, sa, sc, rfl, _⟩ := hs
  obtain ⟨_, da', dc', rfl, _⟩ := hd'
  obtain ⟨_, sa', sc', rfl, _⟩ := hs'
  go_enter Tryz.func6, Tryz.ntmps6
  go_wp2_with (go_at_call 13; refine Calls.mono (HQ.out _ (((Below.refl w.heap.size w).alloc (Nat.le_refl _) _).alloc (by simp) _)) ?_; rintro e w1 ⟨rfl, hb1⟩; have HB : Hid (Below w.heap.size w w1) := (((Below.refl w.heap.size w).alloc (Nat.le_refl _) _).alloc (by simp) _).trans (hb1.mono (by simp <;> omega)); clear hb1)
  go_ret
  exact ⟨rfl, HB.out⟩

/-- an answer that is marked -/
structure Mkd (w : World) (da : Option Addr) (nd : Nat) (sa : Option Addr) (ns : Nat) : Prop where
  d : 0 < nd → ∃ q, da = some ⟨q, 0, none⟩ ∧ q < w.heap.size ∧ ∀ i, i < nd → w.cell? ⟨q, i, none⟩ = some (.int .i64 ((1 + i : Nat) : Int))
  s : 0 < ns → ∃ q, sa = some ⟨q, 0, none⟩ ∧ q < w.heap.size ∧ ∀ i, i < ns → ∀ t v, (mkStp (1 + nd + 10 * i))[t]? = some v → w.cell? ⟨q, i * 10 + t, none⟩ = some v
theorem Mkd.below {w w' : World} {da : Option Addr} {nd : Nat} {sa : Option Addr} {ns : Nat} (h : Mkd w da nd sa ns) (hb : Below w.heap.size w w') : Mkd w' da nd sa ns := by
  refine ⟨fun h0 => ?_, fun h0 => ?_⟩
  · obtain ⟨q, e, hq, hc⟩ := h.d h0
    exact ⟨q, e, Nat.lt_of_lt_of_le hq hb.size, fun i hi => (hb.cell (p := ⟨q, i, none⟩) hq).trans (hc i hi)⟩
  · obtain ⟨q, e, hq, hc⟩ := h.s h0
    exact ⟨q, e, Nat.lt_of_lt_of_le hq hb.size, fun i hi t v ht => (hb.cell (p := ⟨q, i * 10 + t, none⟩) hq).trans (hc i hi t v ht)⟩

set_option maxHeartbeats 400000 in
set_option maxRecDepth 100000 in
theorem markIntS_nil (k0 : Nat) (hk : k0 ≤ 1000000) (c : Nat) (w : World) : Calls Tryz.prog 29 #[.slice none 0 c, .int .i64 k0] w fun r w' => r = .returned (.int .i64 (k0 : Int)) ∧ w' = w := by
  go_enter Tryz.func29, Tryz.ntmps29
  go_wp2
  go_loopw [1, 5] (fun c i wr => i = .int .i64 0 ∧ c = .int .i64 (k0 : Int) ∧ wr = w) (fun _ _ _ => 0)
  case atStart => exact ⟨rfl, rfl, rfl⟩
  case round =>
    obtain ⟨rfl, rfl, rfl⟩ := hrel
    go_wp2
    go_ret
    exact ⟨rfl, rfl⟩
set_option maxHeartbeats 400000 in
set_option maxRecDepth 100000 in
theorem markStepS_nil (k0 : Nat) (hk : k0 ≤ 1000000) (c : Nat) (w : World) : Calls Tryz.prog 30 #[.slice none 0 c, .int .i64 k0] w fun r w' => r = .returned (.int .i64 (k0 : Int)) ∧ w' = w := by
  go_enter Tryz.func30, Tryz.ntmps30
  go_wp2
  go_loopw [1, 5] (fun c i wr => i = .int .i64 0 ∧ c = .int .i64 (k0 : Int) ∧ wr = w) (fun _ _ _ => 0)
  case atStart => exact ⟨rfl, rfl, rfl⟩
  case round =>
    obtain ⟨rfl, rfl, rfl⟩ := hrel
    go_wp2
    go_ret
    exact ⟨rfl, rfl⟩
theorem own_case {α : Type} {cs : α → List Value} {m : Nat} {T S : TypeId} (L : GLaw cs m T S) {w : World} {B : Nat} {a : Option Addr} {n c : Nat} {l : List α} (h : OwnG cs m T w B (.slice a n c) l) : n = l.length ∧ ((a = none ∧ n = 0) ∨ ∃ q, a = some ⟨q, 0, none⟩ ∧ B ≤ q ∧ q < w.heap.size ∧ w.there q 0 (n * m)) := by
  obtain ⟨a', c', e⟩ := h.shape
  simp only [Value.slice.injEq] at e
  obtain ⟨rfl, rfl, rfl⟩ := e
  refine ⟨rfl, ?_⟩
  rcases h.2 with ⟨e, h0⟩ | ⟨g, cap, cur, e, _⟩
  · simp only [Value.slice.injEq] at e
    exact .inl ⟨e.1, e.2.1⟩
  · simp only [Value.slice.injEq] at e
    obtain ⟨rfl, -, rfl⟩ := e
    obtain ⟨h1, h2⟩ := h.lts g rfl
    exact .inr ⟨g, rfl, h1, h2, h.there L⟩
theorem markIntS_own (k0 : Nat) (hk : k0 ≤ 1000000) {a : Option Addr} {n c : Nat} {l : List Int} {w : World} {B : Nat} (hB : B ≤ w.heap.size) (h : OwnG inC 1 3 w B (.slice a n c) l) (hl : n ≤ 70000) :
    Calls Tryz.prog 29 #[.slice a n c, .int .i64 k0] w fun r w' => r = .returned (.int .i64 ((k0 + n : Nat) : Int)) ∧ (0 < n → ∃ q, a = some ⟨q, 0, none⟩ ∧ q < w'.heap.size ∧ ∀ i, i < n → w'.cell? ⟨q, i, none⟩ = some (.int .i64 ((k0 + i : Nat) : Int))) ∧ w.grownBy w' (Value.slice a n c).ownBlock := by
  obtain ⟨e, ⟨rfl, rfl⟩ | ⟨q, rfl, h1, h2, h3⟩⟩ := own_case inLaw h
  · refine (markIntS_nil k0 hk c w).mono ?_
    rintro r w' ⟨rfl, rfl⟩
    exact ⟨rfl, fun h => absurd h (by omega), grownBy_refl _ _⟩
  · refine (markIntS_is k0 (by omega) q n c w (by rw [Nat.mul_one] at h3; exact h3) h2 (by omega)).mono ?_
    rintro r w' ⟨rfl, hk, hg⟩
    exact ⟨rfl, fun _ => ⟨q, rfl, Nat.lt_of_lt_of_le h2 hg.size, fun i hi => hk.old i hi⟩, hg⟩
theorem markStepS_own (k0 : Nat) (hk : k0 ≤ 1000000) {a : Option Addr} {n c : Nat} {l : List Stp} {w : World} {B : Nat} (hB : B ≤ w.heap.size) (h : OwnG stC 10 48 w B (.slice a n c) l) (hl : n ≤ 70000) :
    Calls Tryz.prog 30 #[.slice a n c, .int .i64 k0] w fun r w' => r = .returned (.int .i64 ((k0 + 10 * n : Nat) : Int)) ∧ (0 < n → ∃ q, a = some ⟨q, 0, none⟩ ∧ q < w'.heap.size ∧ ∀ i, i < n → ∀ t v, (mkStp (k0 + 10 * i))[t]? = some v → w'.cell? ⟨q, i * 10 + t, none⟩ = some v) ∧ w.grownBy w' (Value.slice a n c).ownBlock := by
  obtain ⟨e, ⟨rfl, rfl⟩ | ⟨q, rfl, h1, h2, h3⟩⟩ := own_case stpLaw h
  · refine (markStepS_nil k0 hk c w).mono ?_
    rintro r w' ⟨rfl, rfl⟩
    exact ⟨rfl, fun h => absurd h (by omega), grownBy_refl _ _⟩
  · refine (markStepS_is k0 (by omega) q n c w h3 h2 (by omega)).mono ?_
    rintro r w' ⟨rfl, hk, hg⟩
    exact ⟨rfl, fun _ => ⟨q, rfl, Nat.lt_of_lt_of_le h2 hg.size, fun i hi t v ht => hk.old i hi t v ht⟩, hg⟩
set_option maxHeartbeats 400000 in
set_option maxRecDepth 100000 in
theorem markScript_own (us uc ue ub ur ud : Int) (da : Option Addr) (nd dc : Nat) (sa : Option Addr) (ns sc : Nat) (ds : List Int) (ss : List Stp) (w : World) (B : Nat) (hB : B ≤ w.heap.size) (hd : OwnG inC 1 3 w B (.slice da nd dc) ds) (hs : OwnG stC 10 48 w B (.slice sa ns sc) ss) (hn : nd ≤ 70000) (hm : ns ≤ 70000) :
    Calls Tryz.prog 14 #[.agg #[.int .i64 us, .int .i64 uc, .int .i64 ue, .int .i64 ub, .int .i64 ur, .int .i64 ud, .slice da nd dc, .slice sa ns sc], .int .i64 1] w fun r w' => r = .returned (.int .i64 ((1 + nd + 10 * ns : Nat) : Int)) ∧ Mkd w' da nd sa ns ∧ Below B w w' ∧ (∀ k, k < w.heap.size → some k ≠ (Value.slice da nd dc).ownBlock → some k ≠ (Value.slice sa ns sc).ownBlock → w'.heap[k]? = w.heap[k]?) := by
  have HD : Hid (OwnG inC 1 3 w B (.slice da nd dc) ds) := hd
  have HS : Hid (OwnG stC 10 48 w B (.slice sa ns sc) ss) := hs
  have H1 : Hid (∀ z, Below w.heap.size w z → Calls Tryz.prog 29 #[.slice da nd dc, .int .i64 1] z fun r w' => r = .returned (.int .i64 (1 + (nd : Int))) ∧ (0 < nd → ∃ q, da = some ⟨q, 0, none⟩ ∧ q < w'.heap.size ∧ ∀ i, i < nd → w'.cell? ⟨q, i, none⟩ = some (.int .i64 ((1 + i : Nat) : Int))) ∧ z.grownBy w' (Value.slice da nd dc).ownBlock) := fun z hz => by
    have h9 := markIntS_own 1 (by omega) (Nat.le_trans hB hz.size) (hd.below hz) hn
    rw [show ((1 + nd : Nat) : Int) = 1 + (nd : Int) by omega] at h9
    exact h9
  have H2 : Hid (∀ z, OwnG stC 10 48 z B (.slice sa ns sc) ss → B ≤ z.heap.size → Calls Tryz.prog 30 #[.slice sa ns sc, .int .i64 (1 + (nd : Int))] z fun r w' => r = .returned (.int .i64 ((1 + nd + 10 * ns : Nat) : Int)) ∧ (0 < ns → ∃ q, sa = some ⟨q, 0, none⟩ ∧ q < w'.heap.size ∧ ∀ i, i < ns → ∀ t v, (mkStp (1 + nd + 10 * i))[t]? = some v → w'.cell? ⟨q, i * 10 + t, none⟩ = some v) ∧ z.grownBy w' (Value.slice sa ns sc).ownBlock) := fun z hz hBz => by
    have h9 := markStepS_own (1 + nd) (by omega) hBz hz hm
    rw [show ((1 + nd : Nat) : Int) = 1 + (nd : Int) by omega] at h9
    exact h9
  have HNe : Hid (∀ k, (Value.slice da nd dc).ownBlock = some k → (Value.slice sa ns sc).ownBlock ≠ some k) := own_ne hd hs (by decide)
  clear hd hs
  go_enter Tryz.func14, Tryz.ntmps14
  go_wp2_with (first
    | (go_at_call 29; refine Calls.mono (H1.out _ ((Below.refl w.heap.size w).alloc (Nat.le_refl _) _)) ?_; rintro e w1 ⟨rfl, hc1, hg1⟩; have HC1 : Hid _ := hc1; have HG1 : Hid ((w.alloc _).grownBy w1 (Value.slice da nd dc).ownBlock) := hg1; have BA : Hid (Blk w1 w.heap.size #[.int .i64 us, .int .i64 uc, .int .i64 ue, .int .i64 ub, .int .i64 ur, .int .i64 ud, .slice da nd dc, .slice sa ns sc] 27) := (Blk.new w _ _).keep (hg1.block _ (by simp) (fun e => by have := (HD.out.lts _ e.symm).2; omega)); have cA := BA.out.cell; have hz1 : w.heap.size + 1 ≤ w1.heap.size := (by have := hg1.size; simp at this; omega); have HS1 : Hid (OwnG stC 10 48 w1 B (.slice sa ns sc) ss) := (OwnG.below HS.out ((Below.refl w.heap.size w).alloc (Nat.le_refl _) _)).block (fun j hj => hg1.block j (by have := (HS.out.lts j hj).2; simp; omega) (fun e => HNe.out j e.symm hj)); clear hc1 hg1)
    | (go_at_call 30; refine Calls.mono (H2.out _ HS1.out (by omega)) ?_; rintro e w2 ⟨rfl, hc2, hg2⟩; have HC2 : Hid _ := hc2; have HG2 : Hid (w1.grownBy w2 (Value.slice sa ns sc).ownBlock) := hg2; clear hc2 hg2))
  go_ret
  refine ⟨rfl, ⟨fun h0 => ?_, HC2.out⟩, ?_, fun k hk h1 h2 => (HG2.out.block k (by omega) h2).trans ((HG1.out.block k (by simp; omega) h1).trans (Below.heap_alloc w _ k hk))⟩
  · obtain ⟨q, e, hq, hc⟩ := HC1.out h0
    refine ⟨q, e, Nat.lt_of_lt_of_le hq HG2.out.size, fun i hi => ?_⟩
    rw [HG2.out.cell_far ⟨q, i, none⟩ hq (fun e' => HNe.out q (by rw [e]; rfl) e'.symm)]
    exact hc i hi
  · have hb1 : Below B w w1 := (((Below.refl B w).alloc hB _)).grown HG1.out (by simp; omega) (fun k hk => (HD.out.lts k hk).1)
    exact hb1.grown HG2.out (by omega) (fun k hk => (HS.out.lts k hk).1)
set_option maxHeartbeats 400000 in
set_option maxRecDepth 100000 in
theorem markParse_own (c ln us uc ue ub ur ud : Int) (da : Option Addr) (nd dc : Nat) (sa : Option Addr) (ns sc : Nat) (ds : List Int) (ss : List Stp) (w : World) (B : Nat) (hB : B ≤ w.heap.size) (hd : OwnG inC 1 3 w B (.slice da nd dc) ds) (hs : OwnG stC 10 48 w B (.slice sa ns sc) ss) (hn : nd ≤ 70000) (hm : ns ≤ 70000) :
    Calls Tryz.prog 7 #[.agg #[.int .i64 c, .int .i64 ln, .int .i64 us, .int .i64 uc, .int .i64 ue, .int .i64 ub, .int .i64 ur, .int .i64 ud, .slice da nd dc, .slice sa ns sc], .int .i64 1] w fun r w' => r = .returned (.int .i64 ((1 + nd + 10 * ns : Nat) : Int)) ∧ Mkd w' da nd sa ns ∧ Below B w w' ∧ (∀ k, k < w.heap.size → some k ≠ (Value.slice da nd dc).ownBlock → some k ≠ (Value.slice sa ns sc).ownBlock → w'.heap[k]? = w.heap[k]?) := by
  have H1 : Hid (∀ z, Below w.heap.size w z → Calls Tryz.prog 14 #[.agg #[.int .i64 us, .int .i64 uc, .int .i64 ue, .int .i64 ub, .int .i64 ur, .int .i64 ud, .slice da nd dc, .slice sa ns sc], .int .i64 1] z fun r w' => r = .returned (.int .i64 ((1 + nd + 10 * ns : Nat) : Int)) ∧ Mkd w' da nd sa ns ∧ Below B z w' ∧ (∀ k, k < z.heap.size → some k ≠ (Value.slice da nd dc).ownBlock → some k ≠ (Value.slice sa ns sc).ownBlock → w'.heap[k]? = z.heap[k]?)) := fun z hz => markScript_own us uc ue ub ur ud da nd dc sa ns sc ds ss z B (Nat.le_trans hB hz.size) (hd.below hz) (hs.below hz) hn hm
  clear hd hs
  generalize ((1 + nd + 10 * ns : Nat) : Int) = R at *
  go_enter Tryz.func7, Tryz.ntmps7
  go_wp2_with (go_at_call 14; refine Calls.mono (H1.out _ ((Below.refl w.heap.size w).alloc (Nat.le_refl _) _)) ?_; rintro e w1 ⟨rfl, hc1, hb1, hf1⟩; have HC1 : Hid (Mkd w1 da nd sa ns) := hc1; have HB1 : Hid (Below B w w1) := ((Below.refl B w).alloc hB _).trans hb1; have HF1 : Hid (∀ k, k < w.heap.size → some k ≠ (Value.slice da nd dc).ownBlock → some k ≠ (Value.slice sa ns sc).ownBlock → w1.heap[k]? = w.heap[k]?) := (fun k hk h1 h2 => (hf1 k (by simp; omega) h1 h2).trans (Below.heap_alloc w _ k hk)); clear hc1 hb1 hf1)
  go_ret
  exact ⟨rfl, HC1.out, HB1.out, HF1.out⟩
set_option maxHeartbeats 400000 in
set_option maxRecDepth 100000 in
theorem heldScript_own (us uc ue ub ur ud : Int) (da : Option Addr) (nd dc : Nat) (sa : Option Addr) (ns sc : Nat) (w : World) (h : Mkd w da nd sa ns) (hn : nd ≤ 70000) (hm : ns ≤ 70000) :
    Calls Tryz.prog 15 #[.agg #[.int .i64 us, .int .i64 uc, .int .i64 ue, .int .i64 ub, .int .i64 ur, .int .i64 ud, .slice da nd dc, .slice sa ns sc], .int .i64 1] w fun r w' => r = .returned (.int .i64 ((1 + nd + 10 * ns : Nat) : Int)) ∧ Below w.heap.size w w' := by
  have H1 : Hid (∀ z, Below w.heap.size w z → Calls Tryz.prog 31 #[.slice da nd dc, .int .i64 1] z fun r w' => r = .returned (.int .i64 (1 + (nd : Int))) ∧ Below z.heap.size z w') := fun z hz => by
    have h9 := heldIntS_is 1 (by omega) da nd dc z (by omega) (fun h0 => by obtain ⟨q, e, -, hc⟩ := (h.below hz).d h0; exact ⟨q, e, hc⟩)
    rw [show ((1 + nd : Nat) : Int) = 1 + (nd : Int) by omega] at h9
    exact h9
  have H2 : Hid (∀ z, Below w.heap.size w z → Calls Tryz.prog 32 #[.slice sa ns sc, .int .i64 (1 + (nd : Int))] z fun r w' => r = .returned (.int .i64 (1 + (nd : Int) + 10 * (ns : Int))) ∧ Below z.heap.size z w') := fun z hz => by
    have h9 := heldStepS_is (1 + nd) (by omega) sa ns sc z (by omega) (h.below hz).s
    rw [show ((1 + nd : Nat) : Int) = 1 + (nd : Int) by omega, show ((1 + nd + 10 * ns : Nat) : Int) = 1 + (nd : Int) + 10 * (ns : Int) by omega] at h9
    exact h9
  have hR : ((1 + nd + 10 * ns : Nat) : Int) = 1 + (nd : Int) + 10 * (ns : Int) := by omega
  rw [hR]
  clear h hR
  have p1 : ¬ (1 + (nd : Int) < 0) := by omega
  have p2 : ¬ (1 + (nd : Int) + 10 * (ns : Int) < 0) := by omega
  go_enter Tryz.func15, Tryz.ntmps15
  go_wp2_with (first
    | (go_at_call 31; refine Calls.mono (H1.out _ ((Below.refl w.heap.size w).alloc (Nat.le_refl _) _)) ?_; rintro e w1 ⟨rfl, hb1⟩; have HB1 : Hid (Below w.heap.size w w1) := ((Below.refl w.heap.size w).alloc (Nat.le_refl _) _).trans (hb1.mono (by simp)); have BA : Hid (Blk w1 w.heap.size #[.int .i64 us, .int .i64 uc, .int .i64 ue, .int .i64 ub, .int .i64 ur, .int .i64 ud, .slice da nd dc, .slice sa ns sc] 27) := (Blk.new w _ _).below hb1 (by simp); have cA := BA.out.cell; clear hb1)
    | (go_at_call 32; refine Calls.mono (H2.out _ HB1.out) ?_; rintro e w2 ⟨rfl, hb2⟩; have HB2 : Hid (Below w.heap.size w w2) := HB1.out.trans (hb2.mono HB1.out.size); clear hb2))
  go_ret
  exact ⟨rfl, HB2.out⟩
set_option maxHeartbeats 400000 in
set_option maxRecDepth 100000 in
theorem heldParse_own (c ln us uc ue ub ur ud : Int) (da : Option Addr) (nd dc : Nat) (sa : Option Addr) (ns sc : Nat) (w : World) (h : Mkd w da nd sa ns) (hn : nd ≤ 70000) (hm : ns ≤ 70000) :
    Calls Tryz.prog 8 #[.agg #[.int .i64 c, .int .i64 ln, .int .i64 us, .int .i64 uc, .int .i64 ue, .int .i64 ub, .int .i64 ur, .int .i64 ud, .slice da nd dc, .slice sa ns sc], .int .i64 1] w fun r w' => r = .returned (.int .i64 ((1 + nd + 10 * ns : Nat) : Int)) ∧ Below w.heap.size w w' := by
  have H1 : Hid (∀ z, Below w.heap.size w z → Calls Tryz.prog 15 #[.agg #[.int .i64 us, .int .i64 uc, .int .i64 ue, .int .i64 ub, .int .i64 ur, .int .i64 ud, .slice da nd dc, .slice sa ns sc], .int .i64 1] z fun r w' => r = .returned (.int .i64 ((1 + nd + 10 * ns : Nat) : Int)) ∧ Below z.heap.size z w') := fun z hz => heldScript_own us uc ue ub ur ud da nd dc sa ns sc z (h.below hz) hn hm
  have p1 : ¬ (((1 + nd + 10 * ns : Nat) : Int) < 0) := by omega
  clear h
  generalize ((1 + nd + 10 * ns : Nat) : Int) = R at *
  go_enter Tryz.func8, Tryz.ntmps8
  go_wp2_with (go_at_call 15; refine Calls.mono (H1.out _ ((Below.refl w.heap.size w).alloc (Nat.le_refl _) _)) ?_; rintro e w1 ⟨rfl, hb1⟩; have HB1 : Hid (Below w.heap.size w w1) := ((Below.refl w.heap.size w).alloc (Nat.le_refl _) _).trans (hb1.mono (by simp)); clear hb1)
  go_ret
  exact ⟨rfl, HB1.out⟩
end Go.Proofs.YtanpindbhdeomaaGreatDoor
