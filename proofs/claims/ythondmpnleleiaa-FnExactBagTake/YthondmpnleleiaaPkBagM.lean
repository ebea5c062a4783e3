/-
  laws.eqBag, markBag, heldBag; eqPutAnswer, markPutAnswer, heldPutAnswer.
-/
import Derived.Test.YthondmpnleleiaaPkBag
namespace Go.Proofs.Ythondmpnleleiaa
open Go.RowKit
set_option linter.unusedVariables false
set_option linter.unusedSimpArgs false

theorem BagR.below {w w' : World} {lo hi : Nat} {v u : Value} {l : List Pk} {ws : List Int} (h : BagR lo hi w v u l ws) (hb : Below w.heap.size w w') (hhi : hi ≤ w.heap.size) : BagR lo hi w' v u l ws := h.keep fun k _ hk => hb.block k (by omega)

set_option maxHeartbeats 2000000 in
set_option maxRecDepth 100000 in
theorem eqBag_u (n : Int) (v u v' u' : Value) (l L : List Pk) (ws : List Int) (w : World) {lo hi lo' hi' : Nat} (h : BagR lo hi w v u l ws) (h' : BagR lo' hi' w v' u' L ws) (hc : cont l = cont L) :
    Calls Try.prog 11 #[.agg #[.int .i64 n, v, u], .agg #[.int .i64 n, v', u']] w fun e w' => e = .returned (.bool true) ∧ Below w.heap.size w w' := by
  have HP : Hid (∀ w', Below w.heap.size w w' → Calls Try.prog 42 #[v, v'] w' fun e w'' => e = .returned (.bool true) ∧ Below w'.heap.size w' w'') := fun w' hb => eqPacketS_same _ _ l L w' (h.pks.pks.below hb) (h'.pks.pks.below hb) hc
  have HI : Hid (∀ w', Below w.heap.size w w' → Calls Try.prog 43 #[u, u'] w' fun e w'' => e = .returned (.bool true) ∧ Below w'.heap.size w' w'') := fun w' hb => eqIntS_same _ _ ws w' (h.ints.ix.below hb) (h'.ints.ix.below hb)
  obtain ⟨a, cap, rfl⟩ := h.pks.sh
  obtain ⟨a2, cap2, rfl⟩ := h.ints.sh
  obtain ⟨a', cap', rfl⟩ := h'.pks.sh
  obtain ⟨a2', cap2', rfl⟩ := h'.ints.sh
  clear h h' hc
  generalize l.length = nl at *
  generalize L.length = nL at *
  have hb0 : Hid (Below w.heap.size w ((w.alloc (.cells #[.int .i64 n, .slice a nl cap, .slice a2 ws.length cap2] 29)).alloc (.cells #[.int .i64 n, .slice a' nL cap', .slice a2' ws.length cap2'] 29))) := ((Below.refl _ _).alloc (Nat.le_refl _) _).alloc (by simp) _
  go_enter Try.func11, Try.ntmps11
  go_wp2_with (first
    | (go_at_call 42; refine (HP.out _ hb0.out).mono ?_; rintro e w1 ⟨rfl, hb1⟩; have HB1 : Hid (Below w.heap.size w w1) := hb0.out.trans (hb1.mono (by simp; omega)); have hcc := (bcell hb1).1; clear hb1)
    | (go_at_call 43; refine (HI.out _ HB1.out).mono ?_; rintro e w2 ⟨rfl, hb2⟩; have HB2 : Hid (Below w.heap.size w w2) := HB1.out.trans (hb2.mono HB1.out.size); clear hb2))
  go_ret
  exact ⟨rfl, HB2.out⟩

set_option maxHeartbeats 2000000 in
set_option maxRecDepth 100000 in
theorem eqPutAnswer_u (c i n : Int) (v u v' u' : Value) (l L : List Pk) (ws : List Int) (w : World) {lo hi lo' hi' : Nat} (h : BagR lo hi w v u l ws) (h' : BagR lo' hi' w v' u' L ws) (hc : cont l = cont L) (hhi : hi ≤ w.heap.size) (hhi' : hi' ≤ w.heap.size) :
    Calls Try.prog 17 #[.agg #[.int .i64 c, .int .i64 i, .int .i64 n, v, u], .agg #[.int .i64 c, .int .i64 i, .int .i64 n, v', u']] w fun e w' => e = .returned (.bool true) ∧ Below w.heap.size w w' := by
  have HP : Hid (∀ w', Below w.heap.size w w' → Calls Try.prog 11 #[.agg #[.int .i64 n, v, u], .agg #[.int .i64 n, v', u']] w' fun e w'' => e = .returned (.bool true) ∧ Below w'.heap.size w' w'') := fun w' hb => eqBag_u n _ _ _ _ l L ws w' (h.below hb hhi) (h'.below hb hhi') hc
  obtain ⟨a, cap, rfl⟩ := h.pks.sh
  obtain ⟨a2, cap2, rfl⟩ := h.ints.sh
  obtain ⟨a', cap', rfl⟩ := h'.pks.sh
  obtain ⟨a2', cap2', rfl⟩ := h'.ints.sh
  clear h h' hc
  generalize l.length = nl at *
  generalize L.length = nL at *
  have hb0 : Hid (Below w.heap.size w ((w.alloc (.cells #[.int .i64 c, .int .i64 i, .int .i64 n, .slice a nl cap, .slice a2 ws.length cap2] 37)).alloc (.cells #[.int .i64 c, .int .i64 i, .int .i64 n, .slice a' nL cap', .slice a2' ws.length cap2'] 37))) := ((Below.refl _ _).alloc (Nat.le_refl _) _).alloc (by simp) _
  go_enter Try.func17, Try.ntmps17
  go_wp2_with (go_at_call 11; refine (HP.out _ hb0.out).mono ?_; rintro e w1 ⟨rfl, hb1⟩; have HB1 : Hid (Below w.heap.size w w1) := hb0.out.trans (hb1.mono (by simp; omega)); clear hb1)
  go_ret
  exact ⟨rfl, HB1.out⟩

/-- ints that are marked -/
def mkIs (k n : Nat) : List Int := (List.range n).map fun i => ((k + i : Nat) : Int)
theorem mkIs_len (k n : Nat) : (mkIs k n).length = n := by simp [mkIs]
theorem mkIs_get (k n j : Nat) (h : j < (mkIs k n).length) : (mkIs k n)[j] = ((k + j : Nat) : Int) := by simp [mkIs]

set_option maxHeartbeats 2000000 in
theorem markIntS_r (v : Value) (l : List Int) (z : Int) (k0 : Nat) (hz : z = (k0 : Int)) (w : World) {lo hi : Nat} (hv : IntsR lo hi w v l) (hl : l.length ≤ 1048576) (hk0 : k0 ≤ 100000000) :
    Calls Try.prog 45 #[v, .int .i64 z] w fun r w' => r = .returned (.int .i64 ((k0 + l.length : Nat) : Int)) ∧ IntsR lo hi w' v (mkIs k0 l.length) ∧ Touched (fun k => 0 < l.length ∧ v.ownBlock = some k) w w' := by
  subst hz
  by_cases h0 : l.length = 0
  · obtain ⟨a, cap, rfl⟩ := hv.sh
    rw [h0]
    go_enter Try.func45, Try.ntmps45
    go_wp2
    go_loopw [1, 5] (fun c i wr => c = .int .i64 (k0 : Int) ∧ i = .int .i64 0 ∧ wr = w) (fun _ _ _ => 0)
    case atStart => exact ⟨rfl, rfl, rfl⟩
    case round =>
      obtain ⟨rfl, rfl, rfl⟩ := hrel
      go_wp2
      go_ret
      exact ⟨by simp, ⟨by simp [mkIs_len, maxLen], ⟨_, _, rfl⟩, fun h => absurd h (by simp [mkIs_len])⟩, Touched.refl _ _⟩
  · obtain ⟨q, cap, rfl, h1, h2, h3, h4, h5⟩ := hv.row (by omega)
    refine (markIntS_is k0 hk0 q l.length cap w h4 h3 hl).mono ?_
    rintro r w' ⟨rfl, hm, hg⟩
    refine ⟨rfl, ⟨by rw [mkIs_len]; exact hv.len, by rw [mkIs_len]; exact ⟨_, _, rfl⟩, fun _ => ⟨q, cap, by rw [mkIs_len], h1, h2, Nat.lt_of_lt_of_le h3 hg.size, by rw [mkIs_len]; exact hm.room, fun j hj => ?_⟩⟩, Touched.rows hg fun k e => ⟨by omega, e⟩⟩
    rw [mkIs_get, hm.old j (by rw [mkIs_len] at hj; exact hj)]
theorem heldIntS_r (v : Value) (n : Nat) (z : Int) (k0 : Nat) (hz : z = (k0 : Int)) (w : World) {lo hi : Nat} (hv : IntsR lo hi w v (mkIs k0 n)) (hl : n ≤ 1048576) (hk0 : k0 ≤ 100000000) :
    Calls Try.prog 47 #[v, .int .i64 z] w fun r w' => r = .returned (.int .i64 ((k0 + n : Nat) : Int)) ∧ Below w.heap.size w w' := by
  subst hz
  obtain ⟨a, cap, rfl⟩ := hv.sh
  have hr := hv.row
  rw [mkIs_len]
  refine heldIntS_is k0 hk0 a n cap w hl fun h0 => ?_
  obtain ⟨q, cap', e, h1, h2, h3, h4, h5⟩ := hr (by rw [mkIs_len]; exact h0)
  injection e with e1 _ _
  exact ⟨q, e1, fun i hi => by rw [h5 i (by rw [mkIs_len]; exact hi), mkIs_get]⟩

theorem mkPs_blocks {v : Value} {l : List Pk} {k0 k : Nat} (h : pkBlocks v (mkPs k0 l) k) : pkBlocks v l k := by
  rcases h with ⟨h0, e⟩ | ⟨p, hp, e⟩
  · exact .inl ⟨by rwa [mkPs_len] at h0, e⟩
  · obtain ⟨j, hj, rfl⟩ := List.mem_iff_getElem.1 hp
    have hj' : j < l.length := by rwa [mkPs_len] at hj
    rw [mkPs_get k0 l j hj' hj] at e
    exact .inr ⟨l[j], List.getElem_mem hj', e⟩

set_option maxHeartbeats 2000000 in
set_option maxRecDepth 100000 in
theorem markBag_u (n : Int) (v u : Value) (l : List Pk) (ws : List Int) (k0 : Nat) (w : World) {lo hi : Nat} (h : BagR lo hi w v u l ws) (hlo : lo ≤ w.heap.size) (hhi : hi ≤ w.heap.size) (hl : l.length ≤ 1100000) (hb : bulk (cont l) ≤ 2200000) (hw : ws.length ≤ 1048576) (hk0 : k0 ≤ 10000000) :
    Calls Try.prog 12 #[.agg #[.int .i64 n, v, u], .int .i64 k0] w fun e w' => e = .returned (.int .i64 ((k0 + mkN (cont l) + ws.length : Nat) : Int)) ∧ BagR lo hi w' v u (mkPs k0 l) (mkIs (k0 + mkN (cont l)) ws.length) ∧ Turned lo hi w w' := by
  have hmn : mkN (cont l) ≤ 6000000 := by simp only [mkN, cont_len]; omega
  have HP : Hid (∀ w', Below w.heap.size w w' → Calls Try.prog 44 #[v, .int .i64 k0] w' fun r w'' => r = .returned (.int .i64 ((k0 + mkN (cont l) : Nat) : Int)) ∧ PksR lo hi w'' v (mkPs k0 l) ∧ Touched (pkBlocks v l) w' w'') := fun w' hb' => markPacketS_u v l k0 w' (h.below hb' hhi).pks (Nat.le_trans hlo hb'.size) hl hb hk0
  have HI : Hid (∀ w' w'', Below w.heap.size w w' → Touched (pkBlocks v l) w' w'' → ∀ z : Int, z = ((k0 + mkN (cont l) : Nat) : Int) → Calls Try.prog 45 #[u, .int .i64 z] w'' fun r w3 => r = .returned (.int .i64 ((k0 + mkN (cont l) + ws.length : Nat) : Int)) ∧ IntsR lo hi w3 u (mkIs (k0 + mkN (cont l)) ws.length) ∧ Touched (fun k => 0 < ws.length ∧ u.ownBlock = some k) w'' w3) := fun w' w'' hb' ht z hz => by
    have hi' := (h.below hb' hhi).ints
    have hs := hb'.size
    refine markIntS_r u ws z _ hz w'' (lo := lo) (hi := hi) ⟨hi'.len, hi'.sh, fun h0 => ?_⟩ hw (by omega)
    obtain ⟨q, cap, e, h1, h2, h3, h4, h5⟩ := hi'.row h0
    have hbk := ht.block q h3 (h.far h0 q (by rw [e]; rfl))
    exact ⟨q, cap, e, h1, h2, lt_keepP hbk h3, there_block' h4 hbk, fun j hj => (World.cell?_of_block (w := w') hbk).trans (h5 j hj)⟩
  have HF : Hid (∀ w' w'' w3, Below w.heap.size w w' → Touched (pkBlocks v l) w' w'' → PksR lo hi w'' v (mkPs k0 l) → IntsR lo hi w3 u (mkIs (k0 + mkN (cont l)) ws.length) → Touched (fun k => 0 < ws.length ∧ u.ownBlock = some k) w'' w3 → BagR lo hi w3 v u (mkPs k0 l) (mkIs (k0 + mkN (cont l)) ws.length) ∧ Turned lo hi w w3) := fun w' w'' w3 hb' t1 hp hi' t2 => by
    refine ⟨⟨?_, hi', fun h0 k e hk => h.far (by rwa [mkIs_len] at h0) k e (mkPs_blocks hk)⟩, ?_⟩
    · have hk : ∀ k, k < w''.heap.size → pkBlocks v (mkPs k0 l) k → w3.heap[k]? = w''.heap[k]? := fun k hk hb' => t2.block k hk fun hh => h.far hh.1 k hh.2 (mkPs_blocks hb')
      refine ⟨hp.len, hp.sh, fun h0 => ?_, fun p hp' => ?_, hp.apart⟩
      · obtain ⟨q, cap, e, h1, h2, h3, h4, h5, h6⟩ := hp.row h0
        have hbk := hk q h3 (.inl ⟨h0, by rw [e]; rfl⟩)
        exact ⟨q, cap, e, h1, h2, lt_keepP hbk h3, there_block' h4 hbk, fun j hj => (h5 j hj).block hbk, h6⟩
      · obtain ⟨b1, b2⟩ := hp.bytes p hp'
        exact ⟨⟨b1.own.block fun k e => hk k (b1.own.2.lt k e).2 (.inr ⟨p, hp', e⟩), b1.lt⟩, b2⟩
    · refine (Turned.of_below lo hi hb').trans ((t1.turned h.pks.blocks).trans (t2.turned fun k hk => h.ints.block hk.1 k hk.2))
  obtain ⟨a, cap, rfl⟩ := h.pks.sh
  obtain ⟨a2, cap2, rfl⟩ := h.ints.sh
  have hnb : Hid (¬ pkBlocks (.slice a l.length cap) l w.heap.size) := fun hk => by have := h.pks.blocks _ hk; omega
  clear h
  have hb0 : Hid (Below w.heap.size w (w.alloc (.cells #[.int .i64 n, .slice a l.length cap, .slice a2 ws.length cap2] 29))) := (Below.refl _ _).alloc (Nat.le_refl _) _
  have hw0 : ∀ o, (w.alloc (.cells #[.int .i64 n, .slice a l.length cap, .slice a2 ws.length cap2] 29)).cell? ⟨w.heap.size, o, none⟩ = #[.int .i64 n, .slice a l.length cap, .slice a2 ws.length cap2][o]? := fun o => World.cell?_alloc_new _ _ _ _
  go_enter Try.func12, Try.ntmps12
  go_wp2_with (first
    | (go_at_call 44; refine (HP.out _ hb0.out).mono ?_; rintro e w1 ⟨rfl, hp1, ht1⟩; have HP1 : Hid (PksR lo hi w1 (.slice a l.length cap) (mkPs k0 l)) := hp1; have HT1 : Hid (Touched (pkBlocks (.slice a l.length cap) l) (w.alloc (.cells #[.int .i64 n, .slice a l.length cap, .slice a2 ws.length cap2] 29)) w1) := ht1; have c0 : w1.cell? ⟨w.heap.size, 0, none⟩ = some (.int .i64 n) := (World.cell?_of_block (ht1.block w.heap.size (by simp) hnb.out)).trans (by simp [go_sem]); have c1 : w1.cell? ⟨w.heap.size, 1, none⟩ = some (.slice a l.length cap) := (World.cell?_of_block (ht1.block w.heap.size (by simp) hnb.out)).trans (by simp [go_sem]); have c2 : w1.cell? ⟨w.heap.size, 2, none⟩ = some (.slice a2 ws.length cap2) := (World.cell?_of_block (ht1.block w.heap.size (by simp) hnb.out)).trans (by simp [go_sem]); clear hp1 ht1)
    | (go_at_call 45; refine (HI.out _ _ hb0.out HT1.out _ (by omega)).mono ?_; rintro e w2 ⟨rfl, hi2, ht2⟩; have HH : Hid (_ ∧ _) := HF.out _ _ _ hb0.out HT1.out HP1.out hi2 ht2; clear hi2 ht2))
  go_ret
  exact ⟨rfl, HH.out.1, HH.out.2⟩

set_option maxHeartbeats 2000000 in
set_option maxRecDepth 100000 in
theorem heldBag_u (n : Int) (v u : Value) (l : List Pk) (m k0 : Nat) (w : World) {lo hi : Nat} (h : BagR lo hi w v u (mkPs k0 l) (mkIs (k0 + mkN (cont l)) m)) (hhi : hi ≤ w.heap.size) (hl : l.length ≤ 1100000) (hb : bulk (cont l) ≤ 2200000) (hw : m ≤ 1048576) (hk0 : k0 ≤ 10000000) :
    Calls Try.prog 13 #[.agg #[.int .i64 n, v, u], .int .i64 k0] w fun e w' => e = .returned (.int .i64 ((k0 + mkN (cont l) + m : Nat) : Int)) ∧ Below w.heap.size w w' := by
  have hmn : mkN (cont l) ≤ 6000000 := by simp only [mkN, cont_len]; omega
  have HP : Hid (∀ w', Below w.heap.size w w' → Calls Try.prog 46 #[v, .int .i64 k0] w' fun r w'' => r = .returned (.int .i64 ((k0 + mkN (cont l) : Nat) : Int)) ∧ w'' = w') := fun w' hb' => heldPacketS_u v l k0 w' (h.below hb' hhi).pks hl hb hk0
  have HI : Hid (∀ w', Below w.heap.size w w' → ∀ z : Int, z = ((k0 + mkN (cont l) : Nat) : Int) → Calls Try.prog 47 #[u, .int .i64 z] w' fun r w'' => r = .returned (.int .i64 ((k0 + mkN (cont l) + m : Nat) : Int)) ∧ Below w'.heap.size w' w'') := fun w' hb' z hz => heldIntS_r u m z _ hz w' (h.below hb' hhi).ints hw (by omega)
  obtain ⟨a, cap, rfl⟩ := h.pks.sh
  obtain ⟨a2, cap2, rfl⟩ := h.ints.sh
  rw [mkPs_len, mkIs_len] at *
  clear h
  have hb0 : Hid (Below w.heap.size w (w.alloc (.cells #[.int .i64 n, .slice a l.length cap, .slice a2 m cap2] 29))) := (Below.refl _ _).alloc (Nat.le_refl _) _
  go_enter Try.func13, Try.ntmps13
  go_wp2_with (first
    | (go_at_call 46; refine (HP.out _ hb0.out).mono ?_; rintro e w1 ⟨rfl, rfl⟩)
    | (go_at_call 47; refine (HI.out _ hb0.out _ (by omega)).mono ?_; rintro e w2 ⟨rfl, hb2⟩; have HB2 : Hid (Below w.heap.size w w2) := hb0.out.trans (hb2.mono (by simp)); clear hb2))
  go_ret
  exact ⟨rfl, HB2.out⟩

set_option maxHeartbeats 2000000 in
set_option maxRecDepth 100000 in
theorem markPutAnswer_u (c i n : Int) (v u : Value) (l : List Pk) (ws : List Int) (w : World) {lo hi : Nat} (h : BagR lo hi w v u l ws) (hlo : lo ≤ w.heap.size) (hhi : hi ≤ w.heap.size) (hl : l.length ≤ 1100000) (hb : bulk (cont l) ≤ 2200000) (hw : ws.length ≤ 1048576) :
    Calls Try.prog 20 #[.agg #[.int .i64 c, .int .i64 i, .int .i64 n, v, u], .int .i64 1] w fun e w' => e = .returned (.int .i64 ((1 + mkN (cont l) + ws.length : Nat) : Int)) ∧ BagR lo hi w' v u (mkPs 1 l) (mkIs (1 + mkN (cont l)) ws.length) ∧ Turned lo hi w w' := by
  have HP : Hid (∀ w', Below w.heap.size w w' → Calls Try.prog 12 #[.agg #[.int .i64 n, v, u], .int .i64 1] w' fun e w'' => e = .returned (.int .i64 ((1 + mkN (cont l) + ws.length : Nat) : Int)) ∧ BagR lo hi w'' v u (mkPs 1 l) (mkIs (1 + mkN (cont l)) ws.length) ∧ Turned lo hi w w'') := fun w' hb' => (markBag_u n v u l ws 1 w' (h.below hb' hhi) (Nat.le_trans hlo hb'.size) (Nat.le_trans hhi hb'.size) hl hb hw (by omega)).mono fun e w'' hh => ⟨hh.1, hh.2.1, (Turned.of_below _ _ hb').trans hh.2.2⟩
  obtain ⟨a, cap, rfl⟩ := h.pks.sh
  obtain ⟨a2, cap2, rfl⟩ := h.ints.sh
  clear h
  have hb0 : Hid (Below w.heap.size w (w.alloc (.cells #[.int .i64 c, .int .i64 i, .int .i64 n, .slice a l.length cap, .slice a2 ws.length cap2] 37))) := (Below.refl _ _).alloc (Nat.le_refl _) _
  go_enter Try.func20, Try.ntmps20
  go_wp2_with (go_at_call 12; refine (HP.out _ hb0.out).mono ?_; rintro e w1 ⟨rfl, hr1, ht1⟩)
  go_ret
  exact ⟨rfl, hr1, ht1⟩

set_option maxHeartbeats 2000000 in
set_option maxRecDepth 100000 in
theorem heldPutAnswer_u (c i n : Int) (v u : Value) (l : List Pk) (m : Nat) (w : World) {lo hi : Nat} (h : BagR lo hi w v u (mkPs 1 l) (mkIs (1 + mkN (cont l)) m)) (hhi : hi ≤ w.heap.size) (hl : l.length ≤ 1100000) (hb : bulk (cont l) ≤ 2200000) (hw : m ≤ 1048576) :
    Calls Try.prog 21 #[.agg #[.int .i64 c, .int .i64 i, .int .i64 n, v, u], .int .i64 1] w fun e w' => e = .returned (.int .i64 ((1 + mkN (cont l) + m : Nat) : Int)) ∧ Below w.heap.size w w' := by
  have HP : Hid (∀ w', Below w.heap.size w w' → Calls Try.prog 13 #[.agg #[.int .i64 n, v, u], .int .i64 1] w' fun e w'' => e = .returned (.int .i64 ((1 + mkN (cont l) + m : Nat) : Int)) ∧ Below w'.heap.size w' w'') := fun w' hb' => heldBag_u n v u l m 1 w' (h.below hb' hhi) (Nat.le_trans hhi hb'.size) hl hb hw (by omega)
  obtain ⟨a, cap, rfl⟩ := h.pks.sh
  obtain ⟨a2, cap2, rfl⟩ := h.ints.sh
  rw [mkPs_len, mkIs_len] at *
  clear h
  have hb0 : Hid (Below w.heap.size w (w.alloc (.cells #[.int .i64 c, .int .i64 i, .int .i64 n, .slice a l.length cap, .slice a2 m cap2] 37))) := (Below.refl _ _).alloc (Nat.le_refl _) _
  go_enter Try.func21, Try.ntmps21
  go_wp2_with (go_at_call 13; refine (HP.out _ hb0.out).mono ?_; rintro e w1 ⟨rfl, hb1⟩; have HB1 : Hid (Below w.heap.size w w1) := hb0.out.trans (hb1.mono (by simp)); clear hb1)
  go_ret
  exact ⟨rfl, HB1.out⟩
end Go.Proofs.Ythondmpnleleiaa
