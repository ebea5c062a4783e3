/-
  The answer of a take: eq, mark, held.
-/
import Derived.Test.YthondmpnleleiaaPkLawU
namespace Go.Proofs.Ythondmpnleleiaa
open Go.RowKit
set_option linter.unusedVariables false
set_option linter.unusedSimpArgs false

/-- a packet's bytes and a bag, each in a span of its own -/
structure TkR (lo hi : Nat) (w : World) (pv : Value) (bs : List Int) (v u : Value) (l : List Pk) (ws : List Int) : Prop where
  ex : ∃ l1 h1 l2 h2, lo ≤ l1 ∧ l1 ≤ h1 ∧ h1 ≤ hi ∧ lo ≤ l2 ∧ h2 ≤ hi ∧ (h1 ≤ l2 ∨ h2 ≤ l1) ∧ BagR l1 h1 w v u l ws ∧ BytesN l2 h2 w pv bs
theorem TkR.keep {w w' : World} {lo hi : Nat} {pv : Value} {bs : List Int} {v u : Value} {l : List Pk} {ws : List Int} (h : TkR lo hi w pv bs v u l ws) (hk : ∀ k, lo ≤ k → k < hi → w'.heap[k]? = w.heap[k]?) : TkR lo hi w' pv bs v u l ws := by
  obtain ⟨l1, h1, l2, h2, g1, g0, g2, g3, g4, g5, hB, hY⟩ := h
  exact ⟨l1, h1, l2, h2, g1, g0, g2, g3, g4, g5, hB.keep fun k a b => hk k (by omega) (by omega), hY.keep fun k a b => hk k (by omega) (by omega)⟩
theorem TkR.wide {w : World} {lo hi lo' hi' : Nat} {pv : Value} {bs : List Int} {v u : Value} {l : List Pk} {ws : List Int} (h : TkR lo hi w pv bs v u l ws) (a1 : lo' ≤ lo) (a2 : hi ≤ hi') : TkR lo' hi' w pv bs v u l ws := by
  obtain ⟨l1, h1, l2, h2, g1, g0, g2, g3, g4, g5, hB, hY⟩ := h
  exact ⟨l1, h1, l2, h2, by omega, g0, by omega, by omega, by omega, g5, hB, hY⟩
theorem BytesN.nil (lo hi : Nat) (w : World) : BytesN lo hi w (.slice none 0 0) [] := ⟨Own.nil _ _, fun k e => by cases e⟩

/-- one that says what -/
structure TkD (lo hi : Nat) (w : World) (pa : Option Addr) (pn pc : Nat) (va : Option Addr) (n vc : Nat) (ua : Option Addr) (m uc : Nat) (bs : List Int) (pl : List Pkt) (ws : List Int) : Prop where
  hp : pn = bs.length
  hn : n = pl.length
  hm : m = ws.length
  ex : ∃ L, cont L = pl ∧ TkR lo hi w (.slice pa pn pc) bs (.slice va n vc) (.slice ua m uc) L ws
theorem TkD.keep {w w' : World} {lo hi : Nat} {pa : Option Addr} {pn pc : Nat} {va : Option Addr} {n vc : Nat} {ua : Option Addr} {m uc : Nat} {bs : List Int} {pl : List Pkt} {ws : List Int} (h : TkD lo hi w pa pn pc va n vc ua m uc bs pl ws) (hk : ∀ k, lo ≤ k → k < hi → w'.heap[k]? = w.heap[k]?) : TkD lo hi w' pa pn pc va n vc ua m uc bs pl ws := by
  obtain ⟨h0, h1, h2, L, h3, h4⟩ := h
  exact ⟨h0, h1, h2, L, h3, h4.keep hk⟩
theorem TkD.wide {w : World} {lo hi lo' hi' : Nat} {pa : Option Addr} {pn pc : Nat} {va : Option Addr} {n vc : Nat} {ua : Option Addr} {m uc : Nat} {bs : List Int} {pl : List Pkt} {ws : List Int} (h : TkD lo hi w pa pn pc va n vc ua m uc bs pl ws) (g1 : lo' ≤ lo) (g2 : hi ≤ hi') : TkD lo' hi' w pa pn pc va n vc ua m uc bs pl ws := by
  obtain ⟨h0, h1, h2, L, h3, h4⟩ := h
  exact ⟨h0, h1, h2, L, h3, h4.wide g1 g2⟩
/-- a marked one -/
structure TkM (lo hi : Nat) (w : World) (pa : Option Addr) (pn pc : Nat) (va : Option Addr) (n vc : Nat) (ua : Option Addr) (m uc : Nat) (pl : List Pkt) : Prop where
  ex : ∃ L, cont L = pl ∧ TkR lo hi w (.slice pa pn pc) (marksL 1 pn) (.slice va n vc) (.slice ua m uc) (mkPs (1 + pn) L) (mkIs (1 + pn + mkN (cont L)) m)
theorem TkM.keep {w w' : World} {lo hi : Nat} {pa : Option Addr} {pn pc : Nat} {va : Option Addr} {n vc : Nat} {ua : Option Addr} {m uc : Nat} {pl : List Pkt} (h : TkM lo hi w pa pn pc va n vc ua m uc pl) (hk : ∀ k, lo ≤ k → k < hi → w'.heap[k]? = w.heap[k]?) : TkM lo hi w' pa pn pc va n vc ua m uc pl := by
  obtain ⟨L, h3, h4⟩ := h
  exact ⟨L, h3, h4.keep hk⟩

set_option maxHeartbeats 2000000 in
set_option maxRecDepth 100000 in
theorem eqTakeAnswer_u (c o i f t n : Int) (pa pa' : Option Addr) (pn pc pc' : Nat) (va va' : Option Addr) (nl vc vc' : Nat) (ua ua' : Option Addr) (m uc uc' : Nat) (bs : List Int) (l L : List Pk) (ws : List Int) (w : World)
    (hp : Bs w (.slice pa pn pc) bs) (hp' : Bs w (.slice pa' pn pc') bs) {lo hi lo' hi' : Nat} (h : BagR lo hi w (.slice va nl vc) (.slice ua m uc) l ws) (h' : BagR lo' hi' w (.slice va' nl vc') (.slice ua' m uc') L ws) (hc : cont l = cont L) (hhi : hi ≤ w.heap.size) (hhi' : hi' ≤ w.heap.size) :
    Calls Try.prog 27 #[.agg #[.int .i64 c, .int .i64 o, .int .i64 i, .int .i64 f, .int .i64 t, .slice pa pn pc, .int .i64 n, .slice va nl vc, .slice ua m uc], .agg #[.int .i64 c, .int .i64 o, .int .i64 i, .int .i64 f, .int .i64 t, .slice pa' pn pc', .int .i64 n, .slice va' nl vc', .slice ua' m uc']] w fun e w' => e = .returned (.bool true) ∧ Below w.heap.size w w' := by
  have HP : Hid (∀ w', Below w.heap.size w w' → Calls Try.prog 63 #[.agg #[.int .i64 i, .int .i64 f, .int .i64 t, .slice pa pn pc], .agg #[.int .i64 i, .int .i64 f, .int .i64 t, .slice pa' pn pc']] w' fun e w'' => e = .returned (.bool true) ∧ Below w'.heap.size w' w'') := fun w' hb => eqPacket_same i f t _ _ _ _ _ _ bs w' (hp.below hb) (hp'.below hb)
  have HG : Hid (∀ w', Below w.heap.size w w' → Calls Try.prog 11 #[.agg #[.int .i64 n, .slice va nl vc, .slice ua m uc], .agg #[.int .i64 n, .slice va' nl vc', .slice ua' m uc']] w' fun e w'' => e = .returned (.bool true) ∧ Below w'.heap.size w' w'') := fun w' hb => eqBag_u n _ _ _ _ l L ws w' (h.below hb hhi) (h'.below hb hhi') hc
  clear h h' hc hp hp'
  have hb0 : Hid (Below w.heap.size w ((w.alloc (.cells #[.int .i64 c, .int .i64 o, .int .i64 i, .int .i64 f, .int .i64 t, .slice pa pn pc, .int .i64 n, .slice va nl vc, .slice ua m uc] 50)).alloc (.cells #[.int .i64 c, .int .i64 o, .int .i64 i, .int .i64 f, .int .i64 t, .slice pa' pn pc', .int .i64 n, .slice va' nl vc', .slice ua' m uc'] 50))) := ((Below.refl _ _).alloc (Nat.le_refl _) _).alloc (by simp) _
  go_enter Try.func27, Try.ntmps27
  go_wp2_with (first
    | (go_at_call 63; refine (HP.out _ hb0.out).mono ?_; rintro e w1 ⟨rfl, hb1⟩; have HB1 : Hid (Below w.heap.size w w1) := hb0.out.trans (hb1.mono (by simp; omega)); have x6 : w1.cell? ⟨w.heap.size, 6, none⟩ = some (.int .i64 n) := (hb1.cell (p := ⟨w.heap.size, 6, none⟩) (by simp <;> omega)).trans (by simp [go_sem]); have x7 : w1.cell? ⟨w.heap.size, 7, none⟩ = some (.slice va nl vc) := (hb1.cell (p := ⟨w.heap.size, 7, none⟩) (by simp <;> omega)).trans (by simp [go_sem]); have x8 : w1.cell? ⟨w.heap.size, 8, none⟩ = some (.slice ua m uc) := (hb1.cell (p := ⟨w.heap.size, 8, none⟩) (by simp <;> omega)).trans (by simp [go_sem]); have y6 : w1.cell? ⟨w.heap.size + 1, 6, none⟩ = some (.int .i64 n) := (hb1.cell (p := ⟨w.heap.size + 1, 6, none⟩) (by simp <;> omega)).trans (by simp [go_sem]); have y7 : w1.cell? ⟨w.heap.size + 1, 7, none⟩ = some (.slice va' nl vc') := (hb1.cell (p := ⟨w.heap.size + 1, 7, none⟩) (by simp <;> omega)).trans (by simp [go_sem]); have y8 : w1.cell? ⟨w.heap.size + 1, 8, none⟩ = some (.slice ua' m uc') := (hb1.cell (p := ⟨w.heap.size + 1, 8, none⟩) (by simp <;> omega)).trans (by simp [go_sem]); clear hb1)
    | (go_at_call 11; refine (HG.out _ HB1.out).mono ?_; rintro e w2 ⟨rfl, hb2⟩; have HB2 : Hid (Below w.heap.size w w2) := HB1.out.trans (hb2.mono HB1.out.size); clear hb2))
  go_ret
  exact ⟨rfl, HB2.out⟩
theorem eqTakeAnswer_d (c o i f t N : Int) (pa : Option Addr) (pn pc : Nat) (va : Option Addr) (n vc : Nat) (ua : Option Addr) (m uc : Nat) (pa' : Option Addr) (pc' : Nat) (va' : Option Addr) (vc' : Nat) (ua' : Option Addr) (uc' : Nat) (bs : List Int) (pl : List Pkt) (ws : List Int) (w : World) {lo hi lo' hi' : Nat} (h : TkD lo hi w pa pn pc va n vc ua m uc bs pl ws) (h' : TkD lo' hi' w pa' pn pc' va' n vc' ua' m uc' bs pl ws) (hhi : hi ≤ w.heap.size) (hhi' : hi' ≤ w.heap.size) (hbs : bs.length ≤ maxLen) :
    Calls Try.prog 27 #[.agg #[.int .i64 c, .int .i64 o, .int .i64 i, .int .i64 f, .int .i64 t, .slice pa pn pc, .int .i64 N, .slice va n vc, .slice ua m uc], .agg #[.int .i64 c, .int .i64 o, .int .i64 i, .int .i64 f, .int .i64 t, .slice pa' pn pc', .int .i64 N, .slice va' n vc', .slice ua' m uc']] w fun e w' => e = .returned (.bool true) ∧ Below w.heap.size w w' := by
  obtain ⟨_, _, _, L, h3, l1, h1, l2, h2, g1, g0, g2, g3, g4, g5, hB, hY⟩ := h
  obtain ⟨_, _, _, L', h3', l1', h1', l2', h2', g1', g0', g2', g3', g4', g5', hB', hY'⟩ := h'
  exact eqTakeAnswer_u c o i f t N _ _ _ _ _ _ _ _ _ _ _ _ _ _ _ bs L L' ws w (hY.bs hbs) (hY'.bs hbs) hB hB' (by rw [h3, h3']) (by omega) (by omega)

set_option maxHeartbeats 2000000 in
set_option maxRecDepth 100000 in
theorem markPacket_u (i f t : Int) (a : Option Addr) (cap : Nat) (bs : List Int) (w : World) {lo hi : Nat} (h : BytesN lo hi w (.slice a bs.length cap) bs) (hl : bs.length ≤ 1048576) :
    Calls Try.prog 64 #[.agg #[.int .i64 i, .int .i64 f, .int .i64 t, .slice a bs.length cap], .int .i64 1] w fun e w' => e = .returned (.int .i64 ((1 + bs.length : Nat) : Int)) ∧ BytesN lo hi w' (.slice a bs.length cap) (marksL 1 bs.length) ∧ Turned lo hi w w' := by
  have HP : Hid (∀ w', Below w.heap.size w w' → Calls Try.prog 19 #[.slice a bs.length cap, .int .i64 1] w' fun e w'' => e = .returned (.int .i64 ((1 + bs.length : Nat) : Int)) ∧ BytesN lo hi w'' (.slice a bs.length cap) (marksL 1 bs.length) ∧ Turned lo hi w w'') := fun w' hb => by
    have ho : Own w' lo (.slice a bs.length cap) bs := h.own.block fun k e => hb.block k (h.own.2.lt k e).2
    refine (markByteS_any _ bs 1 w' lo ho (by omega) (by omega)).mono fun e w'' ⟨h1, h2, h3⟩ => ⟨h1, ⟨h2, h.lt⟩, (Turned.of_below lo hi hb).trans (Turned.rows h3 fun k e => h.lt k e)⟩
  clear h
  have hb0 : Hid (Below w.heap.size w (w.alloc (.cells #[.int .i64 i, .int .i64 f, .int .i64 t, .slice a bs.length cap] 48))) := (Below.refl _ _).alloc (Nat.le_refl _) _
  go_enter Try.func64, Try.ntmps64
  go_wp2_with (go_at_call 19; refine (HP.out _ hb0.out).mono ?_; rintro e w1 ⟨rfl, hr1, ht1⟩; have HR1 : Hid (_ ∧ _) := And.intro hr1 ht1; clear hr1 ht1)
  go_ret
  exact ⟨rfl, HR1.out.1, HR1.out.2⟩
set_option maxHeartbeats 2000000 in
set_option maxRecDepth 100000 in
theorem heldPacket_u (i f t : Int) (a : Option Addr) (pn cap : Nat) (w : World) (h : Bs w (.slice a pn cap) (marksL 1 pn)) (hl : pn ≤ 1048576) :
    Calls Try.prog 65 #[.agg #[.int .i64 i, .int .i64 f, .int .i64 t, .slice a pn cap], .int .i64 1] w fun e w' => e = .returned (.int .i64 ((1 + pn : Nat) : Int)) ∧ Below w.heap.size w w' := by
  have HP : Hid (∀ w', Below w.heap.size w w' → Calls Try.prog 73 #[.slice a pn cap, .int .i64 1] w' fun e w'' => e = .returned (.int .i64 ((1 + pn : Nat) : Int)) ∧ w'' = w') := fun w' hb => heldByteS_any _ 1 pn w' (h.below hb) (by omega) (by omega)
  clear h
  have hb0 : Hid (Below w.heap.size w (w.alloc (.cells #[.int .i64 i, .int .i64 f, .int .i64 t, .slice a pn cap] 48))) := (Below.refl _ _).alloc (Nat.le_refl _) _
  go_enter Try.func65, Try.ntmps65
  go_wp2_with (go_at_call 73; refine (HP.out _ hb0.out).mono ?_; rintro e w1 ⟨rfl, rfl⟩)
  go_ret
  exact ⟨rfl, hb0.out⟩

theorem BagR.far2 {w w' : World} {lo hi l1 h1 : Nat} {v u : Value} {l : List Pk} {ws : List Int} (h : BagR l1 h1 w v u l ws) (ht : Turned lo hi w w') (hd : h1 ≤ lo ∨ hi ≤ l1) (hs : h1 ≤ w.heap.size) : BagR l1 h1 w' v u l ws := h.keep fun k a b => ht.block k (by omega) (by omega)
theorem BytesN.far2 {w w' : World} {lo hi l1 h1 : Nat} {v : Value} {l : List Int} (h : BytesN l1 h1 w v l) (ht : Turned lo hi w w') (hd : h1 ≤ lo ∨ hi ≤ l1) (hs : h1 ≤ w.heap.size) : BytesN l1 h1 w' v l := h.keep fun k a b => ht.block k (by omega) (by omega)
set_option maxHeartbeats 2000000 in
set_option maxRecDepth 100000 in
theorem markTakeAnswer_d (c o i f t N : Int) (pa : Option Addr) (pn pc : Nat) (va : Option Addr) (n vc : Nat) (ua : Option Addr) (m uc : Nat) (bs : List Int) (pl : List Pkt) (ws : List Int) (w : World) {lo hi : Nat} (h : TkD lo hi w pa pn pc va n vc ua m uc bs pl ws) (hlo : lo ≤ w.heap.size) (hhi : hi ≤ w.heap.size) (hbs : bs.length ≤ 1048576) (hp : pl.length ≤ 1100000) (hp2 : bulk pl ≤ 2200000) (hw : ws.length ≤ 1048576) :
    Calls Try.prog 28 #[.agg #[.int .i64 c, .int .i64 o, .int .i64 i, .int .i64 f, .int .i64 t, .slice pa pn pc, .int .i64 N, .slice va n vc, .slice ua m uc], .int .i64 1] w fun e w' => e = .returned (.int .i64 ((1 + pn + mkN pl + m : Nat) : Int)) ∧ TkM lo hi w' pa pn pc va n vc ua m uc pl ∧ Turned lo hi w w' := by
  obtain ⟨rfl, hn', rfl, L, rfl, l1, h1, l2, h2, g1, g0, g2, g3, g4, g5, hB, hY⟩ := h
  rw [cont_len] at hp
  clear hn'
  have HP : Hid (∀ w', Below w.heap.size w w' → Calls Try.prog 64 #[.agg #[.int .i64 i, .int .i64 f, .int .i64 t, .slice pa bs.length pc], .int .i64 1] w' fun e w'' => e = .returned (.int .i64 ((1 + bs.length : Nat) : Int)) ∧ BytesN l2 h2 w'' (.slice pa bs.length pc) (marksL 1 bs.length) ∧ Turned l2 h2 w' w'') := fun w' hb => markPacket_u i f t pa pc bs w' (hY.keep fun k a b => hb.block k (by omega)) hbs
  have HG : Hid (∀ w' w'', Below w.heap.size w w' → Turned l2 h2 w' w'' → ∀ z : Int, z = ((1 + bs.length : Nat) : Int) → Calls Try.prog 12 #[.agg #[.int .i64 N, .slice va n vc, .slice ua ws.length uc], .int .i64 z] w'' fun e w3 => e = .returned (.int .i64 ((1 + bs.length + mkN (cont L) + ws.length : Nat) : Int)) ∧ BagR l1 h1 w3 (.slice va n vc) (.slice ua ws.length uc) (mkPs (1 + bs.length) L) (mkIs (1 + bs.length + mkN (cont L)) ws.length) ∧ Turned l1 h1 w'' w3) := fun w' w'' hb ht z hz => by
    subst hz
    have hs := hb.size
    have hs2 := ht.size
    have hB2 : BagR l1 h1 w'' (.slice va n vc) (.slice ua ws.length uc) L ws := (hB.keep fun k a b => hb.block k (by omega)).far2 ht g5 (by omega)
    exact markBag_u N _ _ L ws (1 + bs.length) w'' hB2 (by omega) (by omega) hp hp2 hw (by omega)
  have HF : Hid (∀ w' w'' w3, Below w.heap.size w w' → BytesN l2 h2 w'' (.slice pa bs.length pc) (marksL 1 bs.length) → Turned l2 h2 w' w'' → BagR l1 h1 w3 (.slice va n vc) (.slice ua ws.length uc) (mkPs (1 + bs.length) L) (mkIs (1 + bs.length + mkN (cont L)) ws.length) → Turned l1 h1 w'' w3 → TkM lo hi w3 pa bs.length pc va n vc ua ws.length uc (cont L) ∧ Turned lo hi w w3) := fun w' w'' w3 hb hY' t1 hB' t2 => by
    have hs := hb.size
    have hs2 := t1.size
    exact ⟨⟨L, rfl, l1, h1, l2, h2, g1, g0, g2, g3, g4, g5, hB', hY'.far2 t2 (by omega) (by omega)⟩, (Turned.of_below lo hi hb).trans ((t1.wide g3 g4).trans (t2.wide g1 g2))⟩
  clear hB hY
  have hb0 : Hid (Below w.heap.size w (w.alloc (.cells #[.int .i64 c, .int .i64 o, .int .i64 i, .int .i64 f, .int .i64 t, .slice pa bs.length pc, .int .i64 N, .slice va n vc, .slice ua ws.length uc] 50))) := (Below.refl _ _).alloc (Nat.le_refl _) _
  have hso : h2 ≤ w.heap.size := by omega
  go_enter Try.func28, Try.ntmps28
  go_wp2_with (first
    | (go_at_call 64; refine (HP.out _ hb0.out).mono ?_; rintro e w1 ⟨rfl, hy1, ht1⟩; have HY1 : Hid (BytesN l2 h2 w1 (.slice pa bs.length pc) (marksL 1 bs.length)) := hy1; have HT1 : Hid (Turned l2 h2 _ w1) := ht1; have x6 : w1.cell? ⟨w.heap.size, 6, none⟩ = some (.int .i64 N) := (ht1.cell (b := w.heap.size) (o := 6) (by simp) (Or.inr hso)).trans (by simp [go_sem]); have x7 : w1.cell? ⟨w.heap.size, 7, none⟩ = some (.slice va n vc) := (ht1.cell (b := w.heap.size) (o := 7) (by simp) (Or.inr hso)).trans (by simp [go_sem]); have x8 : w1.cell? ⟨w.heap.size, 8, none⟩ = some (.slice ua ws.length uc) := (ht1.cell (b := w.heap.size) (o := 8) (by simp) (Or.inr hso)).trans (by simp [go_sem]); clear hy1 ht1)
    | (go_at_call 12; refine (HG.out _ _ hb0.out HT1.out _ (by omega)).mono ?_; rintro e w2 ⟨rfl, hb2, ht2⟩; have HH : Hid (_ ∧ _) := HF.out _ _ _ hb0.out HY1.out HT1.out hb2 ht2; clear hb2 ht2))
  go_ret
  exact ⟨rfl, HH.out.1, HH.out.2⟩

set_option maxHeartbeats 2000000 in
set_option maxRecDepth 100000 in
theorem heldTakeAnswer_d (c o i f t N : Int) (pa : Option Addr) (pn pc : Nat) (va : Option Addr) (n vc : Nat) (ua : Option Addr) (m uc : Nat) (pl : List Pkt) (w : World) {lo hi : Nat} (h : TkM lo hi w pa pn pc va n vc ua m uc pl) (hhi : hi ≤ w.heap.size) (hbs : pn ≤ 1048576) (hp : pl.length ≤ 1100000) (hp2 : bulk pl ≤ 2200000) (hw : m ≤ 1048576) :
    Calls Try.prog 29 #[.agg #[.int .i64 c, .int .i64 o, .int .i64 i, .int .i64 f, .int .i64 t, .slice pa pn pc, .int .i64 N, .slice va n vc, .slice ua m uc], .int .i64 1] w fun e w' => e = .returned (.int .i64 ((1 + pn + mkN pl + m : Nat) : Int)) ∧ Below w.heap.size w w' := by
  obtain ⟨L, rfl, l1, h1, l2, h2, g1, g0, g2, g3, g4, g5, hB, hY⟩ := h
  rw [cont_len] at hp
  have HP : Hid (∀ w', Below w.heap.size w w' → Calls Try.prog 65 #[.agg #[.int .i64 i, .int .i64 f, .int .i64 t, .slice pa pn pc], .int .i64 1] w' fun e w'' => e = .returned (.int .i64 ((1 + pn : Nat) : Int)) ∧ Below w'.heap.size w' w'') := fun w' hb => heldPacket_u i f t pa pn pc w' ((hY.bs (by rw [marksL_len]; unfold maxLen; omega)).below hb) hbs
  have HG : Hid (∀ w', Below w.heap.size w w' → ∀ z : Int, z = ((1 + pn : Nat) : Int) → Calls Try.prog 13 #[.agg #[.int .i64 N, .slice va n vc, .slice ua m uc], .int .i64 z] w' fun e w'' => e = .returned (.int .i64 ((1 + pn + mkN (cont L) + m : Nat) : Int)) ∧ Below w'.heap.size w' w'') := fun w' hb z hz => by
    subst hz
    have := hb.size
    exact heldBag_u N _ _ L m (1 + pn) w' (hB.keep fun k a b => hb.block k (by omega)) (by omega) hp hp2 hw (by omega)
  clear hB hY
  have hb0 : Hid (Below w.heap.size w (w.alloc (.cells #[.int .i64 c, .int .i64 o, .int .i64 i, .int .i64 f, .int .i64 t, .slice pa pn pc, .int .i64 N, .slice va n vc, .slice ua m uc] 50))) := (Below.refl _ _).alloc (Nat.le_refl _) _
  go_enter Try.func29, Try.ntmps29
  go_wp2_with (first
    | (go_at_call 65; refine (HP.out _ hb0.out).mono ?_; rintro e w1 ⟨rfl, hb1⟩; have HB1 : Hid (Below w.heap.size w w1) := hb0.out.trans (hb1.mono (by simp)); have x6 : w1.cell? ⟨w.heap.size, 6, none⟩ = some (.int .i64 N) := (hb1.cell (p := ⟨w.heap.size, 6, none⟩) (by simp)).trans (by simp [go_sem]); have x7 : w1.cell? ⟨w.heap.size, 7, none⟩ = some (.slice va n vc) := (hb1.cell (p := ⟨w.heap.size, 7, none⟩) (by simp)).trans (by simp [go_sem]); have x8 : w1.cell? ⟨w.heap.size, 8, none⟩ = some (.slice ua m uc) := (hb1.cell (p := ⟨w.heap.size, 8, none⟩) (by simp)).trans (by simp [go_sem]); clear hb1)
    | (go_at_call 13; refine (HG.out _ HB1.out _ (by omega)).mono ?_; rintro e w2 ⟨rfl, hb2⟩; have HB2 : Hid (Below w.heap.size w w2) := HB1.out.trans (hb2.mono HB1.out.size); clear hb2))
  go_ret
  exact ⟨rfl, HB2.out⟩
end Go.Proofs.Ythondmpnleleiaa
