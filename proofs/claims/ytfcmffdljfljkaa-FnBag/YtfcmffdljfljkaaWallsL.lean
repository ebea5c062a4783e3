/-
  laws.walls: a wall put up and taken down (its head: the bag with the wall up, and two packets kept out).
-/
import Derived.Test.YtfcmffdljfljkaaGround2
import Derived.Test.YtfcmffdljfljkaaFnBagLaw
namespace Go.Proofs.Ytfcmffdljfljkaa
open Go.RowKit
set_option linter.unusedVariables false
set_option linter.unusedSimpArgs false

/-- the bag, and the bag with the wall up -/
structure TwoB (w0 w : World) (q p : Nat) (n : Int) (ra : Option Addr) (m rc : Nat) (ua : Option Addr) (nu uc : Nat) (va : Option Addr) (vc : Nat) (ub : Option Addr) (n2 ud : Nat) (L L2 : List Pk) (pl : List Pkt) (W W2 : List Int) : Prop where
  b1 : Blk w q #[.int .i64 n, .slice ra m rc, .slice ua nu uc] 29
  b2 : Blk w p #[.int .i64 n, .slice va m vc, .slice ub n2 ud] 29
  hm : m = L.length
  hm2 : m = L2.length
  hnu : nu = W.length
  hn2 : n2 = W2.length
  p1 : Pks w (.slice ra m rc) L
  p2 : Pks w (.slice va m vc) L2
  i1 : Ix w (.slice ua nu uc) W
  i2 : Ix w (.slice ub n2 ud) W2
  c1 : cont L = pl
  c2 : cont L2 = pl
  bel : Below w0.heap.size w0 w
theorem TwoB.below {w0 w w' : World} {q p : Nat} {n : Int} {ra : Option Addr} {m rc : Nat} {ua : Option Addr} {nu uc : Nat} {va : Option Addr} {vc : Nat} {ub : Option Addr} {n2 ud : Nat} {L L2 : List Pk} {pl : List Pkt} {W W2 : List Int} (h : TwoB w0 w q p n ra m rc ua nu uc va vc ub n2 ud L L2 pl W W2) (hb : Below w.heap.size w w') : TwoB w0 w' q p n ra m rc ua nu uc va vc ub n2 ud L L2 pl W W2 :=
  ⟨h.b1.below hb h.b1.lt, h.b2.below hb h.b2.lt, h.hm, h.hm2, h.hnu, h.hn2, h.p1.below hb, h.p2.below hb, h.i1.below hb, h.i2.below hb, h.c1, h.c2, h.bel.trans (hb.mono h.bel.size)⟩
/-- a packet from or tq the server behind the wall -/
theorem TwoB.put {w0 w : World} {q p : Nat} {n : Int} {ra : Option Addr} {m rc : Nat} {ua : Option Addr} {nu uc : Nat} {va : Option Addr} {vc : Nat} {ub : Option Addr} {n2 ud : Nat} {L L2 : List Pk} {pl : List Pkt} {W W2 : List Int} (h : TwoB w0 w q p n ra m rc ua nu uc va vc ub n2 ud L L2 pl W W2) (hok : bagB n pl W2 = true) (hl : pl.length + bulk pl ≤ 1000000) (hw : W2.length ≤ 1048576) (f t : Int) (hf : pkF f t 1 = true) (hc : (W2.contains f || W2.contains t) = true) (a : Option Addr) (c : Nat) (hy : Bs w (.slice a 1 c) [1]) :
    Calls Try.prog 17 #[.agg #[.int .i64 n, .slice va m vc, .slice ub n2 ud], .int .i64 f, .int .i64 t, .slice a 1 c] w fun e w' => ∃ x1 x2 x3 x4, e = .returned (.agg #[.int .i64 3, x1, x2, x3, x4]) ∧ Below w.heap.size w w' := by
  obtain ⟨_, _, _, hm2, _, rfl, _, hp, _, hi, _, rfl, _⟩ := h
  subst hm2
  have hl' : L2.length + bulk (cont L2) ≤ 1048576 := by rw [cont_len] at hl; omega
  have hx := bagPut_any n va vc ub ud L2 W2 f t a c [1] w hp hi hy hl' hw (by simp)
  rw [put_walled hok f t [1] hf hc] at hx
  exact hx.mono fun e w' ⟨_, _, _, _, _, he, _, _, hb⟩ => ⟨_, _, _, _, he, hb⟩

theorem riseB_lenW (most : Int) : ∀ (l : List Int) (last : Int), riseB most last l = true → last ≤ most → (l.length : Int) ≤ most - last
  | [], last, _, h => by simp; omega
  | x :: l, last, h, hm => by
    simp only [riseB, Bool.and_eq_true, inB_iff] at h
    have := riseB_lenW most l x h.2 h.1.2
    simp only [List.length_cons]
    omega
theorem bs_oneW (u : World) (t : TypeId) : Bs (u.alloc (.cells #[.int .u8 1] t)) (.slice (some ⟨u.heap.size, 0, none⟩) 1 1) [1] := by
  have hc := (Blk.new u #[.int .u8 1] t).cell 0
  refine ⟨by unfold maxLen; simp, by simp, _, _, rfl, fun i hi => ⟨_, _, rfl, fun j hj => ?_⟩⟩
  have : j = 0 := by simp at hj; exact hj
  subst this
  exact hc
def lostB (fr dst id : Int) (W : List Int) (j : Nat) : Bool := (decide (fr = id) || decide (dst = id)) || (W.take j).any (fun x => decide (fr = x) || decide (dst = x))
theorem lostB_succ (fr dst id : Int) (W : List Int) (j : Nat) (h : j < W.length) : lostB fr dst id W (j + 1) = (lostB fr dst id W j || (decide (fr = W[j]) || decide (dst = W[j]))) := by
  unfold lostB
  rw [List.take_succ_eq_append_getElem h, List.any_append]
  simp [Bool.or_assoc]
theorem any_two (fr dst : Int) : ∀ W : List Int, W.any (fun x => decide (fr = x) || decide (dst = x)) = (W.contains fr || W.contains dst)
  | [] => rfl
  | x :: W => by
    rw [List.any_cons, any_two fr dst W, List.contains_cons, List.contains_cons]
    have e1 : (fr == x) = decide (fr = x) := by by_cases h : fr = x <;> simp [h]
    have e2 : (dst == x) = decide (dst = x) := by by_cases h : dst = x <;> simp [h]
    rw [e1, e2]
    cases decide (fr = x) <;> cases decide (dst = x) <;> cases W.contains fr <;> cases W.contains dst <;> rfl
theorem lostB_all (fr dst id : Int) (W : List Int) (j : Nat) (h : j = W.length) : lostB fr dst id W j = ((decide (fr = id) || W.contains fr) || (decide (dst = id) || W.contains dst)) := by
  unfold lostB
  rw [h, List.take_length, any_two]
  cases decide (fr = id) <;> cases decide (dst = id) <;> cases W.contains fr <;> cases W.contains dst <;> rfl
theorem ix_at {w : World} {a : Option Addr} {m c : Nat} {l : List Int} (h : Ix w (.slice a m c) l) (k : Nat) (hk : k < l.length) : ∃ b off, a = some ⟨b, off, none⟩ ∧ w.cell? ⟨b, off + k, none⟩ = some (.int .i64 l[k]) := by
  obtain ⟨_, a', cap, e, hj⟩ := h
  injection e with e1 e2 e3
  subst e1
  obtain ⟨b, off, rfl, hat⟩ := hj k hk
  exact ⟨b, off, rfl, hat k hk⟩

def fndB (y id : Int) (W3 : List Int) (j : Nat) : Bool := decide (y = id) || (W3.take j).any (fun x => decide (x = y))
theorem fndB_succ (y id : Int) (W : List Int) (j : Nat) (h : j < W.length) : fndB y id W (j + 1) = (fndB y id W j || decide (W[j] = y)) := by
  unfold fndB
  rw [List.take_succ_eq_append_getElem h, List.any_append]
  simp [Bool.or_assoc]
theorem fndB_all (y id : Int) (W : List Int) (j : Nat) (h : j = W.length) (hy : y = id ∨ y ∈ W) : fndB y id W j = true := by
  unfold fndB
  rw [h, List.take_length]
  rcases hy with hy | hy
  · simp [hy]
  · simp [hy]

structure ThreeB (w0 w : World) (q : Nat) (n : Int) (ra : Option Addr) (m rc : Nat) (ua : Option Addr) (nu uc : Nat) (W : List Int) (p : Nat) (xa : Option Addr) (xc : Nat) (xb : Option Addr) (n3 xd : Nat) (W3 : List Int) : Prop where
  b1 : Blk w q #[.int .i64 n, .slice ra m rc, .slice ua nu uc] 29
  b3 : Blk w p #[.int .i64 n, .slice xa m xc, .slice xb n3 xd] 29
  i1 : Ix w (.slice ua nu uc) W
  i3 : Ix w (.slice xb n3 xd) W3
  bel : Below w0.heap.size w0 w

theorem pks_at {w : World} {a : Option Addr} {m c : Nat} {L : List Pk} {pl : List Pkt} (h : Pks w (.slice a m c) L) (hc : cont L = pl) (k : Nat) (hk : k < pl.length) : ∃ b off, a = some ⟨b, off, none⟩ ∧ w.cell? ⟨b, off + k * 4, none⟩ = some (.int .i64 pl[k].id) ∧ w.cell? ⟨b, off + k * 4 + 1, none⟩ = some (.int .i64 pl[k].fr) ∧ w.cell? ⟨b, off + k * 4 + 2, none⟩ = some (.int .i64 pl[k].tq) := by
  subst hc
  have hk' : k < L.length := by rw [cont_len] at hk; exact hk
  obtain ⟨_, _, a', cap, e, hj⟩ := h
  injection e with e1 e2 e3
  subst e1
  obtain ⟨b, off, rfl, hat⟩ := hj k hk'
  have := hat k hk'
  exact ⟨b, off, rfl, by simpa [cont] using this.1, by simpa [cont] using this.2.1, by simpa [cont] using this.2.2.1⟩
theorem TwoB.take {w0 w : World} {q p : Nat} {n : Int} {ra : Option Addr} {m rc : Nat} {ua : Option Addr} {nu uc : Nat} {va : Option Addr} {vc : Nat} {ub : Option Addr} {n2 ud : Nat} {L L2 : List Pk} {pl : List Pkt} {W W2 : List Int} (h : TwoB w0 w q p n ra m rc ua nu uc va vc ub n2 ud L L2 pl W W2) (hok : bagB n pl W2 = true) (hl : pl.length + bulk pl ≤ 1000000) (hw : W2.length ≤ 1048576) (k : Nat) (hk : k < pl.length) :
    Calls Try.prog 31 #[.agg #[.int .i64 n, .slice va m vc, .slice ub n2 ud], .int .i64 k, .int .i64 0] w fun e w' => ∃ pa pn pd xa xn xc xb xm xd, e = .returned (.agg #[.int .i64 0, .int .i64 (if W2.contains pl[k].fr || W2.contains pl[k].tq then 1 else 0), .int .i64 pl[k].id, .int .i64 pl[k].fr, .int .i64 pl[k].tq, .slice pa pn pd, .int .i64 n, .slice xa xn xc, .slice xb xm xd]) ∧ xn + 1 = m ∧ Below w.heap.size w w' := by
  obtain ⟨_, _, _, hm2, _, rfl, _, hp, _, hi, _, rfl, _⟩ := h
  subst hm2
  have hkl : k < L2.length := by rw [cont_len] at hk; exact hk
  have hl' : L2.length + bulk (cont L2) ≤ 1048576 := by rw [cont_len] at hl; omega
  have hx := bagTake_any n va vc ub ud L2 W2 k 0 (by omega) (by omega) w hp hi hl' hw
  rw [take_at hok k hk] at hx
  refine hx.mono fun e w' ⟨pa, pc, xa, xc, xb, xd, L3, he, hc, hr, hb⟩ => ⟨_, _, _, _, _, _, _, _, _, he, ?_, hb⟩
  have := congrArg List.length hc
  rw [cont_len] at this
  dsimp only at this
  rw [List.length_eraseIdx, cont_len] at this
  simp [hkl] at this
  omega

set_option maxHeartbeats 16000000 in
set_option maxRecDepth 100000 in
theorem walls_walk (w : World) (n : Int) (ra : Option Addr) (m rc : Nat) (ua : Option Addr) (nu uc : Nat) (L : List Pk) (pl : List Pkt) (W : List Int) (id : Int) (hm : m = L.length) (hnu : nu = W.length) (hp : Pks w (.slice ra m rc) L) (hi : Ix w (.slice ua nu uc) W) (hct : cont L = pl) (hok : bagB n pl W = true) (hbl : pl.length + bulk pl ≤ 1000000) (hm5 : m ≤ 500) (hid1 : 1 ≤ id) (hid7 : id ≤ 7) :
    Calls Try.prog 33 #[.agg #[.int .i64 n, .slice ra m rc, .slice ua nu uc], .int .i64 id] w fun e w' => e = .returned (.bool true) ∧ Below w.heap.size w w' := by
  have hR := bagB_rise hok
  have hWl : W.length ≤ 1048576 := by have := riseB_lenW 7 W 0 hR (by omega); omega
  obtain ⟨W2, hW2⟩ : ∃ l, l = wallsNew W id true 7 := ⟨_, rfl⟩
  obtain ⟨n2, hn2⟩ : ∃ k, k = W2.length := ⟨_, rfl⟩
  have hn27 : n2 ≤ 7 := by rw [hn2, hW2]; exact wallsNew_len W id true 7
  have HW2 : Hid (W2 = wallsNew W id true 7) := hW2
  have HN2 : Hid (n2 = W2.length) := hn2
  have HOK : Hid (bagB n pl W = true) := hok
  have HOK2 : Hid (bagB n pl W2 = true) := (by rw [hW2]; exact bagB_walls hok (wallsNew_rise W id true) : bagB n pl W2 = true)
  have HBL : Hid (pl.length + bulk pl ≤ 1000000) := hbl
  have HID2 : Hid (W2.contains id = true) := (by rw [hW2, up_mem hR id hid1 hid7]; simp : W2.contains id = true)
  have HB0 : Hid (Below w.heap.size w (w.alloc (.cells #[.int .i64 n, .slice ra m rc, .slice ua nu uc] 29))) := (Below.refl _ _).alloc (Nat.le_refl _) _
  have HQ0 : Hid (Blk (w.alloc (.cells #[.int .i64 n, .slice ra m rc, .slice ua nu uc] 29)) w.heap.size #[.int .i64 n, .slice ra m rc, .slice ua nu uc] 29) := Blk.new _ _ _
  have HUP : Hid (∀ u : World, Below w.heap.size w u → Calls Try.prog 11 #[.agg #[.int .i64 n, .slice ra m rc, .slice ua nu uc], .int .i64 id, .int .i64 1] u fun e w' => ∃ va vc ub ud L2, e = .returned (.agg #[.int .i64 n, .slice va m vc, .slice ub n2 ud]) ∧ m = L2.length ∧ cont L2 = pl ∧ Pks w' (.slice va m vc) L2 ∧ Ix w' (.slice ub n2 ud) W2 ∧ Below u.heap.size u w') := fun u hu => by
    have hx := bagWall_any n id 1 ra rc ua uc L W u (by rw [← hm]; exact hp.below hu) (by rw [← hnu]; exact hi.below hu) (by rw [hct, ← cont_len, hct]; omega) hWl
    have ha : wallAns n (cont L) W id 1 = (n, pl, W2) := by
      rw [hct]
      unfold wallAns
      rw [hok, if_neg (by simp), if_pos ((inB_iff _ _ _).2 ⟨hid1, hid7⟩), hW2]
      rfl
    rw [ha, ← hm, ← hnu] at hx
    refine hx.mono fun e w' ⟨va, vc, ub, ud, L2, he, hc, hr, hb⟩ => ?_
    dsimp only at he hc hr
    have hl2 : m = L2.length := by rw [← cont_len, hc, ← hct, cont_len]; exact hm
    rw [← hl2, ← hn2] at he hr
    exact ⟨va, vc, ub, ud, L2, he, hl2, hc, hr.pks.pks, hr.ints.ix, hb⟩
  have HP : Hid (Pks w (.slice ra m rc) L) := hp
  have HI : Hid (Ix w (.slice ua nu uc) W) := hi
  have HM : Hid (m = L.length) := hm
  have HNU : Hid (nu = W.length) := hnu
  have HCT : Hid (cont L = pl) := hct
  have hnl : nu ≤ 1048576 := by omega
  have htm : id.tmod 7 = id % 7 := Int.tmod_eq_emod_of_nonneg (by omega)
  have hwb : IntKind.i64.wrap (id % 7) = id % 7 := by rw [IntKind.wrap_i64] <;> omega
  have hwc : IntKind.i64.wrap (1 + id % 7) = 1 + id % 7 := by rw [IntKind.wrap_i64] <;> omega
  clear hp hi hm hnu hct hok hbl hW2 hn2 hR hWl
  go_enter Try.func33, Try.ntmps33
  have G1 : True := trivial
  go_upto_region 2 with (first
    | (have hG1 := G1; refine gate_ld 29 (.tmp 2) rfl ?_; clear hG1 G1; refine wpl_load_blk rfl 29 (.tmp 2) rfl w.heap.size rfl HQ0.out Try.underlying29 rfl infoBagB rfl ?_)
    | (go_at_call 11; refine (HUP.out _ HB0.out).mono ?_; rintro e w1 ⟨va, vc, ub, ud, L2, rfl, hl2, hc2, hp2, hi2, hb1⟩; have hal : Below w1.heap.size w1 (w1.alloc (.cells #[.int .i64 n, .slice va m vc, .slice ub n2 ud] 29)) := (Below.refl _ _).alloc (Nat.le_refl _) _; have HT : Hid (TwoB w (w1.alloc (.cells #[.int .i64 n, .slice va m vc, .slice ub n2 ud] 29)) w.heap.size w1.heap.size n ra m rc ua nu uc va vc ub n2 ud L L2 pl W W2) := ⟨(HQ0.out.below hb1 HQ0.out.lt).below hal (Nat.lt_of_lt_of_le HQ0.out.lt hb1.size), Blk.new _ _ _, HM.out, hl2, HNU.out, HN2.out, ((HP.out.below HB0.out).below hb1).below hal, hp2.below hal, ((HI.out.below HB0.out).below hb1).below hal, hi2.below hal, HCT.out, hc2, (HB0.out.trans (hb1.mono HB0.out.size)).alloc (Nat.le_trans HB0.out.size hb1.size) _⟩; clear hl2 hc2 hp2 hi2 hb1 hal)
    | (have hBA := HT; refine gate_st 29 (.tmp 5) (.tmp 17) rfl ?_; clear hBA; refine wpl_store_last rfl 29 (.tmp 5) (.tmp 17) rfl w1.heap.size rfl rfl rfl infoBagB rfl rfl (by simp [Value.oneCell']) ?_))
  have hpn : ∀ (a : Act) (v : Value), a.put none v = a := fun _ _ => rfl
  simp only [hpn]
  clear hpn
  obtain ⟨W1, hW1⟩ : ∃ W, W = (w1.alloc (.cells #[.int .i64 n, .slice va m vc, .slice ub n2 ud] 29)) := ⟨_, rfl⟩
  rw [← hW1] at HT ⊢
  clear hW1 HB0 HQ0 HUP HP HI
  generalize hp5 : w1.heap.size = p at HT ⊢
  generalize hq5 : w.heap.size = q at HT ⊢
  clear hp5
  have cq := HT.out.b1.cell
  have cp := HT.out.b2.cell
  have G2 : True := trivial
  have Z1 : True := trivial
  have hfp := fldPut
  go_upto_region 4 with (first
    | (have hG2 := G2; refine gate_ld 29 (.tmp 5) rfl ?_; clear hG2 G2; refine wpl_load_blkG rfl rfl 29 (.tmp 5) rfl p rfl HT.out.b2 Try.underlying29 rfl infoBagB rfl ?_)
    | (have hZ := Z1; go_at_call 17; clear hZ Z1; refine ((HT.out.below ((Below.refl _ _).alloc (Nat.le_refl _) _)).put HOK2.out HBL.out (by rw [← HN2.out]; omega) id (1 + id % 7) (pkF_one id hid1 hid7).1 (by rw [HID2.out]; rfl) _ _ (bs_oneW W1 _)).mono ?_; rintro e w2 ⟨x1, x2, x3, x4, rfl, hb2⟩; have HT2 : Hid (TwoB w w2 q p n ra m rc ua nu uc va vc ub n2 ud L L2 pl W W2) := (HT.out.below ((Below.refl _ _).alloc (Nat.le_refl _) _)).below hb2; clear hb2)
    | (have hBA := HT2; refine gate_ld 29 (.tmp 5) rfl ?_; clear hBA; refine wpl_load_blkG rfl rfl 29 (.tmp 5) rfl p rfl HT2.out.b2 Try.underlying29 rfl infoBagB rfl ?_)
    | (have hBA := HT2; go_at_call 17; clear hBA; refine ((HT2.out.below ((Below.refl _ _).alloc (Nat.le_refl _) _)).put HOK2.out HBL.out (by rw [← HN2.out]; omega) 11 id (pkF_one id hid1 hid7).2 (by rw [HID2.out, Bool.or_true]) _ _ (bs_oneW w2 _)).mono ?_; rintro e w3 ⟨y1, y2, y3, y4, rfl, hb3⟩; have HT3 : Hid (TwoB w w3 q p n ra m rc ua nu uc va vc ub n2 ud L L2 pl W W2) := (HT2.out.below ((Below.refl _ _).alloc (Nat.le_refl _) _)).below hb3; clear hb3))
  clear HT HT2 cq cp
  go_wp2_with fail
  go_loopw [6] (fun kv wr => ∃ k : Nat, k ≤ m ∧ kv = .int .i64 k ∧ TwoB w wr q p n ra m rc ua nu uc va vc ub n2 ud L L2 pl W W2) (fun kv _ => m - (intOf kv).toNat)
  case atStart => exact ⟨0, by omega, rfl, HT3.out⟩
  case round =>
    clear HT3
    obtain ⟨k, hk, rfl, ht⟩ := hrel
    have HT : Hid (TwoB w wr q p n ra m rc ua nu uc va vc ub n2 ud L L2 pl W W2) := ht
    clear ht
    have cq := HT.out.b1.cell
    by_cases hkm : k < m
    case neg =>
      have hkm' : ¬ (k : Int) < (m : Int) := by omega
      obtain ⟨W3, hW3⟩ : ∃ l, l = wallsNew W2 id false 7 := ⟨_, rfl⟩
      obtain ⟨n3, hn3⟩ : ∃ c, c = W3.length := ⟨_, rfl⟩
      have hn37 : n3 ≤ 7 := by rw [hn3, hW3]; exact wallsNew_len W2 id false 7
      have HDM : Hid (∀ x ∈ W3, x ≠ id) := (fun x hx => by rw [hW3] at hx; exact (down_mem id x hx).1 : ∀ x ∈ W3, x ≠ id)
      have HDA : Hid (∀ x ∈ W, x = id ∨ x ∈ W3) := (fun x hx => by rw [hW3, HW2.out]; exact down_all (bagB_rise HOK.out) id hid1 hid7 x hx : ∀ x ∈ W, x = id ∨ x ∈ W3)
      have HN3 : Hid (n3 = W3.length) := hn3
      have HDN : Hid (Calls Try.prog 11 #[.agg #[.int .i64 n, .slice va m vc, .slice ub n2 ud], .int .i64 id, .int .i64 0] wr fun e w' => ∃ xa xc xb xd, e = .returned (.agg #[.int .i64 n, .slice xa m xc, .slice xb n3 xd]) ∧ Ix w' (.slice xb n3 xd) W3 ∧ Below wr.heap.size wr w') := by
        have hp2 := HT.out.p2
        have hi2 := HT.out.i2
        have hm2 := HT.out.hm2
        have hc2 := HT.out.c2
        have hx := bagWall_any n id 0 va vc ub ud L2 W2 wr (by rw [← hm2]; exact hp2) (by rw [← HN2.out]; exact hi2) (by rw [hc2, ← cont_len, hc2]; have := HBL.out; omega) (by rw [← HN2.out]; omega)
        have ha : wallAns n (cont L2) W2 id 0 = (n, pl, W3) := by
          rw [hc2]
          unfold wallAns
          rw [HOK2.out, if_neg (by simp), if_pos ((inB_iff _ _ _).2 ⟨hid1, hid7⟩), hW3]
          rfl
        rw [ha, ← hm2, ← HN2.out] at hx
        refine hx.mono fun e w' ⟨xa, xc, xb, xd, L3, he, hc, hr, hb⟩ => ?_
        dsimp only at he hc hr
        have hl3 : m = L3.length := by rw [← cont_len, hc, ← hc2, cont_len]; exact hm2
        rw [← hl3, ← hn3] at he hr
        exact ⟨xa, xc, xb, xd, he, hr.ints.ix, hb⟩
      clear hW3 hn3 HW2 HOK2 HOK HBL
      have G4 : True := trivial
      go_upto_region 16 with (first
        | (have hG4 := G4; refine gate_ld 29 (.tmp 5) rfl ?_; clear hG4 G4; refine wpl_load_blk rfl 29 (.tmp 5) rfl p rfl HT.out.b2 Try.underlying29 rfl infoBagB rfl ?_)
        | (go_at_call 11; refine HDN.out.mono ?_; rintro e w5 ⟨xa, xc, xb, xd, rfl, hi3, hb5⟩; have hal : Below w5.heap.size w5 (w5.alloc (.cells #[.int .i64 n, .slice xa m xc, .slice xb n3 xd] 29)) := (Below.refl _ _).alloc (Nat.le_refl _) _; have H3 : Hid (ThreeB w (w5.alloc (.cells #[.int .i64 n, .slice xa m xc, .slice xb n3 xd] 29)) q n ra m rc ua nu uc W w5.heap.size xa xc xb n3 xd W3) := ⟨(HT.out.below hb5).below hal |>.b1, Blk.new _ _ _, (HT.out.below hb5).below hal |>.i1, hi3.below hal, (HT.out.below hb5).below hal |>.bel⟩; have HNu : Hid (nu = W.length) := HT.out.hnu; clear hi3 hb5 hal)
        | (have hBA := H3; refine gate_st 29 (.tmp 10) (.tmp 143) rfl ?_; clear hBA; refine wpl_store_last rfl 29 (.tmp 10) (.tmp 143) rfl w5.heap.size rfl rfl rfl infoBagB rfl rfl (by simp [Value.oneCell']) ?_))
      have hpn : ∀ (a : Act) (v : Value), a.put none v = a := fun _ _ => rfl
      simp only [hpn]
      clear hpn
      obtain ⟨W5, hW5⟩ : ∃ W, W = (w5.alloc (.cells #[.int .i64 n, .slice xa m xc, .slice xb n3 xd] 29)) := ⟨_, rfl⟩
      rw [← hW5] at H3 ⊢
      clear hW5 HT HDN cq
      generalize w5.heap.size = t at H3 ⊢
      have cq := H3.out.b1.cell
      have ct := H3.out.b3.cell
      go_wp2_with fail
      go_loopw [11] (fun iv wx => ∃ i : Nat, i ≤ n3 ∧ iv = .int .i64 i ∧ wx = W5) (fun iv _ => n3 - (intOf iv).toNat)
      case atStart => exact ⟨0, Nat.zero_le _, rfl, rfl⟩
      case round =>
        obtain ⟨i, hi, rfl, rfl⟩ := hrel
        by_cases hlt : i < n3
        · have d1 : (i : Int) < (n3 : Int) := by omega
          have hil : i < W3.length := by rw [← HN3.out]; exact hlt
          obtain ⟨wb, wo, rfl, hcy⟩ := ix_at H3.out.i3 i hil
          have hy := HDM.out _ (List.getElem_mem hil)
          generalize W3[i] = y at hy hcy
          have e1 : (y == id) = false := beq_eq_false_iff_ne.2 hy
          go_wp2_with fail
          go_roundw
          case rel => exact ⟨i + 1, by omega, by go_num, by first | rfl | trivial⟩
          case measure => simp [intOf]; omega
        · have d1 : ¬ (i : Int) < (n3 : Int) := by omega
          obtain ⟨W6, hW6⟩ : ∃ W, W = wr := ⟨_, rfl⟩
          go_wp2_with fail
          go_loopw [12] (fun iv wx => ∃ i d : Nat, i ≤ nu ∧ iv = .int .i64 i ∧ wx = wr.drewN d) (fun iv _ => nu - (intOf iv).toNat)
          case atStart => exact ⟨0, 0, Nat.zero_le _, rfl, rfl⟩
          case round =>
            obtain ⟨i, d, hi, rfl, rfl⟩ := hrel
            by_cases hlt : i < nu
            · have d1 : (i : Int) < (nu : Int) := by omega
              have hil : i < W.length := by rw [← HNu.out]; exact hlt
              obtain ⟨wb, wo, rfl, hcy⟩ := ix_at H3.out.i1 i hil
              have hy := HDA.out _ (List.getElem_mem hil)
              generalize W[i] = y at hy hcy
              have HY : Hid (y = id ∨ y ∈ W3) := hy
              clear hy
              go_wp2_with fail
              go_loopw [13, 14] (fun fv jv wx => ∃ (j d : Nat) (b : Bool), j ≤ n3 ∧ fv = .bool b ∧ jv = .int .i64 j ∧ b = fndB y id W3 j ∧ wx = wr.drewN d) (fun _ jv _ => n3 - (intOf jv).toNat)
              case atStart => exact ⟨0, _, _, Nat.zero_le _, rfl, rfl, by simp [fndB]; rfl, rfl⟩
              case round =>
                obtain ⟨j, d, b, hj, rfl, rfl, hb, rfl⟩ := hrel
                have HBj : Hid (b = fndB y id W3 j) := hb
                clear hb
                by_cases hlj : j < n3
                · have d2 : (j : Int) < (n3 : Int) := by omega
                  have hjl : j < W3.length := by rw [← HN3.out]; exact hlj
                  have hs := fndB_succ y id W3 j hjl
                  obtain ⟨zb, zo, rfl, hcz⟩ := ix_at H3.out.i3 j hjl
                  generalize W3[j] = z at hs hcz
                  rw [← HBj.out] at hs
                  have HS : Hid (fndB y id W3 (j + 1) = (b || decide (z = y))) := hs
                  clear hs
                  cases b
                  · by_cases h1 : z = y
                    · have h1' : decide (z = y) = true := decide_eq_true h1
                      have e1 : (z == y) = true := beq_iff_eq.2 h1
                      have hH : Hid (fndB y id W3 (j + 1) = true) := (by rw [HS.out, h1']; rfl : fndB y id W3 (j + 1) = true)
                      clear h1 HS
                      go_wp2
                      go_quiet (fail)
                      go_wp2
                      go_roundw
                      case rel => exact ⟨j + 1, _, true, by omega, rfl, by go_num, by rw [hH.out], rfl⟩
                      case measure => simp [intOf]; omega
                    · have h1' : decide (z = y) = false := decide_eq_false h1
                      have e1 : (z == y) = false := beq_eq_false_iff_ne.2 h1
                      have hH : Hid (fndB y id W3 (j + 1) = false) := (by rw [HS.out, h1']; rfl : fndB y id W3 (j + 1) = false)
                      clear h1 HS
                      go_wp2
                      go_quiet (fail)
                      go_wp2
                      go_roundw
                      case rel => exact ⟨j + 1, _, false, by omega, rfl, by go_num, by rw [hH.out], rfl⟩
                      case measure => simp [intOf]; omega
                  · have hH : Hid (fndB y id W3 (j + 1) = true) := (by rw [HS.out]; rfl : fndB y id W3 (j + 1) = true)
                    clear HS
                    go_wp2
                    go_quiet (fail)
                    go_wp2
                    go_roundw
                    case rel => exact ⟨j + 1, _, true, by omega, rfl, by go_num, by rw [hH.out], rfl⟩
                    case measure => simp [intOf]; omega
                · have d2 : ¬ (j : Int) < (n3 : Int) := by omega
                  have hb : b = true := by rw [HBj.out]; exact fndB_all y id W3 j (by rw [← HN3.out]; omega) HY.out
                  subst hb
                  go_wp2_with fail
                  go_roundw
                  case rel => exact ⟨i + 1, _, by omega, by go_num, rfl⟩
                  case measure => simp [intOf]; omega
            · have d1 : ¬ (i : Int) < (nu : Int) := by omega
              go_wp2_with fail
              go_ret
              exact ⟨rfl, by rw [← hq5]; exact H3.out.bel.trans ⟨rfl, rfl, rfl, Nat.le_refl _, fun _ _ => rfl⟩⟩
    have hkm' : (k : Int) < (m : Int) := by omega
    have hkl : k < pl.length := by rw [← HT.out.c1, cont_len, ← HT.out.hm]; exact hkm
    have hat := pks_at HT.out.p1 HT.out.c1 k hkl
    have HTK : Hid (∀ u, TwoB w u q p n ra m rc ua nu uc va vc ub n2 ud L L2 pl W W2 → _) := fun u (hu : TwoB w u q p n ra m rc ua nu uc va vc ub n2 ud L L2 pl W W2) => hu.take HOK2.out HBL.out (by rw [← HN2.out]; omega) k hkl
    have hlost : (if W2.contains pl[k].fr || W2.contains pl[k].tq then (1 : Int) else 0) = if ((decide (pl[k].fr = id) || W.contains pl[k].fr) || (decide (pl[k].tq = id) || W.contains pl[k].tq)) then 1 else 0 := by
      rw [HW2.out, up_mem (bagB_rise HOK.out) id hid1 hid7, up_mem (bagB_rise HOK.out) id hid1 hid7]
    generalize hLo : (if W2.contains pl[k].fr || W2.contains pl[k].tq then (1 : Int) else 0) = lost at hlost HTK
    generalize pl[k].fr = fr at hat HTK hlost
    generalize pl[k].tq = dst at hat HTK hlost
    generalize pl[k].id = pid at hat HTK
    have HLO : Hid (lost = if ((decide (fr = id) || W.contains fr) || (decide (dst = id) || W.contains dst)) then 1 else 0) := hlost
    clear hlost hLo
    obtain ⟨rb, ro, rfl, hc0, hc1, hc2⟩ := hat
    have HC012 : Hid (wr.cell? ⟨rb, ro + k * 4, none⟩ = some (.int .i64 pid) ∧ wr.cell? ⟨rb, ro + k * 4 + 1, none⟩ = some (.int .i64 fr) ∧ wr.cell? ⟨rb, ro + k * 4 + 2, none⟩ = some (.int .i64 dst)) := ⟨hc0, hc1, hc2⟩
    clear hc0 hc1 hc2
    have G3 : True := trivial
    go_upto_region 8 with (first
      | (have hG3 := G3; refine gate_ld 29 (.tmp 5) rfl ?_; clear hG3 G3; refine wpl_load_blk rfl 29 (.tmp 5) rfl p rfl HT.out.b2 Try.underlying29 rfl infoBagB rfl ?_)
      | (go_at_call 31; refine (HTK.out _ HT.out).mono ?_; rintro e w4 ⟨pa, pn, pd, xa, xn, xc, xb, xm, xd, rfl, hxn, hb4⟩; have hal : Below w4.heap.size w4 (w4.alloc (.cells #[.int .i64 0, .int .i64 lost, .int .i64 pid, .int .i64 fr, .int .i64 dst, .slice pa pn pd, .int .i64 n, .slice xa xn xc, .slice xb xm xd] 62)) := (Below.refl _ _).alloc (Nat.le_refl _) _; have HT4 : Hid (TwoB w (w4.alloc (.cells #[.int .i64 0, .int .i64 lost, .int .i64 pid, .int .i64 fr, .int .i64 dst, .slice pa pn pd, .int .i64 n, .slice xa xn xc, .slice xb xm xd] 62)) q p n (some ⟨rb, ro, none⟩) m rc ua nu uc va vc ub n2 ud L L2 pl W W2) := (HT.out.below hb4).below hal; have BT4 : Hid (Blk (w4.alloc (.cells #[.int .i64 0, .int .i64 lost, .int .i64 pid, .int .i64 fr, .int .i64 dst, .slice pa pn pd, .int .i64 n, .slice xa xn xc, .slice xb xm xd] 62)) w4.heap.size #[.int .i64 0, .int .i64 lost, .int .i64 pid, .int .i64 fr, .int .i64 dst, .slice pa pn pd, .int .i64 n, .slice xa xn xc, .slice xb xm xd] 62) := Blk.new _ _ _; have HC4 : Hid ((w4.alloc (.cells #[.int .i64 0, .int .i64 lost, .int .i64 pid, .int .i64 fr, .int .i64 dst, .slice pa pn pd, .int .i64 n, .slice xa xn xc, .slice xb xm xd] 62)).cell? ⟨rb, ro + k * 4, none⟩ = some (.int .i64 pid) ∧ (w4.alloc (.cells #[.int .i64 0, .int .i64 lost, .int .i64 pid, .int .i64 fr, .int .i64 dst, .slice pa pn pd, .int .i64 n, .slice xa xn xc, .slice xb xm xd] 62)).cell? ⟨rb, ro + k * 4 + 1, none⟩ = some (.int .i64 fr) ∧ (w4.alloc (.cells #[.int .i64 0, .int .i64 lost, .int .i64 pid, .int .i64 fr, .int .i64 dst, .slice pa pn pd, .int .i64 n, .slice xa xn xc, .slice xb xm xd] 62)).cell? ⟨rb, ro + k * 4 + 2, none⟩ = some (.int .i64 dst)) := (by have hl := cell_lt HC012.out.1; have hl4 := Nat.lt_of_lt_of_le hl hb4.size; exact ⟨(hal.cell hl4).trans ((hb4.cell hl).trans HC012.out.1), (hal.cell hl4).trans ((hb4.cell hl).trans HC012.out.2.1), (hal.cell hl4).trans ((hb4.cell hl).trans HC012.out.2.2)⟩); have Hxn : Hid (xn + 1 = m) := hxn; clear hb4 hal hxn)
      | (have hBA := BT4; refine gate_st 62 (.tmp 7) (.tmp 53) rfl ?_; clear hBA; refine wpl_store_last rfl 62 (.tmp 7) (.tmp 53) rfl w4.heap.size rfl rfl rfl infoTk rfl rfl (by simp [Value.oneCell']) ?_))
    have hpn : ∀ (a : Act) (v : Value), a.put none v = a := fun _ _ => rfl
    simp only [hpn]
    clear hpn
    obtain ⟨W4, hW4⟩ : ∃ W, W = (w4.alloc (.cells #[.int .i64 0, .int .i64 lost, .int .i64 pid, .int .i64 fr, .int .i64 dst, .slice pa pn pd, .int .i64 n, .slice xa xn xc, .slice xb xm xd] 62)) := ⟨_, rfl⟩
    rw [← hW4] at HT4 BT4 HC4 ⊢
    clear hW4 HT HTK HC012 cq
    generalize w4.heap.size = t at BT4 ⊢
    have cq4 := HT4.out.b1.cell
    have h40 := HC4.out.1
    have h41 := HC4.out.2.1
    have h42 := HC4.out.2.2
    have ebf : (if fr = id then true else decide (dst = id)) = (decide (fr = id) || decide (dst = id)) := by by_cases h : fr = id <;> simp [h]
    obtain ⟨fl, hfl⟩ : ∃ b, b = (decide (fr = id) || decide (dst = id)) := ⟨_, rfl⟩
    have HFL : Hid (fl = (decide (fr = id) || decide (dst = id))) := hfl
    clear ebf
    go_cut [8] from 44 to 140 (fun x8 wc => x8 = .bool fl ∧ wc = W4)
    case first =>
      by_cases hf : fr = id
      · have hf' : decide (fr = id) = true := decide_eq_true hf
        have hfl' : Hid (fl = true) := (by rw [hfl, hf']; rfl : fl = true)
        clear hfl
        go_wp2_with fail
        go_meet
        exact ⟨by rw [hfl'.out], rfl⟩
      · have hf' : decide (fr = id) = false := decide_eq_false hf
        have hfl' : Hid (fl = decide (dst = id)) := (by rw [hfl, hf']; rfl : fl = decide (dst = id))
        clear hfl
        go_wp2_with fail
        go_meet
        exact ⟨by rw [hfl'.out]; have e1 : (fr == id) = false := beq_eq_false_iff_ne.2 hf; first | rfl | (rw [e1]; rfl), rfl⟩
    case rest =>
      clear hfl
      obtain ⟨rfl, rfl⟩ := hcut
      go_wp2_with fail
      go_loopw [8, 9] (fun fv jv wx => ∃ (j d : Nat) (b : Bool), j ≤ nu ∧ fv = .bool b ∧ jv = .int .i64 j ∧ b = lostB fr dst id W j ∧ wx = wc.drewN d) (fun _ jv _ => nu - (intOf jv).toNat)
      case atStart => exact ⟨0, 0, fl, Nat.zero_le _, rfl, rfl, by rw [HFL.out]; simp [lostB], rfl⟩
      case round =>
        obtain ⟨j, d, b, hj, rfl, rfl, hb, rfl⟩ := hrel
        have HBj : Hid (b = lostB fr dst id W j) := hb
        clear hb
        by_cases hlt : j < nu
        · have d1 : (j : Int) < (nu : Int) := by omega
          have hjl : j < W.length := by rw [← HT4.out.hnu]; exact hlt
          have hs := lostB_succ fr dst id W j hjl
          obtain ⟨wb, wo, rfl, hcy⟩ := ix_at HT4.out.i1 j hjl
          generalize W[j] = y at hs hcy
          rw [← HBj.out] at hs
          have HS : Hid (lostB fr dst id W (j + 1) = (b || (decide (fr = y) || decide (dst = y)))) := hs
          clear hs
          cases b
          · by_cases h1 : fr = y
            · have h1' : decide (fr = y) = true := decide_eq_true h1
              have e1 : (fr == y) = true := beq_iff_eq.2 h1
              have hH : Hid (lostB fr dst id W (j + 1) = true) := (by rw [HS.out, h1']; rfl : lostB fr dst id W (j + 1) = true)
              clear h1 HS
              go_wp2
              go_quiet (fail)
              go_wp2
              go_roundw
              case rel => exact ⟨j + 1, _, true, by omega, rfl, by go_num, by rw [hH.out], rfl⟩
              case measure => simp [intOf]; omega
            · have h1' : decide (fr = y) = false := decide_eq_false h1
              have e1 : (fr == y) = false := beq_eq_false_iff_ne.2 h1
              by_cases h2 : dst = y
              · have h2' : decide (dst = y) = true := decide_eq_true h2
                have e2 : (dst == y) = true := beq_iff_eq.2 h2
                have hH : Hid (lostB fr dst id W (j + 1) = true) := (by rw [HS.out, h1', h2']; rfl : lostB fr dst id W (j + 1) = true)
                clear h1 h2 HS
                go_wp2
                go_quiet (fail)
                go_wp2
                go_roundw
                case rel => exact ⟨j + 1, _, true, by omega, rfl, by go_num, by rw [hH.out], rfl⟩
                case measure => simp [intOf]; omega
              · have h2' : decide (dst = y) = false := decide_eq_false h2
                have e2 : (dst == y) = false := beq_eq_false_iff_ne.2 h2
                have hH : Hid (lostB fr dst id W (j + 1) = false) := (by rw [HS.out, h1', h2']; rfl : lostB fr dst id W (j + 1) = false)
                clear h1 h2 HS
                go_wp2
                go_quiet (fail)
                go_wp2
                go_roundw
                case rel => exact ⟨j + 1, _, false, by omega, rfl, by go_num, by rw [hH.out], rfl⟩
                case measure => simp [intOf]; omega
          · have hH : Hid (lostB fr dst id W (j + 1) = true) := (by rw [HS.out]; rfl : lostB fr dst id W (j + 1) = true)
            clear HS
            go_wp2
            go_quiet (fail)
            go_wp2
            go_roundw
            case rel => exact ⟨j + 1, _, true, by omega, rfl, by go_num, by rw [hH.out], rfl⟩
            case measure => simp [intOf]; omega
        · have hjn : j = nu := by omega
          have hL := lostB_all fr dst id W j (by rw [hjn]; exact HT4.out.hnu)
          have hbl : lost = if b then 1 else 0 := by rw [HLO.out, ← hL, ← HBj.out]
          have d1 : ¬ (j : Int) < (nu : Int) := by omega
          have ct := BT4.out.cell
          have hwx : IntKind.i64.wrap ((m : Int) - 1) = (xn : Int) := by have := Hxn.out; rw [IntKind.wrap_i64] <;> omega
          clear hL
          cases b
          · have hb0 : lost = 0 := hbl
            subst hb0
            clear hbl
            go_wp2
            go_quiet (fail)
            go_wp2
            go_roundw
            case rel => exact ⟨k + 1, by omega, by go_num, HT4.out.below ⟨rfl, rfl, rfl, Nat.le_refl _, fun _ _ => rfl⟩⟩
            case measure => simp [intOf]; omega
          · have hb0 : lost = 1 := hbl
            subst hb0
            clear hbl
            go_wp2
            go_quiet (fail)
            go_wp2
            go_roundw
            case rel => exact ⟨k + 1, by omega, by go_num, HT4.out.below ⟨rfl, rfl, rfl, Nat.le_refl _, fun _ _ => rfl⟩⟩
            case measure => simp [intOf]; omega
end Go.Proofs.Ytfcmffdljfljkaa
