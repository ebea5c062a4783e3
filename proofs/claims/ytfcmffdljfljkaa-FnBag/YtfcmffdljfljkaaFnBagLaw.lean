/-
  The walk of the law FnBag, where laws.walls answers true.
-/
import Derived.Test.YtfcmffdljfljkaaGround2
import Derived.Test.YtfcmffdljfljkaaBagBulk
import Derived.Test.YtfcmffdljfljkaaPkPutS
import Derived.Test.YtfcmffdljfljkaaSameG
import Derived.Deep.MidRow
namespace Go.Proofs.Ytfcmffdljfljkaa
open Go.RowKit
set_option linter.unusedVariables false
set_option linter.unusedSimpArgs false

/-- the bag under way, and the bytes drawn twice -/
structure CurB (w0 w : World) (q : Nat) (n : Int) (ra : Option Addr) (m rc : Nat) (ua : Option Addr) (nu uc : Nat) (L : List Pk) (pl : List Pkt) (W : List Int) (y1 y2 : Value) (YY : List Int) : Prop where
  blk : Blk w q #[.int .i64 n, .slice ra m rc, .slice ua nu uc] 29
  hm : m = L.length
  hnu : nu = W.length
  pks : Pks w (.slice ra m rc) L
  ix : Ix w (.slice ua nu uc) W
  ct : cont L = pl
  ok : bagB n pl W = true
  b1 : Bs w y1 YY
  b2 : Bs w y2 YY
  bel : Below w0.heap.size w0 w
  hq : w0.heap.size ≤ q
theorem CurB.below {w0 w w' : World} {q : Nat} {n : Int} {ra : Option Addr} {m rc : Nat} {ua : Option Addr} {nu uc : Nat} {L : List Pk} {pl : List Pkt} {W : List Int} {y1 y2 : Value} {YY : List Int} (h : CurB w0 w q n ra m rc ua nu uc L pl W y1 y2 YY) (hb : Below w.heap.size w w') : CurB w0 w' q n ra m rc ua nu uc L pl W y1 y2 YY :=
  ⟨h.blk.below hb h.blk.lt, h.hm, h.hnu, h.pks.below hb, h.ix.below hb, h.ct, h.ok, h.b1.below hb, h.b2.below hb, h.bel.trans (hb.mono h.bel.size), h.hq⟩
theorem infoPutB : (Try.prog.info? 37).map (·.size) = some 5 := by kernel_rfl
theorem rangeB {w : World} {b : Nat} {C : Array Value} {t : TypeId} {xs cs : List Value} (h : Blk w b C t) (e : C.toList = xs ++ cs) : w.rangeAt b xs.length cs := by
  have hr := h.range
  rw [e] at hr
  have := ((range_app (xs := xs) (ys := cs)).1 hr).2
  rwa [Nat.zero_add] at this
theorem pks_id {w : World} {v : Value} {L : List Pk} {pl : List Pkt} (h : Pks w v L) (hc : cont L = pl) {n : Int} (hn : ∀ (j : Nat) (h : j < pl.length), j + 1 < pl.length → pl[j].id < n) (i : Nat) (hi : i + 1 < L.length) : ∃ b off x cap, v = .slice (some ⟨b, off, none⟩) L.length cap ∧ w.cell? ⟨b, off + i * 4, none⟩ = some (.int .i64 x) ∧ x < n := by
  obtain ⟨_, _, a, cap, rfl, hj⟩ := h
  obtain ⟨b, off, rfl, hat⟩ := hj i (by omega)
  refine ⟨b, off, _, cap, rfl, (hat i (by omega)).1, ?_⟩
  subst hc
  have := hn i (by rw [cont_len]; omega) (by rw [cont_len]; omega)
  simpa [cont] using this
theorem fldPut (x0 x1 x2 x3 x4 : Value) (u : World) : Sem.run Try.prog (Instr.field 37 (.agg #[x0, x1, x2, x3, x4]) 0) u = .ok x0 u := by
  simp [Instr.field, go_sem, asAgg]
/-- both BagPuts at the bag under way -/
theorem CurB.put {w0 w : World} {q : Nat} {n : Int} {ra : Option Addr} {m rc : Nat} {ua : Option Addr} {nu uc : Nat} {L : List Pk} {pl : List Pkt} {W : List Int} {y1 y2 : Value} {YY : List Int} (h : CurB w0 w q n ra m rc ua nu uc L pl W y1 y2 YY) (f t : Int) {a : Option Addr} {nn c : Nat} (hy : Bs w (.slice a nn c) YY) (hl : pl.length + bulk pl ≤ 1048576) (hw : W.length ≤ 1048576) (hY : YY.length ≤ 1048576) :
    (Calls Try.prog 15 #[.agg #[.int .i64 n, .slice ra m rc, .slice ua nu uc], .int .i64 f, .int .i64 t, .slice a nn c] w fun e w' => PutAt w w' e (putAns n pl W f t YY)) ∧
    Calls Try.prog 17 #[.agg #[.int .i64 n, .slice ra m rc, .slice ua nu uc], .int .i64 f, .int .i64 t, .slice a nn c] w fun e w' => PutAt w w' e (putAns n pl W f t YY) := by
  obtain ⟨_, rfl, rfl, hp, hi, rfl, _, _, _, _, _⟩ := h
  obtain ⟨hy0, hy1, a', c', e, hc⟩ := hy
  injection e with e1 e2 e3
  subst e1 e2 e3
  have hl' : L.length + bulk (cont L) ≤ 1048576 := by rw [← cont_len L]; exact hl
  exact ⟨sBagPut_any n ra rc ua uc L W f t a c YY w hp hi ⟨hy0, hy1, _, _, rfl, hc⟩ hl' hw hY, bagPut_any n ra rc ua uc L W f t a c YY w hp hi ⟨hy0, hy1, _, _, rfl, hc⟩ hl' hw hY⟩

set_option maxHeartbeats 16000000 in
set_option maxRecDepth 100000 in
theorem lawBag_walk (hW : ∀ (u : World) (n : Int) (ra : Option Addr) (m rc : Nat) (ua : Option Addr) (nu uc : Nat) (L : List Pk) (pl : List Pkt) (W : List Int) (id : Int), m = L.length → nu = W.length → Pks u (.slice ra m rc) L → Ix u (.slice ua nu uc) W → cont L = pl → bagB n pl W = true → pl.length + bulk pl ≤ 1000000 → m ≤ 500 → 1 ≤ id → id ≤ 7 → Calls Try.prog 33 #[.agg #[.int .i64 n, .slice ra m rc, .slice ua nu uc], .int .i64 id] u fun e w' => e = .returned (.bool true) ∧ Below u.heap.size u w')
    (v1 : Value) (l1 : List Int) (w : World) (h1 : Bs w v1 l1) :
    Calls Try.prog 6 #[v1] w fun e w' => e = .returned (.bool true) ∧ Below w.heap.size w w' := by
  have HW : Hid (∀ (u : World) (n : Int) (ra : Option Addr) (m rc : Nat) (ua : Option Addr) (nu uc : Nat) (L : List Pk) (pl : List Pkt) (W : List Int) (id : Int), m = L.length → nu = W.length → Pks u (.slice ra m rc) L → Ix u (.slice ua nu uc) W → cont L = pl → bagB n pl W = true → pl.length + bulk pl ≤ 1000000 → m ≤ 500 → 1 ≤ id → id ≤ 7 → Calls Try.prog 33 #[.agg #[.int .i64 n, .slice ra m rc, .slice ua nu uc], .int .i64 id] u fun e w' => e = .returned (.bool true) ∧ Below u.heap.size u w') := hW
  have H1 : Hid (Bs w v1 l1) := h1
  obtain ⟨m1, _, a1, cap1, rfl, _⟩ := h1
  unfold maxLen at m1
  clear hW
  by_cases hl1 : (1048576 : Int) < l1.length
  · go_enter Try.func6, Try.ntmps6
    go_wp2
    go_ret
    exact ⟨rfl, Below.refl _ _⟩
  have hbk := bulk_put l1 (min l1.length 400) (Nat.min_le_right _ _)
  have hyk := putY_ok l1 (putF l1 (putT l1 ((put2 l1 (put1 l1 (bagD l1 0 (min l1.length 400)))).2.2.2 + 1)).2 (1 + ((pickV l1 (put2 l1 (put1 l1 (bagD l1 0 (min l1.length 400)))).2.2.2 7 : Nat) : Int))).2
  have HDP : Hid (∀ u : World, Below w.heap.size w u → Calls Try.prog 30 #[.slice a1 l1.length cap1] u fun r w' => ∃ va vc ua nu uc ba nb bc L, r = .returned (.tuple #[.agg #[.int .i64 (put2 l1 (put1 l1 (bagD l1 0 (min l1.length 400)))).1, .slice va L.length vc, .slice ua nu uc], .int .i64 (putF l1 (putT l1 ((put2 l1 (put1 l1 (bagD l1 0 (min l1.length 400)))).2.2.2 + 1)).2 (1 + ((pickV l1 (put2 l1 (put1 l1 (bagD l1 0 (min l1.length 400)))).2.2.2 7 : Nat) : Int))).1, .int .i64 (putT l1 ((put2 l1 (put1 l1 (bagD l1 0 (min l1.length 400)))).2.2.2 + 1)).1, .slice ba nb bc]) ∧ cont L = (put2 l1 (put1 l1 (bagD l1 0 (min l1.length 400)))).2.1 ∧ nu = (put2 l1 (put1 l1 (bagD l1 0 (min l1.length 400)))).2.2.1.length ∧ nb = (putY l1 (putF l1 (putT l1 ((put2 l1 (put1 l1 (bagD l1 0 (min l1.length 400)))).2.2.2 + 1)).2 (1 + ((pickV l1 (put2 l1 (put1 l1 (bagD l1 0 (min l1.length 400)))).2.2.2 7 : Nat) : Int))).2).length ∧ Pks w' (.slice va L.length vc) L ∧ Ix w' (.slice ua nu uc) (put2 l1 (put1 l1 (bagD l1 0 (min l1.length 400)))).2.2.1 ∧ Bs w' (.slice ba nb bc) (putY l1 (putF l1 (putT l1 ((put2 l1 (put1 l1 (bagD l1 0 (min l1.length 400)))).2.2.2 + 1)).2 (1 + ((pickV l1 (put2 l1 (put1 l1 (bagD l1 0 (min l1.length 400)))).2.2.2 7 : Nat) : Int))).2) ∧ Below u.heap.size u w') := fun u hu => drawBagPut_any a1 cap1 l1 u (H1.out.below hu) (by omega) _ _ _ _ _ _ rfl rfl rfl rfl rfl rfl
  generalize putY l1 (putF l1 (putT l1 ((put2 l1 (put1 l1 (bagD l1 0 (min l1.length 400)))).2.2.2 + 1)).2 (1 + ((pickV l1 (put2 l1 (put1 l1 (bagD l1 0 (min l1.length 400)))).2.2.2 7 : Nat) : Int))).2 = YY at *
  generalize (putF l1 (putT l1 ((put2 l1 (put1 l1 (bagD l1 0 (min l1.length 400)))).2.2.2 + 1)).2 (1 + ((pickV l1 (put2 l1 (put1 l1 (bagD l1 0 (min l1.length 400)))).2.2.2 7 : Nat) : Int))).1 = FV at *
  generalize (putT l1 ((put2 l1 (put1 l1 (bagD l1 0 (min l1.length 400)))).2.2.2 + 1)).1 = TV at *
  generalize put2 l1 (put1 l1 (bagD l1 0 (min l1.length 400))) = s2 at *
  obtain ⟨N, P, W, K2⟩ := s2
  dsimp only at hbk HDP
  obtain ⟨ny, hny⟩ : ∃ n, n = YY.length := ⟨_, rfl⟩
  obtain ⟨nu, hnu⟩ : ∃ n, n = W.length := ⟨_, rfl⟩
  have Hny : Hid (ny = YY.length) := hny
  have Hnu : Hid (nu = W.length) := hnu
  rw [← hny] at hyk HDP
  rw [← hnu] at hbk HDP
  have HYl : Hid (YY.length ≤ 1048576) := (by omega : YY.length ≤ 1048576)
  have HWl : Hid (W.length ≤ 1048576) := (by omega : W.length ≤ 1048576)
  have HPl : Hid (P.length + bulk P ≤ 604096) := (by omega : P.length + bulk P ≤ 604096)
  clear hny hnu
  have hfp := fldPut
  have hX1 : (putAns N P W FV TV YY).1 = if bagB N P W = false then 1 else putC N P.length W FV TV YY.length := by
    unfold putAns
    cases bagB N P W
    · rfl
    · by_cases hz : putC N P.length W FV TV YY.length = 0
      · simp [hz]
      · simp [hz]
  have hpc1 : putC N P.length W FV TV YY.length ≠ 1 := by
    unfold putC
    repeat' split
    all_goals omega
  have HSp : Hid (∀ (u : World) (ra ua a : Option Addr) (m rc uc c : Nat) (L : List Pk), m = L.length → Pks u (.slice ra m rc) L → Ix u (.slice ua nu uc) W → cont L = P → Bs u (.slice a ny c) YY → Calls Try.prog 15 #[.agg #[.int .i64 N, .slice ra m rc, .slice ua nu uc], .int .i64 FV, .int .i64 TV, .slice a ny c] u fun e w' => ∃ x1 x2 va vn vc ub un ud, e = .returned (.agg #[.int .i64 (if bagB N P W = false then 1 else putC N P.length W FV TV YY.length), .int .i64 x1, .int .i64 x2, .slice va vn vc, .slice ub un ud]) ∧ Below u.heap.size u w') := fun u ra ua a m rc uc c L hm hp hi hc hy => by
    subst hm
    subst hc
    rw [Hnu.out] at hi ⊢
    rw [Hny.out] at hy ⊢
    rw [← hX1]
    exact (sBagPut_any N ra rc ua uc L W FV TV a c YY u hp hi hy (by rw [← cont_len L]; have := HPl.out; omega) HWl.out HYl.out).mono fun e w' ⟨va, vc, ub, ud, L2, he, _, _, hb⟩ => ⟨_, _, _, _, _, _, _, _, he, hb⟩
  clear hX1
  have G0 : True := trivial
  have G1 : True := trivial
  have G2 : True := trivial
  have DRAW : True := trivial
  go_enter Try.func6, Try.ntmps6
  go_upto_region 4 with (first
    | (go_at_call 30; clear G0; refine (HDP.out _ (Below.refl _ _)).mono ?_; rintro e w2 ⟨ra0, rc0, ua0, nu0, uc0, ba, nb0, bc, L0, rfl, hc0, hnu0, hnb0, hp0, hi0, hy0, hb0⟩; have hnu0' := hnu0.symm; have hnb0' := hnb0.symm; clear hnu0 hnb0; subst hnu0'; subst hnb0'; obtain ⟨m0, hm0⟩ : ∃ m, m = L0.length := ⟨_, rfl⟩; rw [← hm0] at hp0; rw [← hm0]; have hal : Below w2.heap.size w2 (w2.alloc (.cells #[.int .i64 N, .slice ra0 m0 rc0, .slice ua0 nu uc0] 29)) := (Below.refl _ _).alloc (Nat.le_refl _) _; have HP2 : Hid (Pks (w2.alloc (.cells #[.int .i64 N, .slice ra0 m0 rc0, .slice ua0 nu uc0] 29)) (.slice ra0 m0 rc0) L0) := hp0.below hal; have HI2 : Hid (Ix (w2.alloc (.cells #[.int .i64 N, .slice ra0 m0 rc0, .slice ua0 nu uc0] 29)) (.slice ua0 nu uc0) W) := hi0.below hal; have HY2 : Hid (Bs (w2.alloc (.cells #[.int .i64 N, .slice ra0 m0 rc0, .slice ua0 nu uc0] 29)) (.slice ba ny bc) YY) := hy0.below hal; have Hm0 : Hid (m0 = L0.length) := hm0; have Hc0 : Hid (cont L0 = P) := hc0; have HB2 : Hid (Below w.heap.size w (w2.alloc (.cells #[.int .i64 N, .slice ra0 m0 rc0, .slice ua0 nu uc0] 29))) := hb0.alloc hb0.size _; have BK2 : Hid (Blk (w2.alloc (.cells #[.int .i64 N, .slice ra0 m0 rc0, .slice ua0 nu uc0] 29)) w2.heap.size #[.int .i64 N, .slice ra0 m0 rc0, .slice ua0 nu uc0] 29) := Blk.new _ _ _; clear hp0 hi0 hy0 hm0 hc0 hb0 hal))
  obtain ⟨cd, hcd⟩ : ∃ cd : Int, cd = if bagB N P W = false then 1 else putC N P.length W FV TV YY.length := ⟨_, rfl⟩
  rw [← hcd] at HSp
  have Hcd : Hid (cd = if bagB N P W = false then 1 else putC N P.length W FV TV YY.length) := hcd
  clear hcd
  have G3 : True := trivial
  go_upto_if 34 with (first
    | (have hG3 := G3; refine gate_ld 29 (.tmp 3) rfl ?_; clear hG3 G3; refine wpl_load_blk rfl 29 (.tmp 3) rfl w2.heap.size rfl BK2.out Try.underlying29 rfl infoBagB rfl ?_)
    | (go_at_call 15; refine (HSp.out _ ra0 ua0 ba m0 rc0 uc0 bc L0 Hm0.out HP2.out HI2.out Hc0.out HY2.out).mono ?_; rintro e w3 ⟨x1, x2, va, vn, vc, ub, un, ud, rfl, hb3⟩; have HB3 : Hid (Below w.heap.size w (w3.alloc (.cells #[.int .i64 cd, .int .i64 x1, .int .i64 x2, .slice va vn vc, .slice ub un ud] 37))) := (HB2.out.trans (hb3.mono HB2.out.size)).alloc (Nat.le_trans HB2.out.size hb3.size) _; have HY3 : Hid (Bs (w3.alloc (.cells #[.int .i64 cd, .int .i64 x1, .int .i64 x2, .slice va vn vc, .slice ub un ud] 37)) (.slice ba ny bc) YY) := (HY2.out.below hb3).below ((Below.refl _ _).alloc (Nat.le_refl _) _); clear hb3)
    | (have hG1 := G1; refine gate_st 37 (.tmp 7) (.tmp 31) rfl ?_; clear hG1 G1; refine wpl_store_last rfl 37 (.tmp 7) (.tmp 31) rfl w3.heap.size rfl rfl rfl infoPutB rfl rfl (by simp [Value.oneCell']) ?_))
  clear HP2 HI2 HY2 HB2 BK2 Hc0 Hm0 HSp
  cases hok : bagB N P W with
  | false =>
    have hc1 : (cd == 1) = true := by rw [Hcd.out, hok]; rfl
    clear hok Hcd
    go_wp2_with fail
    go_ret
    exact ⟨rfl, HB3.out⟩
  | true =>
    have hc1 : (cd == 1) = false := by
      rw [Hcd.out, hok, if_neg (by simp), beq_eq_false_iff_ne]
      exact hpc1
    have Hok : Hid (bagB N P W = true) := hok
    clear Hcd hok
    obtain ⟨W3, hW3⟩ : ∃ W, W = (w3.alloc (.cells #[.int .i64 cd, .int .i64 x1, .int .i64 x2, .slice va vn vc, .slice ub un ud] 37)) := ⟨_, rfl⟩
    rw [← hW3] at HB3 HY3 ⊢
    clear hW3
    go_upto_region 8 with (go_at_call 30; refine (HDP.out _ HB3.out).mono ?_; rintro e w4 ⟨ra, rc, ua, nu0, uc, bb, nb0, bd, L, rfl, hc0, hnu0, hnb0, hp0, hi0, hy0, hb0⟩; have hnu0' := hnu0.symm; have hnb0' := hnb0.symm; clear hnu0 hnb0; subst hnu0'; subst hnb0'; obtain ⟨m, hm⟩ : ∃ m, m = L.length := ⟨_, rfl⟩; rw [← hm] at hp0; rw [← hm]; have hal : Below w4.heap.size w4 (w4.alloc (.cells #[.int .i64 N, .slice ra m rc, .slice ua nu uc] 29)) := (Below.refl _ _).alloc (Nat.le_refl _) _; have HC4 : Hid (CurB w (w4.alloc (.cells #[.int .i64 N, .slice ra m rc, .slice ua nu uc] 29)) w4.heap.size N ra m rc ua nu uc L P W (.slice ba ny bc) (.slice bb ny bd) YY) := ⟨Blk.new _ _ _, hm, Hnu.out, hp0.below hal, hi0.below hal, hc0, Hok.out, (HY3.out.below hb0).below hal, hy0.below hal, (HB3.out.trans (hb0.mono HB3.out.size)).alloc (Nat.le_trans HB3.out.size hb0.size) _, Nat.le_trans HB3.out.size hb0.size⟩; clear hp0 hi0 hy0 hm hc0 hb0 hal)
    obtain ⟨W4, hW4⟩ : ∃ W, W = (w4.alloc (.cells #[.int .i64 N, .slice ra m rc, .slice ua nu uc] 29)) := ⟨_, rfl⟩
    rw [← hW4] at HC4 ⊢
    clear hW4
    generalize hq : w4.heap.size = q at HC4 ⊢
    clear hq HB3 HY3 HDP
    obtain ⟨bi, hbi⟩ : ∃ z : Int, z = 1 + (ny : Int) % 7 := ⟨_, rfl⟩
    have hbi1 : 1 ≤ bi ∧ bi ≤ 7 := by omega
    have htm : (ny : Int).tmod 7 = (ny : Int) % 7 := Int.tmod_eq_emod_of_nonneg (by omega)
    have hwb : IntKind.i64.wrap (1 + (ny : Int) % 7) = bi := by rw [IntKind.wrap_i64] <;> omega
    clear hbi
    go_wp2
    go_loopw [12] (fun kv wr => ∃ (k : Nat) (n : Int) (ra : Option Addr) (m rc : Nat) (ua : Option Addr) (uc : Nat) (L : List Pk) (pl : List Pkt), k ≤ 3 ∧ kv = .int .i64 k ∧ CurB w wr q n ra m rc ua nu uc L pl W (.slice ba ny bc) (.slice bb ny bd) YY ∧ pl.length + bulk pl ≤ 604096 + 17001 * k) (fun kv _ => 3 - (intOf kv).toNat)
    case atStart => exact ⟨0, N, ra, m, rc, ua, uc, L, P, by omega, rfl, HC4.out, by have := HPl.out; omega⟩
    case round =>
      clear HC4
      obtain ⟨k, n, ra, m, rc, ua, uc, L, pl, hk, rfl, hcur, hbulk⟩ := hrel
      have HC : Hid (CurB w wr q n ra m rc ua nu uc L pl W (.slice ba ny bc) (.slice bb ny bd) YY) := hcur
      have HBu : Hid (pl.length + bulk pl ≤ 660000) := (by omega : pl.length + bulk pl ≤ 660000)
      clear hcur
      by_cases hk3 : k < 3
      case neg =>
        have hk3' : ¬ (k : Int) < 3 := by omega
        have cq := HC.out.blk.cell
        by_cases h5 : (500 : Int) < (m : Int)
        · go_wp2_with fail
          go_ret
          exact ⟨rfl, HC.out.bel⟩
        · go_wp2_with (first
            | (have hBA := HC; refine gate_ld 29 (.tmp 8) rfl ?_; clear hBA; refine wpl_load_blkG rfl rfl 29 (.tmp 8) rfl q rfl HC.out.blk Try.underlying29 rfl infoBagB rfl ?_)
            | (go_at_call 33; refine (HW.out _ n ra m rc ua nu uc L pl W bi HC.out.hm HC.out.hnu HC.out.pks HC.out.ix HC.out.ct HC.out.ok (by have := HBu.out; omega) (by omega) hbi1.1 hbi1.2).mono ?_; rintro e wz ⟨rfl, hbz⟩; have HBz : Hid (Below w.heap.size w wz) := HC.out.bel.trans (hbz.mono HC.out.bel.size); clear hbz))
          go_ret
          exact ⟨rfl, HBz.out⟩
      have hk3' : (k : Int) < 3 := by omega
      have HSp : Hid (Calls Try.prog 15 #[.agg #[.int .i64 n, .slice ra m rc, .slice ua nu uc], .int .i64 FV, .int .i64 TV, .slice ba ny bc] wr fun e w' => PutAt wr w' e (putAns n pl W FV TV YY)) := (HC.out.put FV TV HC.out.b1 (by have := HBu.out; omega) HWl.out HYl.out).1
      have HIp : Hid (∀ u, CurB w u q n ra m rc ua nu uc L pl W (.slice ba ny bc) (.slice bb ny bd) YY → Calls Try.prog 17 #[.agg #[.int .i64 n, .slice ra m rc, .slice ua nu uc], .int .i64 FV, .int .i64 TV, .slice bb ny bd] u fun e w' => PutAt u w' e (putAns n pl W FV TV YY)) := fun u hu => (hu.put FV TV hu.b2 (by have := HBu.out; omega) HWl.out HYl.out).2
      have hX : putAns n pl W FV TV YY = if putC n pl.length W FV TV YY.length = 0 then (0, n, n + 1, pl ++ [⟨n, FV, TV, YY⟩], W) else (putC n pl.length W FV TV YY.length, 0, n, pl, W) := by
        unfold putAns
        rw [HC.out.ok, if_neg (by simp)]
      have G1 : True := trivial
      by_cases hpc : putC n pl.length W FV TV YY.length = 0
      · rw [if_pos hpc] at hX
        rw [hX] at HSp HIp
        have hmore := bagB_more HC.out.ok hpc
        have htk := take_last HC.out.ok hpc
        have hids := pksB_ids n pl 0 (by have := HC.out.ok; unfold bagB at this; rw [Bool.and_eq_true, Bool.and_eq_true, Bool.and_eq_true] at this; exact this.1.2.2)
        have hmp : m = pl.length := by rw [← HC.out.ct, cont_len]; exact HC.out.hm
        have hbu2 : (pl ++ [(⟨n, FV, TV, YY⟩ : Pkt)]).length + bulk (pl ++ [(⟨n, FV, TV, YY⟩ : Pkt)]) ≤ 604096 + 17001 * (k + 1) := by
          rw [List.length_append, bulk_app]
          have e1 : bulk [(⟨n, FV, TV, YY⟩ : Pkt)] = YY.length + 0 := rfl
          rw [e1, ← Hny.out]
          simp
          omega
        have hidp : ∀ (j : Nat) (h : j < (pl ++ [(⟨n, FV, TV, YY⟩ : Pkt)]).length), j + 1 < (pl ++ [(⟨n, FV, TV, YY⟩ : Pkt)]).length → (pl ++ [(⟨n, FV, TV, YY⟩ : Pkt)])[j].id < n := fun j h hj => by
          have hj' : j < pl.length := by rw [List.length_append] at hj; simp at hj; omega
          rw [List.getElem_append_left hj']
          exact hids _ (List.getElem_mem hj')
        have hpl : (pl ++ [(⟨n, FV, TV, YY⟩ : Pkt)]).length = m + 1 := by rw [List.length_append, hmp]; rfl
        have HPL : Hid ((pl ++ [(⟨n, FV, TV, YY⟩ : Pkt)]).length = m + 1) := hpl
        have HMo : Hid (bagB (n + 1) (pl ++ [(⟨n, FV, TV, YY⟩ : Pkt)]) W = true) := hmore
        have HIDp : Hid (∀ (j : Nat) (h : j < (pl ++ [(⟨n, FV, TV, YY⟩ : Pkt)]).length), j + 1 < (pl ++ [(⟨n, FV, TV, YY⟩ : Pkt)]).length → (pl ++ [(⟨n, FV, TV, YY⟩ : Pkt)])[j].id < n) := hidp
        have HBU2 : Hid ((pl ++ [(⟨n, FV, TV, YY⟩ : Pkt)]).length + bulk (pl ++ [(⟨n, FV, TV, YY⟩ : Pkt)]) ≤ 604096 + 17001 * (k + 1)) := hbu2
        have hm4 : m ≤ 5000 := by
          have := HC.out.ok
          unfold bagB at this
          rw [Bool.and_eq_true, Bool.and_eq_true, Bool.and_eq_true] at this
          have h4 : pl.length ≤ 4096 := by simpa using this.1.2.1
          omega
        have HSq : Hid (Calls Try.prog 15 #[.agg #[.int .i64 n, .slice ra m rc, .slice ua nu uc], .int .i64 FV, .int .i64 TV, .slice ba ny bc] wr fun e w' => ∃ va vn vc ub un ud, e = .returned (.agg #[.int .i64 0, .int .i64 n, .int .i64 (n + 1), .slice va vn vc, .slice ub un ud]) ∧ Below wr.heap.size wr w') := HSp.out.mono fun e w' ⟨va, vc, ub, ud, L2, he, _, _, hb⟩ => ⟨va, _, vc, ub, _, ud, he, hb⟩
        have HIq : Hid (∀ u, CurB w u q n ra m rc ua nu uc L pl W (.slice ba ny bc) (.slice bb ny bd) YY → Calls Try.prog 17 #[.agg #[.int .i64 n, .slice ra m rc, .slice ua nu uc], .int .i64 FV, .int .i64 TV, .slice bb ny bd] u fun e w' => ∃ va vc ub ud L2, e = .returned (.agg #[.int .i64 0, .int .i64 n, .int .i64 (n + 1), .slice va (m + 1) vc, .slice ub nu ud]) ∧ m + 1 = L2.length ∧ cont L2 = pl ++ [(⟨n, FV, TV, YY⟩ : Pkt)] ∧ Pks w' (.slice va (m + 1) vc) L2 ∧ Ix w' (.slice ub nu ud) W ∧ Below u.heap.size u w') := fun u hu => (HIp.out u hu).mono fun e w' ⟨va, vc, ub, ud, L2, he, hc, hr, hb⟩ => by
          dsimp only at he hc hr
          have hl2 : m + 1 = L2.length := by rw [← HPL.out, ← hc, cont_len]
          rw [← hl2, ← Hnu.out] at he hr
          exact ⟨va, vc, ub, ud, L2, he, hl2, hc, hr.pks.pks, hr.ints.ix, hb⟩
        have HTk : Hid (∀ (u : World) (va ub : Option Addr) (vc ud : Nat) (L2 : List Pk), m + 1 = L2.length → cont L2 = pl ++ [(⟨n, FV, TV, YY⟩ : Pkt)] → Pks u (.slice va (m + 1) vc) L2 → Ix u (.slice ub nu ud) W → Calls Try.prog 31 #[.agg #[.int .i64 (n + 1), .slice va (m + 1) vc, .slice ub nu ud], .int .i64 (-1), .int .i64 1] u fun e w' => ∃ pa pd xa xc xb xd L3, e = .returned (.agg #[.int .i64 0, .int .i64 0, .int .i64 n, .int .i64 FV, .int .i64 TV, .slice pa ny pd, .int .i64 (n + 1), .slice xa (m + 1) xc, .slice xb nu xd]) ∧ m + 1 = L3.length ∧ cont L3 = pl ++ [(⟨n, FV, TV, YY⟩ : Pkt)] ∧ TkR u.heap.size w'.heap.size w' (.slice pa ny pd) YY (.slice xa (m + 1) xc) (.slice xb nu xd) L3 W ∧ Below u.heap.size u w') := fun u va ub vc ud L2 hl2 hc2 hp2 hi2 => by
          have hl' : L2.length + bulk (cont L2) ≤ 1048576 := by rw [hc2, ← cont_len L2, hc2]; have := HBU2.out; omega
          rw [hl2] at hp2
          rw [Hnu.out] at hi2
          have hx := bagTake_any (n + 1) va vc ub ud L2 W (-1) 1 (by omega) (by omega) u hp2 hi2 hl' HWl.out
          rw [hc2, htk, ← hl2, ← Hnu.out] at hx
          refine hx.mono fun e w' ⟨pa, pd, xa, xc, xb, xd, L3, he, hc3, hr3, hb3⟩ => ?_
          dsimp only at he hc3 hr3
          have hl3 : m + 1 = L3.length := by rw [← HPL.out, ← hc3, cont_len]
          rw [← hl3, ← Hnu.out, ← Hny.out] at he hr3
          exact ⟨pa, pd, xa, xc, xb, xd, L3, he, hl3, hc3, hr3, hb3⟩
        clear HSp HIp hX hmore htk hids hmp hidp hpl hbu2 hpc
        go_upto_region 13 with (first
          | (have hG1 := G1; refine gate_ld 29 (.tmp 8) rfl ?_; clear hG1 G1; refine wpl_load_blk rfl 29 (.tmp 8) rfl q rfl HC.out.blk Try.underlying29 rfl infoBagB rfl ?_)
          | (go_at_call 15; refine HSq.out.mono ?_; rintro e w5 ⟨va5, vn5, vc5, ub5, un5, ud5, rfl, hb5⟩; have HC5 : Hid (CurB w w5 q n ra m rc ua nu uc L pl W (.slice ba ny bc) (.slice bb ny bd) YY) := HC.out.below hb5; clear hb5)
          | (have hBA := HC5; refine gate_ld 29 (.tmp 8) rfl ?_; clear hBA; refine wpl_load_blk rfl 29 (.tmp 8) rfl q rfl HC5.out.blk Try.underlying29 rfl infoBagB rfl ?_)
          | (go_at_call 17; refine (HIq.out _ HC5.out).mono ?_; rintro e w6 ⟨va, vc, ub, ud, L2, rfl, hl2, hc2, hp2, hi2, hb6⟩; have hal : Below w6.heap.size w6 (w6.alloc (.cells #[.int .i64 0, .int .i64 n, .int .i64 (n + 1), .slice va (m + 1) vc, .slice ub nu ud] 37)) := (Below.refl _ _).alloc (Nat.le_refl _) _; have HC6 : Hid (CurB w (w6.alloc (.cells #[.int .i64 0, .int .i64 n, .int .i64 (n + 1), .slice va (m + 1) vc, .slice ub nu ud] 37)) q n ra m rc ua nu uc L pl W (.slice ba ny bc) (.slice bb ny bd) YY) := (HC5.out.below hb6).below hal; have BP6 : Hid (Blk (w6.alloc (.cells #[.int .i64 0, .int .i64 n, .int .i64 (n + 1), .slice va (m + 1) vc, .slice ub nu ud] 37)) w6.heap.size #[.int .i64 0, .int .i64 n, .int .i64 (n + 1), .slice va (m + 1) vc, .slice ub nu ud] 37) := Blk.new _ _ _; have HP6 : Hid (Pks (w6.alloc (.cells #[.int .i64 0, .int .i64 n, .int .i64 (n + 1), .slice va (m + 1) vc, .slice ub nu ud] 37)) (.slice va (m + 1) vc) L2) := hp2.below hal; have HI6 : Hid (Ix (w6.alloc (.cells #[.int .i64 0, .int .i64 n, .int .i64 (n + 1), .slice va (m + 1) vc, .slice ub nu ud] 37)) (.slice ub nu ud) W) := hi2.below hal; have Hl2 : Hid (m + 1 = L2.length) := hl2; have Hc2 : Hid (cont L2 = pl ++ [(⟨n, FV, TV, YY⟩ : Pkt)]) := hc2; clear hb6 hal hl2 hc2 hp2 hi2)
          | (have hBA := BP6; refine gate_st 37 (.tmp 14) (.tmp 56) rfl ?_; clear hBA; refine wpl_store_last rfl 37 (.tmp 14) (.tmp 56) rfl w6.heap.size rfl rfl rfl infoPutB rfl rfl (by simp [Value.oneCell']) ?_))
        have hpn : ∀ (a : Act) (v : Value), a.put none v = a := fun _ _ => rfl
        simp only [hpn]
        clear hpn
        obtain ⟨W6, hW6⟩ : ∃ W, W = (w6.alloc (.cells #[.int .i64 0, .int .i64 n, .int .i64 (n + 1), .slice va (m + 1) vc, .slice ub nu ud] 37)) := ⟨_, rfl⟩
        rw [← hW6] at HC6 BP6 HP6 HI6 ⊢
        clear hW6 HC5 HC HSq HIq
        have cp6 := BP6.out.cell
        have G2 : True := trivial
        go_upto_region 19 with (first
          | (have hG2 := G2; refine gate_ld 29 (.tmp 77) rfl ?_; clear hG2 G2; refine wpList_load_mid rfl 29 (.tmp 77) rfl w6.heap.size 2 rfl [.int .i64 (n + 1), .slice va (m + 1) vc, .slice ub nu ud] _ (rangeB (xs := [.int .i64 0, .int .i64 n]) BP6.out rfl) Try.underlying29 rfl infoBagB ?_)
          | (go_at_call 31; refine (HTk.out _ va ub vc ud L2 Hl2.out Hc2.out HP6.out HI6.out).mono ?_; rintro e w7 ⟨pa, pd, xa, xc, xb, xd, L3, rfl, hl3, hc3, hr3, hb7⟩; have hal : Below w7.heap.size w7 (w7.alloc (.cells #[.int .i64 0, .int .i64 0, .int .i64 n, .int .i64 FV, .int .i64 TV, .slice pa ny pd, .int .i64 (n + 1), .slice xa (m + 1) xc, .slice xb nu xd] 62)) := (Below.refl _ _).alloc (Nat.le_refl _) _; have HC7 : Hid (CurB w (w7.alloc (.cells #[.int .i64 0, .int .i64 0, .int .i64 n, .int .i64 FV, .int .i64 TV, .slice pa ny pd, .int .i64 (n + 1), .slice xa (m + 1) xc, .slice xb nu xd] 62)) q n ra m rc ua nu uc L pl W (.slice ba ny bc) (.slice bb ny bd) YY) := (HC6.out.below hb7).below hal; have BT7 : Hid (Blk (w7.alloc (.cells #[.int .i64 0, .int .i64 0, .int .i64 n, .int .i64 FV, .int .i64 TV, .slice pa ny pd, .int .i64 (n + 1), .slice xa (m + 1) xc, .slice xb nu xd] 62)) w7.heap.size #[.int .i64 0, .int .i64 0, .int .i64 n, .int .i64 FV, .int .i64 TV, .slice pa ny pd, .int .i64 (n + 1), .slice xa (m + 1) xc, .slice xb nu xd] 62) := Blk.new _ _ _; have BP7 : Hid (Blk (w7.alloc (.cells #[.int .i64 0, .int .i64 0, .int .i64 n, .int .i64 FV, .int .i64 TV, .slice pa ny pd, .int .i64 (n + 1), .slice xa (m + 1) xc, .slice xb nu xd] 62)) w6.heap.size #[.int .i64 0, .int .i64 n, .int .i64 (n + 1), .slice va (m + 1) vc, .slice ub nu ud] 37) := (BP6.out.below hb7 BP6.out.lt).below hal (Nat.lt_of_lt_of_le BP6.out.lt hb7.size); have HR7 : Hid (TkR W6.heap.size w7.heap.size (w7.alloc (.cells #[.int .i64 0, .int .i64 0, .int .i64 n, .int .i64 FV, .int .i64 TV, .slice pa ny pd, .int .i64 (n + 1), .slice xa (m + 1) xc, .slice xb nu xd] 62)) (.slice pa ny pd) YY (.slice xa (m + 1) xc) (.slice xb nu xd) L3 W) := hr3.keep fun k _ hk => hal.block k hk; have Hl3 : Hid (m + 1 = L3.length) := hl3; have Hc3 : Hid (cont L3 = pl ++ [(⟨n, FV, TV, YY⟩ : Pkt)]) := hc3; have HZ7 : Hid (q < W6.heap.size) := HC6.out.blk.lt; clear hb7 hal hl3 hc3 hr3)
          | (have hBA := BT7; refine gate_st 62 (.tmp 15) (.tmp 79) rfl ?_; clear hBA; refine wpl_store_last rfl 62 (.tmp 15) (.tmp 79) rfl w7.heap.size rfl rfl rfl infoTk rfl rfl (by simp [Value.oneCell']) ?_))
        have hpn : ∀ (a : Act) (v : Value), a.put none v = a := fun _ _ => rfl
        simp only [hpn]
        clear hpn
        obtain ⟨W7, hW7⟩ : ∃ W, W = (w7.alloc (.cells #[.int .i64 0, .int .i64 0, .int .i64 n, .int .i64 FV, .int .i64 TV, .slice pa ny pd, .int .i64 (n + 1), .slice xa (m + 1) xc, .slice xb nu xd] 62)) := ⟨_, rfl⟩
        rw [← hW7] at HC7 BT7 BP7 HR7 ⊢
        clear hW7 HC6 BP6 HP6 HI6 HTk cp6
        have ct7 := BT7.out.cell
        have cp7 := BP7.out.cell
        have cq7 := HC7.out.blk.cell
        have hwm : IntKind.i64.wrap ((m : Int) + 1) = (m : Int) + 1 := by rw [IntKind.wrap_i64] <;> omega
        have HYp : Hid (Bs W7 (.slice pa ny pd) YY) := (by obtain ⟨l1, g1, l2, g2, _, _, _, _, _, _, _, hy⟩ := HR7.out.ex; exact hy.bs (by have := HYl.out; unfold maxLen; omega) : Bs W7 (.slice pa ny pd) YY)
        have hwz : IntKind.i64.wrap ((m : Int) + 1 - 1) = (m : Int) := by rw [IntKind.wrap_i64] <;> omega
        go_upto_region 23 with (go_at_call 32; refine (sameBytes_len _ _ YY YY rfl _ HYp.out HC7.out.b1).mono ?_; rintro e w8 ⟨rfl, q8, rfl⟩; rw [decide_eq_true (rfl : YY = YY)])
        obtain ⟨W8, hW8⟩ : ∃ W, W = W7.drewN q8 := ⟨_, rfl⟩
        have hb8 : Below W7.heap.size W7 W8 := by rw [hW8]; exact ⟨rfl, rfl, rfl, Nat.le_refl _, fun _ _ => rfl⟩
        have HC8 : Hid (CurB w W8 q n ra m rc ua nu uc L pl W (.slice ba ny bc) (.slice bb ny bd) YY) := HC7.out.below hb8
        have BT8 : Hid (Blk W8 w7.heap.size #[.int .i64 0, .int .i64 0, .int .i64 n, .int .i64 FV, .int .i64 TV, .slice pa ny pd, .int .i64 (n + 1), .slice xa (m + 1) xc, .slice xb nu xd] 62) := BT7.out.below hb8 BT7.out.lt
        have BP8 : Hid (Blk W8 w6.heap.size #[.int .i64 0, .int .i64 n, .int .i64 (n + 1), .slice va (m + 1) vc, .slice ub nu ud] 37) := BP7.out.below hb8 BP7.out.lt
        have HR8 : Hid (TkR W6.heap.size w7.heap.size W8 (.slice pa ny pd) YY (.slice xa (m + 1) xc) (.slice xb nu xd) L3 W) := HR7.out.keep fun k _ hk => hb8.block k (by have := BT7.out.lt; omega)
        rw [← hW8]
        clear hW8 hb8 HC7 BT7 BP7 HR7 HYp ct7 cp7 cq7
        have ct8 := BT8.out.cell
        have cp8 := BP8.out.cell
        have HPk : Hid (Pks W8 (.slice xa (m + 1) xc) L3) := (by obtain ⟨l1, g1, l2, g2, _, _, _, _, _, _, hb, _⟩ := HR8.out.ex; exact hb.pks.pks : Pks W8 (.slice xa (m + 1) xc) L3)
        obtain ⟨kk, hkk⟩ : ∃ x, x = k := ⟨_, rfl⟩
        subst hkk
        go_wp2
        go_loopw [16] (fun iv wx => ∃ i d : Nat, i ≤ m ∧ iv = .int .i64 i ∧ wx = W8.drewN d) (fun iv _ => m - (intOf iv).toNat)
        case atStart => exact ⟨0, 0, Nat.zero_le _, rfl, rfl⟩
        case round =>
          obtain ⟨i, d, hi, rfl, rfl⟩ := hrel
          by_cases hlt : i < m
          · have d1 : (i : Int) < (m : Int) := by omega
            have d2 : (i : Int) < (m : Int) + 1 := by omega
            obtain ⟨b, off, x, cap, e, hcx, hxn⟩ := pks_id HPk.out Hc3.out HIDp.out i (by rw [← Hl3.out]; omega)
            injection e with e1 e2 e3
            subst e1
            have hge : ¬ n ≤ x := by omega
            clear e2 e3 HPk HR8
            go_wp2
            go_quiet (fail)
            go_wp2
            go_roundw
            case rel => exact ⟨i + 1, _, by omega, by go_num, rfl⟩
            case measure => simp [intOf]; omega
          · have him : m = i := by omega
            subst him
            have d1 : ¬ (m : Int) < (m : Int) := by omega
            obtain ⟨W9, hW9⟩ : ∃ W, W = W8.drewN d := ⟨_, rfl⟩
            have hb9 : Below W8.heap.size W8 W9 := by rw [hW9]; exact ⟨rfl, rfl, rfl, Nat.le_refl _, fun _ _ => rfl⟩
            have HC9 : Hid (CurB w W9 q n ra m rc ua nu uc L pl W (.slice ba ny bc) (.slice bb ny bd) YY) := HC8.out.below hb9
            have BT9 : Hid (Blk W9 w7.heap.size #[.int .i64 0, .int .i64 0, .int .i64 n, .int .i64 FV, .int .i64 TV, .slice pa ny pd, .int .i64 (n + 1), .slice xa (m + 1) xc, .slice xb nu xd] 62) := BT8.out.below hb9 BT8.out.lt
            have HR9 : Hid (TkR W6.heap.size w7.heap.size W9 (.slice pa ny pd) YY (.slice xa (m + 1) xc) (.slice xb nu xd) L3 W) := HR8.out.keep fun k _ hk => hb9.block k (by have := BT8.out.lt; omega)
            rw [← hW9]
            clear hW9 hb9 HC8 BT8 BP8 HR8 HPk ct8 cp8
            have ct9 := BT9.out.cell
            have G4 : True := trivial
            go_wp2_with (first
              | (have hG4 := G4; refine gate_ld 29 (.tmp 146) rfl ?_; clear hG4 G4; refine wpList_load_mid rfl 29 (.tmp 146) rfl w7.heap.size 6 rfl [.int .i64 (n + 1), .slice xa (m + 1) xc, .slice xb nu xd] _ (rangeB (xs := [.int .i64 0, .int .i64 0, .int .i64 n, .int .i64 FV, .int .i64 TV, .slice pa ny pd]) BT9.out rfl) Try.underlying29 rfl infoBagB ?_)
              | (have hBA := HC9; refine gate_st 29 (.tmp 8) (.tmp 147) rfl ?_; clear hBA; refine wpl_store_blk rfl 29 (.tmp 8) (.tmp 147) rfl q rfl rfl HC9.out.blk infoBagB rfl rfl (by simp [Value.oneCell']) ?_))
            go_roundw
            case rel =>
              obtain ⟨l1', g1', l2', g2', e1, e2, e3, e4, e5, e6, hbag, _⟩ := HR9.out.ex
              have hkeep := hbag.keep (w' := W9.setRow q #[.int .i64 (n + 1), .slice xa (m + 1) xc, .slice xb nu xd]) fun k' a' b' => setRow_other _ _ _ _ (by have := HZ7.out; omega)
              exact ⟨kk + 1, n + 1, xa, m + 1, xc, xb, xd, L3, pl ++ [(⟨n, FV, TV, YY⟩ : Pkt)], by omega, by go_num, ⟨HC9.out.blk.row _, Hl3.out, Hnu.out, hkeep.pks.pks, hkeep.ints.ix, Hc3.out, HMo.out, bs_setRow HC9.out.b1 HC9.out.blk (noU8_of rfl), bs_setRow HC9.out.b2 HC9.out.blk (noU8_of rfl), below_row HC9.out.bel HC9.out.hq _, HC9.out.hq⟩, HBU2.out⟩
            case measure => simp [intOf]; omega
      · rw [if_neg hpc] at hX
        rw [hX] at HSp HIp
        generalize putC n pl.length W FV TV YY.length = pc at *
        have hpq : (pc != 0) = true := by rw [bne_iff_ne]; exact hpc
        have hpp : (pc != pc) = false := by simp
        clear hX hpc
        have HSq : Hid (Calls Try.prog 15 #[.agg #[.int .i64 n, .slice ra m rc, .slice ua nu uc], .int .i64 FV, .int .i64 TV, .slice ba ny bc] wr fun e w' => ∃ va vn vc ub un ud, e = .returned (.agg #[.int .i64 pc, .int .i64 0, .int .i64 n, .slice va vn vc, .slice ub un ud]) ∧ Below wr.heap.size wr w') := HSp.out.mono fun e w' ⟨va, vc, ub, ud, L2, he, _, _, hb⟩ => ⟨va, _, vc, ub, _, ud, he, hb⟩
        have HIq : Hid (∀ u, CurB w u q n ra m rc ua nu uc L pl W (.slice ba ny bc) (.slice bb ny bd) YY → Calls Try.prog 17 #[.agg #[.int .i64 n, .slice ra m rc, .slice ua nu uc], .int .i64 FV, .int .i64 TV, .slice bb ny bd] u fun e w' => ∃ va vn vc ub un ud, e = .returned (.agg #[.int .i64 pc, .int .i64 0, .int .i64 n, .slice va vn vc, .slice ub un ud]) ∧ m = vn ∧ Below u.heap.size u w') := fun u hu => (HIp.out u hu).mono fun e w' ⟨va, vc, ub, ud, L2, he, hc, _, hb⟩ => ⟨va, _, vc, ub, _, ud, he, (by
          have h1 := cont_len L2
          have h2 := cont_len L
          rw [hc] at h1
          rw [hu.ct] at h2
          dsimp only at h1
          have := hu.hm
          omega), hb⟩
        clear HSp HIp
        go_upto_region 13 with (first
          | (have hG1 := G1; refine gate_ld 29 (.tmp 8) rfl ?_; clear hG1 G1; refine wpl_load_blk rfl 29 (.tmp 8) rfl q rfl HC.out.blk Try.underlying29 rfl infoBagB rfl ?_)
          | (go_at_call 15; refine HSq.out.mono ?_; rintro e w5 ⟨va5, vn5, vc5, ub5, un5, ud5, rfl, hb5⟩; have HC5 : Hid (CurB w w5 q n ra m rc ua nu uc L pl W (.slice ba ny bc) (.slice bb ny bd) YY) := HC.out.below hb5; clear hb5)
          | (have hBA := HC5; refine gate_ld 29 (.tmp 8) rfl ?_; clear hBA; refine wpl_load_blk rfl 29 (.tmp 8) rfl q rfl HC5.out.blk Try.underlying29 rfl infoBagB rfl ?_)
          | (go_at_call 17; refine (HIq.out _ HC5.out).mono ?_; rintro e w6 ⟨va, vn, vc, ub, un, ud, rfl, hvn, hb6⟩; subst hvn; have HC6 : Hid (CurB w (w6.alloc (.cells #[.int .i64 pc, .int .i64 0, .int .i64 n, .slice va m vc, .slice ub un ud] 37)) q n ra m rc ua nu uc L pl W (.slice ba ny bc) (.slice bb ny bd) YY) := (HC5.out.below hb6).below ((Below.refl _ _).alloc (Nat.le_refl _) _); have BP6 : Hid (Blk (w6.alloc (.cells #[.int .i64 pc, .int .i64 0, .int .i64 n, .slice va m vc, .slice ub un ud] 37)) w6.heap.size #[.int .i64 pc, .int .i64 0, .int .i64 n, .slice va m vc, .slice ub un ud] 37) := Blk.new _ _ _; clear hb6)
          | (have hBA := BP6; refine gate_st 37 (.tmp 14) (.tmp 56) rfl ?_; clear hBA; refine wpl_store_last rfl 37 (.tmp 14) (.tmp 56) rfl w6.heap.size rfl rfl rfl infoPutB rfl rfl (by simp [Value.oneCell']) ?_))
        have hpn : ∀ (a : Act) (v : Value), a.put none v = a := fun _ _ => rfl
        simp only [hpn]
        clear hpn
        obtain ⟨W6, hW6⟩ : ∃ W, W = (w6.alloc (.cells #[.int .i64 pc, .int .i64 0, .int .i64 n, .slice va m vc, .slice ub un ud] 37)) := ⟨_, rfl⟩
        rw [← hW6] at HC6 BP6 ⊢
        clear hW6 HC5 HC HSq HIq
        have cp6 := BP6.out.cell
        have cq := HC6.out.blk.cell
        by_cases h5 : (500 : Int) < (m : Int)
        · go_wp2_with fail
          go_ret
          exact ⟨rfl, HC6.out.bel⟩
        · go_wp2_with (first
            | (have hBA := HC6; refine gate_ld 29 (.tmp 8) rfl ?_; clear hBA; refine wpl_load_blkG rfl rfl 29 (.tmp 8) rfl q rfl HC6.out.blk Try.underlying29 rfl infoBagB rfl ?_)
            | (go_at_call 33; refine (HW.out _ n ra m rc ua nu uc L pl W bi HC6.out.hm HC6.out.hnu HC6.out.pks HC6.out.ix HC6.out.ct HC6.out.ok (by have := HBu.out; omega) (by omega) hbi1.1 hbi1.2).mono ?_; rintro e wz ⟨rfl, hbz⟩; have HBz : Hid (Below w.heap.size w wz) := HC6.out.bel.trans (hbz.mono HC6.out.bel.size); clear hbz))
          go_ret
          exact ⟨rfl, HBz.out⟩
end Go.Proofs.Ytfcmffdljfljkaa
