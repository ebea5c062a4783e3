/-
  spec.l3badBag.
-/
import Derived.Test.YtfcmffdljfljkaaDrBag
namespace Go.Proofs.Ytfcmffdljfljkaa
open Go.RowKit
set_option linter.unusedVariables false
set_option linter.unusedSimpArgs false

theorem pksC_set (L : List Pk) : ∀ (i : Nat) (hi : i < L.length) (p' : Pk) (j : Nat) (y : Value), j < 4 → pkC p' = (pkC L[i]).set j y → pksC (L.set i p') = (pksC L).set (i * 4 + j) y := by
  induction L with
  | nil => intro i hi; simp at hi
  | cons e L ih =>
    intro i hi p' j y hj hc
    have h4 : (pkC e).length = 4 := rfl
    cases i with
    | zero =>
      rw [List.set_cons_zero, pksC, pksC, hc, List.set_append, if_pos (by rw [h4]; omega)]
      simp
    | succ i =>
      rw [List.set_cons_succ, pksC, pksC, ih i (by simpa using hi) p' j y hj (by simpa using hc), List.set_append, if_neg (by rw [h4]; omega), h4]
      congr 2
      omega
/-- a cell of a packet set: a number, or its bytes tq nil -/
theorem OwnP.setP {w : World} {B q n c : Nat} {L : List Pk} (h : OwnP w B (.slice (some ⟨q, 0, none⟩) n c) L) (hn : n = L.length) (i : Nat) (hi : i < L.length) (p' : Pk) (j : Nat) (y : Value) (hj : j < 4) (hc : pkC p' = (pkC L[i]).set j y)
    (hq : (p'.2 = L[i].2 ∧ p'.1.bs = L[i].1.bs) ∨ (p'.2 = .slice none 0 0 ∧ p'.1.bs = [])) : OwnP (w.setCell ⟨q, i * 4 + j, none⟩ y) B (.slice (some ⟨q, 0, none⟩) n c) (L.set i p') := by
  subst hn
  have hk : ∀ k, k ≠ q → (w.setCell ⟨q, i * 4 + j, none⟩ y).heap[k]? = w.heap[k]? := fun k hk => Below.heap_setCell _ _ _ _ hk
  have hby : ∀ p ∈ L, Own (w.setCell ⟨q, i * 4 + j, none⟩ y) B p.2 p.1.bs := fun p hp => (h.bytes p hp).1.block fun k e => hk k fun e' => h.off p hp k e (by rw [e']; rfl)
  have hm := List.getElem_mem hi
  have hfar : ∀ u : Value, Far L[i].2 u → Far p'.2 u := fun u hu k e => by
    rcases hq with hq | hq
    · exact hu k (by rw [← hq.1]; exact e)
    · rw [hq.1] at e; cases e
  have hfar' : ∀ u : Value, Far u L[i].2 → Far u p'.2 := fun u hu k e e2 => by
    rcases hq with hq | hq
    · exact hu k e (by rw [← hq.1]; exact e2)
    · rw [hq.1] at e2; cases e2
  refine ⟨?_, fun p hp => ?_, fun p hp => ?_, ?_⟩
  · rw [List.length_set, pksC_set L i hi p' j y hj hc]
    exact (World.ownsRow.stored h.row (i * 4 + j) y).1
  · rcases List.mem_or_eq_of_mem_set hp with hp | rfl
    · exact ⟨hby p hp, (h.bytes p hp).2⟩
    · rcases hq with hq | hq
      · rw [hq.1, hq.2]; exact ⟨hby _ hm, (h.bytes _ hm).2⟩
      · rw [hq.1, hq.2]; exact ⟨Own.nil _ _, by simp [maxLen]⟩
  · rcases List.mem_or_eq_of_mem_set hp with hp | rfl
    · exact h.off p hp
    · exact hfar _ (h.off _ hm)
  · rw [List.pairwise_iff_getElem]
    have hp := List.pairwise_iff_getElem.1 h.apart
    intro a b ha hb hab
    rw [List.length_set] at ha hb
    rw [List.getElem_set, List.getElem_set]
    by_cases e1 : i = a
    · subst e1
      rw [if_pos rfl, if_neg (by omega)]
      exact hfar _ (hp _ _ ha hb hab)
    · rw [if_neg e1]
      by_cases e2 : i = b
      · subst e2
        rw [if_pos rfl]
        exact hfar' _ (hp _ _ ha hb hab)
      · rw [if_neg e2]
        exact hp _ _ ha hb hab
theorem Dr.setO {w0 w : World} {g k : Nat} {v : Value} {l : List Int} {F : List (Nat × Array Value × TypeId)} (h : Dr w0 w g v l k F) {q j : Nat} (hq : w0.heap.size ≤ q) (hF : ∀ x ∈ F, q ≠ x.1) (y : Value) : Dr w0 (w.setCell ⟨q, j, none⟩ y) g v l k F :=
  ⟨grownBy_set_new h.grown hq _ _, src_belowB h.src h.bs0 (Nat.le_refl _) h.gl ((Below.refl w0.heap.size w).setCell hq y), h.gl, h.bs0, fun i x e => ⟨(h.blks i x e).1, ((h.blks i x e).2.1).set_other _ (Ne.symm (hF x (List.mem_of_getElem? e))), (h.blks i x e).2.2⟩, h.dis⟩
theorem Dr.front {w0 w : World} {g k : Nat} {v : Value} {l : List Int} {F F' : List (Nat × Array Value × TypeId)} (h : Dr w0 w g v l k (F ++ F')) : Dr w0 w g v l k F := by
  have hx : ∀ (i : Nat) x, F[i]? = some x → (F ++ F')[i]? = some x := fun i x e => by
    rw [List.getElem?_append_left (List.getElem?_eq_some_iff.1 e).1]; exact e
  exact ⟨h.grown, h.src, h.gl, h.bs0, fun i x e => h.blks i x (hx i x e), fun i j x y ei ej e => h.dis i j x y (hx i x ei) (hx j y ej) e⟩

theorem OwnP.atN {w : World} {B g n cap : Nat} {L : List Pk} (h : OwnP w B (.slice (some ⟨g, 0, none⟩) n cap) L) (hn : n = L.length) (j : Nat) (hj : j < L.length) : PkAt w g (j * 4) L[j] := by
  subst hn
  exact h.at_ j hj
theorem OwnP.frN {w : World} {B g n cap : Nat} {L : List Pk} (h : OwnP w B (.slice (some ⟨g, 0, none⟩) n cap) L) (hn : n = L.length) (j : Nat) : w.frozen? ⟨g, j, none⟩ = false := by
  subst hn
  exact World.ownsRow.frozenAt h.row j
theorem bad_set {w0 w : World} {g K : Nat} {v : Value} {l : List Int} {F : List (Nat × Array Value × TypeId)} (hd : Dr w0 w g v l K F) (hT : ∀ x ∈ F, 60 ≠ x.2.2) {qb n rc : Nat} {L : List Pk} (hp : OwnP w w0.heap.size (.slice (some ⟨qb, 0, none⟩) n rc) L) (hn : n = L.length) {u : Value} {WL : List Int} (hI : OwnI w w0.heap.size u WL)
    (i : Nat) (hi : i < L.length) (p' : Pk) (j : Nat) (y : Value) (hj : j < 4) (hc : pkC p' = (pkC L[i]).set j y) (hq : (p'.2 = L[i].2 ∧ p'.1.bs = L[i].1.bs) ∨ (p'.2 = .slice none 0 0 ∧ p'.1.bs = [])) :
    OwnP (w.setCell ⟨qb, i * 4 + j, none⟩ y) w0.heap.size (.slice (some ⟨qb, 0, none⟩) n rc) (L.set i p') ∧ OwnI (w.setCell ⟨qb, i * 4 + j, none⟩ y) w0.heap.size u WL ∧ Dr w0 (w.setCell ⟨qb, i * 4 + j, none⟩ y) g v l K F := by
  refine ⟨hp.setP hn i hi p' j y hj hc hq, OwnI.block hI fun k e => Below.heap_setCell _ _ _ _ fun e' => ?_, hd.setO (World.ownsRow.lt hp.row qb rfl).1 (fun x hx e' => ?_) y⟩
  · exact ownsRow.neRow hI hp.row (by decide) k e (by rw [e']; rfl)
  · obtain ⟨m, hm⟩ := List.getElem?_of_mem hx
    exact ownsRow.neBlk hp.row (hd.blks m x hm).2.1 (hT x hx) (by rw [← e']; rfl)
theorem OwnI.lit (w : World) (l : List Int) (cs : Array Value) (hc : cs.toList = l.map (Value.int .i64)) (hl : l.length ≤ maxLen) :
    OwnI (w.alloc (.cells cs 3)) w.heap.size (.slice (some ⟨w.heap.size, 0, none⟩) l.length l.length) l := by
  have hs : cs.size = l.length := by rw [← Array.length_toList, hc, List.length_map]
  refine ⟨by simp, .inr ⟨w.heap.size, l.length, cs, rfl, Nat.le_refl _, ?_, Nat.le_refl _, hl, by omega, ?_⟩⟩
  · show (w.heap.push _)[_]? = _
    simp
  · rw [hc, List.take_of_length_le (by simp)]
def pkAtD (P : List Pkt) (i : Nat) : Pkt := P[i]?.getD ⟨0, 0, 0, []⟩
/-- a packet with one thing spoilt (q from 4 on), and where the draws stand -/
def badP (l : List Int) (k q : Nat) (N : Int) (p : Pkt) : Pkt × Nat :=
  if q = 4 then (⟨((pickV l k 4 : Nat) : Int), p.fr, p.tq, p.bs⟩, k + 1)
  else if q = 5 then (⟨p.id, ((pickV l k 20 : Nat) : Int), p.tq, p.bs⟩, k + 1)
  else if q = 6 then (⟨p.id, p.fr, ((pickV l k 20 : Nat) : Int), p.bs⟩, k + 1)
  else if q = 7 then (⟨p.id, p.fr, p.tq, []⟩, k)
  else if q = 8 then (⟨p.id, p.tq, p.tq, p.bs⟩, k)
  else (⟨N, p.fr, p.tq, p.bs⟩, k)
def badB (l : List Int) (k : Nat) (N : Int) (P : List Pkt) (W : List Int) : Int × List Pkt × List Int × Nat :=
  if pickV l k 10 = 0 then (((pickV l (k + 1) 3 : Nat) : Int), P, W, k + 1 + 1)
  else if pickV l k 10 = 1 then (1099511627776 + ((pickV l (k + 1) 2 : Nat) : Int), P, W, k + 1 + 1)
  else if pickV l k 10 = 2 then (N, P, [1 + ((pickV l (k + 1) 3 : Nat) : Int), 1 + ((pickV l (k + 1 + 1) 3 : Nat) : Int)], k + 1 + 1 + 1)
  else if pickV l k 10 = 3 then (N, P, [((pickV l (k + 1) 10 : Nat) : Int)], k + 1 + 1)
  else if P.length = 0 then (N, P, W, k + 1)
  else (N, P.set (pickV l (k + 1) P.length) (badP l (k + 1 + pickK P.length) (pickV l k 10) N (pkAtD P (pickV l (k + 1) P.length))).1, W, (badP l (k + 1 + pickK P.length) (pickV l k 10) N (pkAtD P (pickV l (k + 1) P.length))).2)
set_option maxHeartbeats 16000000 in
set_option maxRecDepth 100000 in
theorem l3badBag_any (g : Nat) (w0 w : World) (v : Value) (l : List Int) (k : Nat) (x1 : Nat) (C1 : Array Value) (N : Int) (ra : Option Addr) (n rc : Nat) (ua : Option Addr) (nw uc : Nat) (L : List Pk) (WL : List Int) (hL : l.length ≤ 1048576) (hk : k ≤ 100000) (hn : n = L.length) (hnw : nw = WL.length) (hn2 : n ≤ 100)
    (h : Dr w0 w g v l k [(x1, C1, 29)]) (hP : OwnP w w0.heap.size (.slice ra n rc) L) (hI : OwnI w w0.heap.size (.slice ua nw uc) WL) :
    Calls Try.prog 72 #[.pointer (some ⟨g, 0, none⟩), .agg #[.int .i64 N, .slice ra n rc, .slice ua nw uc]] w fun r w' => ∃ (L' : List Pk) (ub : Option Addr) (nu ud : Nat), r = .returned (.agg #[.int .i64 (badB l k N (cont L) WL).1, .slice ra n rc, .slice ub nu ud]) ∧ cont L' = (badB l k N (cont L) WL).2.1 ∧ nu = (badB l k N (cont L) WL).2.2.1.length ∧ OwnP w' w0.heap.size (.slice ra n rc) L' ∧ OwnI w' w0.heap.size (.slice ub nu ud) (badB l k N (cont L) WL).2.2.1 ∧ Dr w0 w' g v l (badB l k N (cont L) WL).2.2.2 [(x1, C1, 29)] := by
  have hg0 := h.gl
  have hal : Below w.heap.size w ((w.alloc (.cells #[.int .i64 N, .slice ra n rc, .slice ua nw uc] 29)).alloc (.cells #[.int .i64 0, .slice none 0 0, .slice none 0 0] 29)) := ((Below.refl _ _).alloc (Nat.le_refl _) _).alloc (by simp) _
  have HD0 : Hid (Dr w0 ((w.alloc (.cells #[.int .i64 N, .slice ra n rc, .slice ua nw uc] 29)).alloc (.cells #[.int .i64 0, .slice none 0 0, .slice none 0 0] 29)) g v l k [(x1, C1, 29), (w.heap.size, #[.int .i64 N, .slice ra n rc, .slice ua nw uc], 29), (w.heap.size + 1, #[.int .i64 0, .slice none 0 0, .slice none 0 0], 29)]) := (by have hx := (h.new #[.int .i64 N, .slice ra n rc, .slice ua nw uc] 29 (noU8_of rfl)).new #[.int .i64 0, .slice none 0 0, .slice none 0 0] 29 (noU8_of rfl); simpa using hx : Dr w0 ((w.alloc (.cells #[.int .i64 N, .slice ra n rc, .slice ua nw uc] 29)).alloc (.cells #[.int .i64 0, .slice none 0 0, .slice none 0 0] 29)) g v l k [(x1, C1, 29), (w.heap.size, #[.int .i64 N, .slice ra n rc, .slice ua nw uc], 29), (w.heap.size + 1, #[.int .i64 0, .slice none 0 0, .slice none 0 0], 29)])
  have HP0 : Hid (OwnP ((w.alloc (.cells #[.int .i64 N, .slice ra n rc, .slice ua nw uc] 29)).alloc (.cells #[.int .i64 0, .slice none 0 0, .slice none 0 0] 29)) w0.heap.size (.slice ra n rc) L) := hP.below hal
  have HI0 : Hid (OwnI ((w.alloc (.cells #[.int .i64 N, .slice ra n rc, .slice ua nw uc] 29)).alloc (.cells #[.int .i64 0, .slice none 0 0, .slice none 0 0] 29)) w0.heap.size (.slice ua nw uc) WL) := hI.below hal
  have Hn : Hid (n = L.length) := hn
  have Hnw : Hid (nw = WL.length) := hnw
  clear hP hI hal hn hnw
  obtain ⟨N', P', W', K', hB⟩ : ∃ a b c d, badB l k N (cont L) WL = (a, b, c, d) := ⟨_, _, _, _, rfl⟩
  rw [hB]
  dsimp only
  have hcl : (cont L).length = n := by unfold cont; rw [List.length_map, ← Hn.out]
  unfold badB at hB
  rw [hcl] at hB
  have b10 := pickV_lt l k 10 (by decide)
  obtain ⟨q, hq⟩ : ∃ q, q = pickV l k 10 := ⟨_, rfl⟩
  rw [← hq] at hB b10
  have Hq : Hid (q = pickV l k 10) := hq
  have HB : Hid ((if q = 0 then (((pickV l (k + 1) 3 : Nat) : Int), cont L, WL, k + 1 + 1)
    else if q = 1 then (1099511627776 + ((pickV l (k + 1) 2 : Nat) : Int), cont L, WL, k + 1 + 1)
    else if q = 2 then (N, cont L, [1 + ((pickV l (k + 1) 3 : Nat) : Int), 1 + ((pickV l (k + 1 + 1) 3 : Nat) : Int)], k + 1 + 1 + 1)
    else if q = 3 then (N, cont L, [((pickV l (k + 1) 10 : Nat) : Int)], k + 1 + 1)
    else if n = 0 then (N, cont L, WL, k + 1)
    else (N, (cont L).set (pickV l (k + 1) n) (badP l (k + 1 + pickK n) q N (pkAtD (cont L) (pickV l (k + 1) n))).1, WL, (badP l (k + 1 + pickK n) q N (pkAtD (cont L) (pickV l (k + 1) n))).2) : Int × List Pkt × List Int × Nat) = (N', P', W', K')) := hB
  clear hq hB hcl
  go_enter Try.func72, Try.ntmps72
  go_upto_if 10 with (go_at_call 71; refine (l1pick_any g _ v l k 10 hL (by omega) (by decide) (by decide) HD0.out.src).mono ?_; rintro r w1 ⟨rfl, hs, hgr⟩; rw [← Hq.out]; have HD1 : Hid (Dr w0 w1 g v l (k + 1) [(x1, C1, 29), (w.heap.size, #[.int .i64 N, .slice ra n rc, .slice ua nw uc], 29), (w.heap.size + 1, #[.int .i64 0, .slice none 0 0, .slice none 0 0], 29)]) := HD0.out.call hs hgr; have HP1 : Hid (OwnP w1 w0.heap.size (.slice ra n rc) L) := HP0.out.grownD hgr hg0; have HI1 : Hid (OwnI w1 w0.heap.size (.slice ua nw uc) WL) := HI0.out.grown hgr hg0; clear hs hgr)
  clear HD0 HP0 HI0 Hq
  go_cut [10] (fun _ wx => ∃ (L' : List Pk) (ub : Option Addr) (nu ud : Nat), cont L' = P' ∧ nu = W'.length ∧ OwnP wx w0.heap.size (.slice ra n rc) L' ∧ OwnI wx w0.heap.size (.slice ub nu ud) W' ∧ Dr w0 wx g v l K' [(x1, C1, 29), (w.heap.size, #[.int .i64 N', .slice ra n rc, .slice ub nu ud], 29), (w.heap.size + 1, #[.int .i64 0, .slice none 0 0, .slice none 0 0], 29)])
  case first =>
    have cb := (HD1.out.blk 1 rfl).cell
    have fb := (HD1.out.blk 1 rfl).free
    rcases (show q = 0 ∨ q = 1 ∨ q = 2 ∨ q = 3 ∨ 4 ≤ q by omega) with rfl | rfl | rfl | rfl | hq4
    · have b3 := pickV_lt l (k + 1) 3 (by decide)
      obtain ⟨p, hp⟩ : ∃ p, p = pickV l (k + 1) 3 := ⟨_, rfl⟩
      have Hp : Hid (p = pickV l (k + 1) 3) := hp
      have hx := HB.out
      rw [if_pos rfl, ← hp] at hx
      injection hx with hxa hx
      injection hx with hxb hx
      injection hx with hxc hxd
      subst hxa hxb hxc hxd
      clear hp HB
      go_wp2_with (go_at_call 71; refine (l1pick_any g _ v l (k + 1) 3 hL (by omega) (by decide) (by decide) HD1.out.src).mono ?_; rintro r w2 ⟨rfl, hs, hgr⟩; rw [← Hp.out]; have HD2 : Hid (Dr w0 w2 g v l (k + 1 + 1) [(x1, C1, 29), (w.heap.size, #[.int .i64 N, .slice ra n rc, .slice ua nw uc], 29), (w.heap.size + 1, #[.int .i64 0, .slice none 0 0, .slice none 0 0], 29)]) := HD1.out.call hs hgr; have HP2 : Hid (OwnP w2 w0.heap.size (.slice ra n rc) L) := HP1.out.grownD hgr hg0; have HI2 : Hid (OwnI w2 w0.heap.size (.slice ua nw uc) WL) := HI1.out.grown hgr hg0; have cb2 := (HD2.out.blk 1 rfl).cell; have fb2 := (HD2.out.blk 1 rfl).free; clear hs hgr)
      go_meet
      exact ⟨L, ua, nw, uc, rfl, Hnw.out, HP2.out.setB (HD2.out.blk 1 rfl) (by decide) (by decide) _, OwnI.setB HI2.out (HD2.out.blk 1 rfl) (by decide) _, HD2.out.set 1 rfl 0 (by simp) _ rfl⟩
    · have b3 := pickV_lt l (k + 1) 2 (by decide)
      obtain ⟨p, hp⟩ : ∃ p, p = pickV l (k + 1) 2 := ⟨_, rfl⟩
      have Hp : Hid (p = pickV l (k + 1) 2) := hp
      rw [← hp] at b3
      have hx := HB.out
      rw [if_neg (by decide), if_pos rfl, ← hp] at hx
      injection hx with hxa hx
      injection hx with hxb hx
      injection hx with hxc hxd
      subst hxa hxb hxc hxd
      clear hp HB
      have hw : IntKind.i64.wrap (1099511627776 + (p : Int)) = 1099511627776 + (p : Int) := by rw [IntKind.wrap_i64] <;> omega
      go_wp2_with (go_at_call 71; refine (l1pick_any g _ v l (k + 1) 2 hL (by omega) (by decide) (by decide) HD1.out.src).mono ?_; rintro r w2 ⟨rfl, hs, hgr⟩; rw [← Hp.out]; have HD2 : Hid (Dr w0 w2 g v l (k + 1 + 1) [(x1, C1, 29), (w.heap.size, #[.int .i64 N, .slice ra n rc, .slice ua nw uc], 29), (w.heap.size + 1, #[.int .i64 0, .slice none 0 0, .slice none 0 0], 29)]) := HD1.out.call hs hgr; have HP2 : Hid (OwnP w2 w0.heap.size (.slice ra n rc) L) := HP1.out.grownD hgr hg0; have HI2 : Hid (OwnI w2 w0.heap.size (.slice ua nw uc) WL) := HI1.out.grown hgr hg0; have cb2 := (HD2.out.blk 1 rfl).cell; have fb2 := (HD2.out.blk 1 rfl).free; clear hs hgr)
      go_meet
      exact ⟨L, ua, nw, uc, rfl, Hnw.out, HP2.out.setB (HD2.out.blk 1 rfl) (by decide) (by decide) _, OwnI.setB HI2.out (HD2.out.blk 1 rfl) (by decide) _, HD2.out.set 1 rfl 0 (by simp) _ rfl⟩
    · have b3 := pickV_lt l (k + 1) 3 (by decide)
      have b4 := pickV_lt l (k + 1 + 1) 3 (by decide)
      obtain ⟨p, hp⟩ : ∃ p, p = pickV l (k + 1) 3 := ⟨_, rfl⟩
      obtain ⟨p2, hp2⟩ : ∃ p, p = pickV l (k + 1 + 1) 3 := ⟨_, rfl⟩
      have Hp : Hid (p = pickV l (k + 1) 3) := hp
      have Hp2 : Hid (p2 = pickV l (k + 1 + 1) 3) := hp2
      rw [← hp] at b3
      rw [← hp2] at b4
      have hx := HB.out
      rw [if_neg (by decide), if_neg (by decide), if_pos rfl, ← hp, ← hp2] at hx
      injection hx with hxa hx
      injection hx with hxb hx
      injection hx with hxc hxd
      subst hxa hxb hxc hxd
      clear hp hp2 HB
      have hw : IntKind.i64.wrap (1 + (p : Int)) = 1 + (p : Int) := by rw [IntKind.wrap_i64] <;> omega
      have hw2 : IntKind.i64.wrap (1 + (p2 : Int)) = 1 + (p2 : Int) := by rw [IntKind.wrap_i64] <;> omega
      have G1 : True := trivial
      go_wp2_with (first
        | (go_at_call 71; clear G1; refine (l1pick_any g _ v l (k + 1) 3 hL (by omega) (by decide) (by decide) HD1.out.src).mono ?_; rintro r w2 ⟨rfl, hs, hgr⟩; rw [← Hp.out]; have HD2 : Hid (Dr w0 w2 g v l (k + 1 + 1) [(x1, C1, 29), (w.heap.size, #[.int .i64 N, .slice ra n rc, .slice ua nw uc], 29), (w.heap.size + 1, #[.int .i64 0, .slice none 0 0, .slice none 0 0], 29)]) := HD1.out.call hs hgr; have HP2 : Hid (OwnP w2 w0.heap.size (.slice ra n rc) L) := HP1.out.grownD hgr hg0; have HI2 : Hid (OwnI w2 w0.heap.size (.slice ua nw uc) WL) := HI1.out.grown hgr hg0; have cb2 := (HD2.out.blk 1 rfl).cell; have fb2 := (HD2.out.blk 1 rfl).free; clear hs hgr)
        | (go_at_call 71; refine (l1pick_any g _ v l (k + 1 + 1) 3 hL (by omega) (by decide) (by decide) HD2.out.src).mono ?_; rintro r w3 ⟨rfl, hs, hgr⟩; rw [← Hp2.out]; have HD3 : Hid (Dr w0 w3 g v l (k + 1 + 1 + 1) [(x1, C1, 29), (w.heap.size, #[.int .i64 N, .slice ra n rc, .slice ua nw uc], 29), (w.heap.size + 1, #[.int .i64 0, .slice none 0 0, .slice none 0 0], 29)]) := HD2.out.call hs hgr; have HP3 : Hid (OwnP w3 w0.heap.size (.slice ra n rc) L) := HP2.out.grownD hgr hg0; have HI3 : Hid (OwnI w3 w0.heap.size (.slice ua nw uc) WL) := HI2.out.grown hgr hg0; have cb2 := (HD3.out.blk 1 rfl).cell; have fb2 := (HD3.out.blk 1 rfl).free; have cba := fun o => ((HD3.out.other o).blk 1 rfl).cell; have fba := fun o => ((HD3.out.other o).blk 1 rfl).free; clear hs hgr))
      go_meet
      have hle : w0.heap.size ≤ w3.heap.size := HD3.out.size
      have hI := (OwnI.lit w3 [1 + (p : Int), 1 + (p2 : Int)] #[.int .i64 (1 + (p : Int)), .int .i64 (1 + (p2 : Int))] rfl (by simp [maxLen])).le hle
      have hal : Below w3.heap.size w3 (w3.alloc (.cells #[.int .i64 (1 + (p : Int)), .int .i64 (1 + (p2 : Int))] 3)) := (Below.refl _ _).alloc (Nat.le_refl _) _
      exact ⟨L, some ⟨w3.heap.size, 0, none⟩, 2, 2, rfl, rfl, (HP3.out.below hal).setB ((HD3.out.other _).blk 1 rfl) (by decide) (by decide) _, OwnI.setB hI ((HD3.out.other _).blk 1 rfl) (by decide) _, (HD3.out.other _).set 1 rfl 2 (by simp) _ rfl⟩
    · have b3 := pickV_lt l (k + 1) 10 (by decide)
      obtain ⟨p, hp⟩ : ∃ p, p = pickV l (k + 1) 10 := ⟨_, rfl⟩
      have Hp : Hid (p = pickV l (k + 1) 10) := hp
      have hx := HB.out
      rw [if_neg (by decide), if_neg (by decide), if_neg (by decide), if_pos rfl, ← hp] at hx
      injection hx with hxa hx
      injection hx with hxb hx
      injection hx with hxc hxd
      subst hxa hxb hxc hxd
      clear hp HB
      go_wp2_with (go_at_call 71; refine (l1pick_any g _ v l (k + 1) 10 hL (by omega) (by decide) (by decide) HD1.out.src).mono ?_; rintro r w2 ⟨rfl, hs, hgr⟩; rw [← Hp.out]; have HD2 : Hid (Dr w0 w2 g v l (k + 1 + 1) [(x1, C1, 29), (w.heap.size, #[.int .i64 N, .slice ra n rc, .slice ua nw uc], 29), (w.heap.size + 1, #[.int .i64 0, .slice none 0 0, .slice none 0 0], 29)]) := HD1.out.call hs hgr; have HP2 : Hid (OwnP w2 w0.heap.size (.slice ra n rc) L) := HP1.out.grownD hgr hg0; have HI2 : Hid (OwnI w2 w0.heap.size (.slice ua nw uc) WL) := HI1.out.grown hgr hg0; have cb2 := (HD2.out.blk 1 rfl).cell; have fb2 := (HD2.out.blk 1 rfl).free; have cba := fun o => ((HD2.out.other o).blk 1 rfl).cell; have fba := fun o => ((HD2.out.other o).blk 1 rfl).free; clear hs hgr)
      go_meet
      have hle : w0.heap.size ≤ w2.heap.size := HD2.out.size
      have hI := (OwnI.lit w2 [(p : Int)] #[.int .i64 (p : Int)] rfl (by simp [maxLen])).le hle
      have hal : Below w2.heap.size w2 (w2.alloc (.cells #[.int .i64 (p : Int)] 3)) := (Below.refl _ _).alloc (Nat.le_refl _) _
      exact ⟨L, some ⟨w2.heap.size, 0, none⟩, 1, 1, rfl, rfl, (HP2.out.below hal).setB ((HD2.out.other _).blk 1 rfl) (by decide) (by decide) _, OwnI.setB hI ((HD2.out.other _).blk 1 rfl) (by decide) _, (HD2.out.other _).set 1 rfl 2 (by simp) _ rfl⟩
    · have e0 : ((q : Int) == 0) = false := by rw [beq_eq_false_iff_ne]; omega
      have e1 : ((q : Int) == 1) = false := by rw [beq_eq_false_iff_ne]; omega
      have e2 : ((q : Int) == 2) = false := by rw [beq_eq_false_iff_ne]; omega
      have e3 : ((q : Int) == 3) = false := by rw [beq_eq_false_iff_ne]; omega
      have hx := HB.out
      rw [if_neg (by omega), if_neg (by omega), if_neg (by omega), if_neg (by omega)] at hx
      by_cases hn0 : n = 0
      · rw [if_pos hn0] at hx
        injection hx with hxa hx
        injection hx with hxb hx
        injection hx with hxc hxd
        subst hxa hxb hxc hxd
        subst hn0
        clear HB
        go_wp2_with fail
        go_meet
        exact ⟨L, ua, nw, uc, rfl, Hnw.out, HP1.out, HI1.out, HD1.out⟩
      · rw [if_neg hn0] at hx
        have hng : (0 : Int) < (n : Int) := by omega
        have bi := pickV_lt l (k + 1) n (by omega)
        have pkn := pickK_le n
        obtain ⟨i, hi⟩ : ∃ p, p = pickV l (k + 1) n := ⟨_, rfl⟩
        obtain ⟨K4, hK4⟩ : ∃ p, p = k + 1 + pickK n := ⟨_, rfl⟩
        rw [← hi] at hx bi
        rw [← hK4] at hx
        have Hi : Hid (i = pickV l (k + 1) n) := hi
        have HK4 : Hid (K4 = k + 1 + pickK n) := hK4
        have hK4b : K4 ≤ 200000 := by omega
        have hiL : i < L.length := by rw [← Hn.out]; exact bi
        have hpa : pkAtD (cont L) i = L[i].1 := by
          unfold pkAtD cont
          rw [List.getElem?_map, List.getElem?_eq_getElem hiL]
          rfl
        rw [hpa] at hx
        injection hx with hxa hx
        injection hx with hxb hx
        injection hx with hxc hxd
        subst hxa hxc
        have HPx : Hid ((cont L).set i (badP l K4 q N L[i].1).1 = P') := hxb
        have HKx : Hid ((badP l K4 q N L[i].1).2 = K') := hxd
        clear hxb hxd hpa hi hK4 HB
        obtain ⟨qb, cg, eg⟩ := HP1.out.shape' (by omega)
        injection eg with eg1 eg2 eg3
        subst eg1
        clear eg2 eg3 cg
        have hqb : w0.heap.size ≤ qb := (World.ownsRow.lt HP1.out.row qb rfl).1
        have HCS : Hid (∀ p' : Pk, cont (L.set i p') = (cont L).set i p'.1) := fun p' => (by unfold cont; rw [List.map_set] : cont (L.set i p') = (cont L).set i p'.1)
        have hib : (i : Int) < (n : Int) := by omega
        have HiL : Hid (i < L.length) := hiL
        generalize hE : L[i] = e at *
        have HE : Hid (L[i]'HiL.out = e) := hE
        clear hE
        go_upto_if 46 with (go_at_call 71; refine (l1pick_any g _ v l (k + 1) n hL (by omega) (by omega) (by omega) HD1.out.src).mono ?_; rintro r w2 ⟨rfl, hs, hgr⟩; rw [← Hi.out]; have HD2 : Hid (Dr w0 w2 g v l K4 [(x1, C1, 29), (w.heap.size, #[.int .i64 N, .slice (some ⟨qb, 0, none⟩) n rc, .slice ua nw uc], 29), (w.heap.size + 1, #[.int .i64 0, .slice none 0 0, .slice none 0 0], 29)]) := (by have hx := HD1.out.call hs hgr; rw [← HK4.out] at hx; exact hx : Dr w0 w2 g v l K4 [(x1, C1, 29), (w.heap.size, #[.int .i64 N, .slice (some ⟨qb, 0, none⟩) n rc, .slice ua nw uc], 29), (w.heap.size + 1, #[.int .i64 0, .slice none 0 0, .slice none 0 0], 29)]); have HP2 : Hid (OwnP w2 w0.heap.size (.slice (some ⟨qb, 0, none⟩) n rc) L) := HP1.out.grownD hgr hg0; have HI2 : Hid (OwnI w2 w0.heap.size (.slice ua nw uc) WL) := HI1.out.grown hgr hg0; have cb2 := (HD2.out.blk 1 rfl).cell; clear hs hgr)
        have hT : ∀ x ∈ [(x1, C1, 29), (w.heap.size, #[.int .i64 N, .slice (some ⟨qb, 0, none⟩) n rc, .slice ua nw uc], 29 ), (w.heap.size + 1, #[.int .i64 0, .slice none 0 0, .slice none 0 0] , 29 )], 60 ≠ x.2.2 := fun x hx => by
          simp only [List.mem_cons, List.not_mem_nil, or_false] at hx
          rcases hx with rfl | rfl | rfl <;> (dsimp only; decide)
        have HTT : Hid (∀ x ∈ [(x1, C1, 29), (w.heap.size, #[.int .i64 N, .slice (some ⟨qb, 0, none⟩) n rc, .slice ua nw uc], 29 ), (w.heap.size + 1, #[.int .i64 0, .slice none 0 0, .slice none 0 0] , 29 )], 60 ≠ x.2.2) := hT
        have hat := HP2.out.atN Hn.out i HiL.out
        rw [HE.out] at hat
        obtain ⟨p0, p1, p2, p3⟩ := hat
        have f0 := HP2.out.frN Hn.out (i * 4)
        have f1 := HP2.out.frN Hn.out (i * 4 + 1)
        have f2 := HP2.out.frN Hn.out (i * 4 + 2)
        have f3 := HP2.out.frN Hn.out (i * 4 + 3)
        clear hT HD1 HP1 HI1 cb fb
        rcases (show q = 4 ∨ q = 5 ∨ q = 6 ∨ q = 7 ∨ q = 8 ∨ q = 9 by omega) with rfl | rfl | rfl | rfl | rfl | rfl
        · have bp := pickV_lt l K4 4 (by decide)
          obtain ⟨p, hp⟩ : ∃ p, p = pickV l K4 4 := ⟨_, rfl⟩
          have Hp : Hid (p = pickV l K4 4) := hp
          have hPx := HPx.out
          have hKx : K4 + 1 = K' := HKx.out
          subst hKx
          clear hp HKx
          go_upto_region 13 with fail
          first
            | go_region_with (go_at_call 71; refine (l1pick_any g _ v l K4 4 hL (by omega) (by decide) (by decide) HD2.out.drew.src).mono ?_; rintro r w3 ⟨rfl, hs, hgr⟩; rw [← Hp.out]; have HD3 : Hid (Dr w0 w3 g v l (K4 + 1) [(x1, C1, 29), (w.heap.size, #[.int .i64 N, .slice (some ⟨qb, 0, none⟩) n rc, .slice ua nw uc], 29), (w.heap.size + 1, #[.int .i64 0, .slice none 0 0, .slice none 0 0], 29)]) := HD2.out.drew.call hs hgr; have HP3 : Hid (OwnP w3 w0.heap.size (.slice (some ⟨qb, 0, none⟩) n rc) L) := (HP2.out.below ((Below.refl _ _).drew)).grownD hgr hg0; have HI3 : Hid (OwnI w3 w0.heap.size (.slice ua nw uc) WL) := (HI2.out.below ((Below.refl _ _).drew)).grown hgr hg0; have cb3 := (HD3.out.blk 1 rfl).cell; have hat3 := HP3.out.atN Hn.out i HiL.out; rw [HE.out] at hat3; obtain ⟨q0, q1, q2, q3⟩ := hat3; have g0 := HP3.out.frN Hn.out (i * 4); have g1 := HP3.out.frN Hn.out (i * 4 + 1); have g2 := HP3.out.frN Hn.out (i * 4 + 2); clear hs hgr)
            | fail
          all_goals go_wp2_with fail
          all_goals go_meet
          all_goals have hset := bad_set HD3.out HTT.out HP3.out Hn.out HI3.out i HiL.out ((⟨(p : Int), e.1.fr, e.1.tq, e.1.bs⟩ : Pkt), e.2) 0 (.int .i64 (p : Int)) (by decide) (by rw [HE.out]; rfl) (.inl (by rw [HE.out]; exact ⟨rfl, rfl⟩))
          all_goals exact ⟨_, ua, nw, uc, by rw [HCS.out, ← hPx, Hp.out]; rfl, Hnw.out, hset.1, hset.2.1, hset.2.2⟩
        · have bp := pickV_lt l K4 20 (by decide)
          obtain ⟨p, hp⟩ : ∃ p, p = pickV l K4 20 := ⟨_, rfl⟩
          have Hp : Hid (p = pickV l K4 20) := hp
          have hPx := HPx.out
          have hKx : K4 + 1 = K' := HKx.out
          subst hKx
          clear hp HKx
          go_upto_region 15 with fail
          first
            | go_region_with (go_at_call 71; refine (l1pick_any g _ v l K4 20 hL (by omega) (by decide) (by decide) HD2.out.drew.src).mono ?_; rintro r w3 ⟨rfl, hs, hgr⟩; rw [← Hp.out]; have HD3 : Hid (Dr w0 w3 g v l (K4 + 1) [(x1, C1, 29), (w.heap.size, #[.int .i64 N, .slice (some ⟨qb, 0, none⟩) n rc, .slice ua nw uc], 29), (w.heap.size + 1, #[.int .i64 0, .slice none 0 0, .slice none 0 0], 29)]) := HD2.out.drew.call hs hgr; have HP3 : Hid (OwnP w3 w0.heap.size (.slice (some ⟨qb, 0, none⟩) n rc) L) := (HP2.out.below ((Below.refl _ _).drew)).grownD hgr hg0; have HI3 : Hid (OwnI w3 w0.heap.size (.slice ua nw uc) WL) := (HI2.out.below ((Below.refl _ _).drew)).grown hgr hg0; have cb3 := (HD3.out.blk 1 rfl).cell; have hat3 := HP3.out.atN Hn.out i HiL.out; rw [HE.out] at hat3; obtain ⟨q0, q1, q2, q3⟩ := hat3; have g0 := HP3.out.frN Hn.out (i * 4); have g1 := HP3.out.frN Hn.out (i * 4 + 1); have g2 := HP3.out.frN Hn.out (i * 4 + 2); clear hs hgr)
            | fail
          all_goals go_wp2_with fail
          all_goals go_meet
          all_goals have hset := bad_set HD3.out HTT.out HP3.out Hn.out HI3.out i HiL.out ((⟨e.1.id, (p : Int), e.1.tq, e.1.bs⟩ : Pkt), e.2) 1 (.int .i64 (p : Int)) (by decide) (by rw [HE.out]; rfl) (.inl (by rw [HE.out]; exact ⟨rfl, rfl⟩))
          all_goals exact ⟨_, ua, nw, uc, by rw [HCS.out, ← hPx, Hp.out]; rfl, Hnw.out, hset.1, hset.2.1, hset.2.2⟩
        · have bp := pickV_lt l K4 20 (by decide)
          obtain ⟨p, hp⟩ : ∃ p, p = pickV l K4 20 := ⟨_, rfl⟩
          have Hp : Hid (p = pickV l K4 20) := hp
          have hPx := HPx.out
          have hKx : K4 + 1 = K' := HKx.out
          subst hKx
          clear hp HKx
          go_upto_region 17 with fail
          first
            | go_region_with (go_at_call 71; refine (l1pick_any g _ v l K4 20 hL (by omega) (by decide) (by decide) HD2.out.drew.src).mono ?_; rintro r w3 ⟨rfl, hs, hgr⟩; rw [← Hp.out]; have HD3 : Hid (Dr w0 w3 g v l (K4 + 1) [(x1, C1, 29), (w.heap.size, #[.int .i64 N, .slice (some ⟨qb, 0, none⟩) n rc, .slice ua nw uc], 29), (w.heap.size + 1, #[.int .i64 0, .slice none 0 0, .slice none 0 0], 29)]) := HD2.out.drew.call hs hgr; have HP3 : Hid (OwnP w3 w0.heap.size (.slice (some ⟨qb, 0, none⟩) n rc) L) := (HP2.out.below ((Below.refl _ _).drew)).grownD hgr hg0; have HI3 : Hid (OwnI w3 w0.heap.size (.slice ua nw uc) WL) := (HI2.out.below ((Below.refl _ _).drew)).grown hgr hg0; have cb3 := (HD3.out.blk 1 rfl).cell; have hat3 := HP3.out.atN Hn.out i HiL.out; rw [HE.out] at hat3; obtain ⟨q0, q1, q2, q3⟩ := hat3; have g0 := HP3.out.frN Hn.out (i * 4); have g1 := HP3.out.frN Hn.out (i * 4 + 1); have g2 := HP3.out.frN Hn.out (i * 4 + 2); clear hs hgr)
            | fail
          all_goals go_wp2_with fail
          all_goals go_meet
          all_goals have hset := bad_set HD3.out HTT.out HP3.out Hn.out HI3.out i HiL.out ((⟨e.1.id, e.1.fr, (p : Int), e.1.bs⟩ : Pkt), e.2) 2 (.int .i64 (p : Int)) (by decide) (by rw [HE.out]; rfl) (.inl (by rw [HE.out]; exact ⟨rfl, rfl⟩))
          all_goals exact ⟨_, ua, nw, uc, by rw [HCS.out, ← hPx, Hp.out]; rfl, Hnw.out, hset.1, hset.2.1, hset.2.2⟩
        · have hPx := HPx.out
          have hKx : K4 = K' := HKx.out
          subst hKx
          clear HKx
          go_wp2_with fail
          all_goals go_meet
          all_goals have hset := bad_set HD2.out HTT.out HP2.out Hn.out HI2.out i HiL.out ((⟨e.1.id, e.1.fr, e.1.tq, []⟩ : Pkt), .slice none 0 0) 3 (.slice none 0 0) (by decide) (by rw [HE.out]; rfl) (.inr ⟨rfl, rfl⟩)
          all_goals exact ⟨_, ua, nw, uc, by rw [HCS.out, ← hPx]; rfl, Hnw.out, hset.1, hset.2.1, hset.2.2⟩
        · have hPx := HPx.out
          have hKx : K4 = K' := HKx.out
          subst hKx
          clear HKx
          go_upto_region 21 with fail
          go_region
          all_goals go_wp2_with fail
          all_goals go_meet
          all_goals have hset := bad_set HD2.out.drew HTT.out (HP2.out.below ((Below.refl _ _).drew)) Hn.out (HI2.out.below ((Below.refl _ _).drew)) i HiL.out ((⟨e.1.id, e.1.tq, e.1.tq, e.1.bs⟩ : Pkt), e.2) 1 (.int .i64 e.1.tq) (by decide) (by rw [HE.out]; rfl) (.inl (by rw [HE.out]; exact ⟨rfl, rfl⟩))
          all_goals exact ⟨_, ua, nw, uc, by rw [HCS.out, ← hPx]; rfl, Hnw.out, hset.1, hset.2.1, hset.2.2⟩
        · have hPx := HPx.out
          have hKx : K4 = K' := HKx.out
          subst hKx
          clear HKx
          go_wp2_with fail
          all_goals go_meet
          all_goals have hset := bad_set HD2.out HTT.out HP2.out Hn.out HI2.out i HiL.out ((⟨N, e.1.fr, e.1.tq, e.1.bs⟩ : Pkt), e.2) 0 (.int .i64 N) (by decide) (by rw [HE.out]; rfl) (.inl (by rw [HE.out]; exact ⟨rfl, rfl⟩))
          all_goals exact ⟨_, ua, nw, uc, by rw [HCS.out, ← hPx]; rfl, Hnw.out, hset.1, hset.2.1, hset.2.2⟩

  case rest =>
    obtain ⟨L', ub, nu, ud, hcL, hnu, hp, hi, hd⟩ := hcut
    have HD : Hid (Dr w0 wc g v l K' [(x1, C1, 29), (w.heap.size, #[.int .i64 N', .slice ra n rc, .slice ub nu ud], 29), (w.heap.size + 1, #[.int .i64 0, .slice none 0 0, .slice none 0 0], 29)]) := hd
    go_wp2_with (first
      | (have hBA := HD; refine gate_ld 29 (.tmp 3) rfl ?_; clear hBA; refine wpl_load_blk rfl 29 (.tmp 3) rfl (w.heap.size) rfl (HD.out.blk 1 rfl) Try.underlying29 rfl infoBagB rfl ?_)
      | (have hBA := HD; refine gate_st 29 (.tmp 4) _ rfl ?_; clear hBA; refine wpl_store_blk rfl 29 (.tmp 4) _ rfl (w.heap.size + 1) rfl rfl (HD.out.blk 2 rfl) infoBagB rfl rfl (by simp [Value.oneCell']) ?_))
    have hb3 := HD.out.blk 2 rfl
    exact bodyPost_ret (results_blk Try.results72 rfl (hb3.row _) Try.underlying29 rfl infoBagB rfl) rfl ⟨L', ub, nu, ud, rfl, hcL, hnu, hp.rowB hb3 (by decide) (by decide), OwnI.rowB hi hb3 (by decide), (Dr.front (F := [(x1, C1, 29)]) (HD.out.row 2 rfl _ (noU8_of rfl)))⟩
end Go.Proofs.Ytfcmffdljfljkaa
