/-
  impl.BagTake.
-/
import Derived.Test.YthondmpnleleiaaPkTake
import Derived.Test.YthondmpnleleiaaPkPutI
import Derived.Test.YthondmpnleleiaaPkTkU
import Derived.Test.YthondmpnleleiaaRegInv
namespace Go.Proofs.Ythondmpnleleiaa
open Go.RowKit Go.Maps
set_option linter.unusedVariables false
set_option linter.unusedSimpArgs false

def noPk : Pkt := ⟨0, 0, 0, []⟩
/-- what a take answers -/
structure Taken where
  c : Int
  lost : Int
  p : Pkt
  n : Int
  pl : List Pkt
  ws : List Int
def takeAt (l : List Pkt) (pick : Int) : Nat := (modI pick l.length).toNat
def takeAns (n : Int) (l : List Pkt) (ws : List Int) (pick keep : Int) : Taken :=
  if bagB n l ws = false then ⟨1, 0, noPk, 0, [], []⟩ else if l.length = 0 then ⟨2, 0, noPk, n, l, ws⟩
  else ⟨0, if ws.contains (l.getD (takeAt l pick) noPk).fr || ws.contains (l.getD (takeAt l pick) noPk).to then 1 else 0, l.getD (takeAt l pick) noPk, n, if keep = 0 then l.eraseIdx (takeAt l pick) else l, ws⟩
def TakeOf (w w' : World) (e : Ending) (x : Taken) : Prop :=
  ∃ pa pc va vc ua uc L, e = .returned (.agg #[.int .i64 x.c, .int .i64 x.lost, .int .i64 x.p.id, .int .i64 x.p.fr, .int .i64 x.p.to, .slice pa x.p.bs.length pc, .int .i64 x.n, .slice va L.length vc, .slice ua x.ws.length uc]) ∧ cont L = x.pl ∧ TkR w.heap.size w'.heap.size w' (.slice pa x.p.bs.length pc) x.p.bs (.slice va L.length vc) (.slice ua x.ws.length uc) L x.ws ∧ Below w.heap.size w w'
theorem infoPkS : (Try.prog.info? 48).map (·.size) = some 4 := by kernel_rfl
theorem infoBagS : (Try.prog.info? 29).map (·.size) = some 3 := by kernel_rfl
theorem infoTk : (Try.prog.info? 50).map (·.size) = some 9 := by kernel_rfl
theorem takeAt_lt (l : List Pkt) (pick : Int) (h : 0 < l.length) : takeAt l pick < l.length ∧ modI pick l.length = (takeAt l pick : Int) := by
  have h1 := modI_ge pick l.length (by omega)
  have h2 := modI_lt pick l.length (by omega)
  unfold takeAt
  omega
theorem pkt_small {n : Int} {l : List Pkt} {ws : List Int} (h : bagB n l ws = true) : ∀ p ∈ l, (0 ≤ p.fr ∧ p.fr ≤ 1000) ∧ (0 ≤ p.to ∧ p.to ≤ 1000) := by
  simp only [bagB, Bool.and_eq_true, decide_eq_true_eq] at h
  have key : ∀ (l : List Pkt) (last : Int), pksB n last l = true → ∀ p ∈ l, (0 ≤ p.fr ∧ p.fr ≤ 1000) ∧ (0 ≤ p.to ∧ p.to ≤ 1000) := by
    intro l
    induction l with
    | nil => intro _ _ p hp; cases hp
    | cons q l ih =>
      intro last h p hp
      simp only [pksB, Bool.and_eq_true] at h
      rcases List.mem_cons.1 hp with rfl | hp
      · exact pkF_small h.1.2
      · exact ih _ h.2 p hp
  exact key l 0 h.1.2.2
theorem Own.ne_blk {w : World} {B : Nat} {v : Value} {l : List Int} {b : Nat} {C : Array Value} {t : TypeId} (h : Own w B v l) (hb : Blk w b C t) (ht : t ≠ 5) : ∀ k, v.ownBlock = some k → k ≠ b := by
  rcases h.2.2 with ⟨rfl, _⟩ | ⟨g, cap, cur, rfl, _, hh, _⟩
  · intro k e; cases e
  · rintro k e rfl
    injection e with e
    subst e
    rw [show w.heap[g]? = _ from hb] at hh
    injection hh with hh
    injection hh with _ h2 _
    exact ht h2
theorem IntsR.block' {w w' : World} {lo hi : Nat} {v : Value} {l : List Int} (h : IntsR lo hi w v l) (hk : ∀ k, v.ownBlock = some k → w'.heap[k]? = w.heap[k]?) : IntsR lo hi w' v l := by
  refine ⟨h.len, h.sh, fun h0 => ?_⟩
  obtain ⟨q, cap, e, h1, h2, h3, h4, h5⟩ := h.row h0
  have hb := hk q (by rw [e]; rfl)
  exact ⟨q, cap, e, h1, h2, lt_keepP hb h3, there_block' h4 hb, fun j hj => (World.cell?_of_block (w := w) hb).trans (h5 j hj)⟩
theorem cont_erase (L : List Pk) : ∀ i, cont (L.eraseIdx i) = (cont L).eraseIdx i := by
  induction L with
  | nil => intro i; rfl
  | cons p L ih =>
    intro i
    cases i with
    | zero => rfl
    | succ i => show p.1 :: cont (L.eraseIdx i) = p.1 :: (cont L).eraseIdx i; rw [ih]
/-- the packets behind a take -/
theorem take_u (q : Nat) (n : Int) (g cap : Nat) (L : List Pk) (ua : Option Addr) (um uc : Nat) (pick : Int) (keep : Bool) (w : World) (B : Nat)
    (hQ : Blk w q #[.int .i64 n, .slice (some ⟨g, 0, none⟩) L.length cap, .slice ua um uc] 29) (hO : OwnP w B (.slice (some ⟨g, 0, none⟩) L.length cap) L) (hlt : g < q ∧ ∀ p' ∈ L, ∀ k, p'.2.ownBlock = some k → k < q) (hL' : L.length ≤ 1048576) (hx : -(2 ^ 63) ≤ pick) (hX : pick < 2 ^ 63)
    (i : Nat) (hi : i < L.length) (hmod : modI pick L.length = (i : Int)) (pk : Pkt) (hpk : (cont L)[i]? = some pk) :
    Calls Try.prog 58 #[.pointer (some ⟨q, 0, none⟩), .int .i64 pick, .bool keep] w fun e w' => ∃ a4 c4 L', e = .returned (.agg #[.int .i64 pk.id, .int .i64 pk.fr, .int .i64 pk.to, .slice a4 pk.bs.length c4]) ∧ cont L' = (if keep = true then cont L else (cont L).eraseIdx i) ∧ (∀ p ∈ L', p ∈ L) ∧
      Blk w' q #[.int .i64 n, .slice (some ⟨g, 0, none⟩) L'.length cap, .slice ua um uc] 29 ∧ PksR B q w' (.slice (some ⟨g, 0, none⟩) L'.length cap) L' ∧ Bs w' (.slice a4 pk.bs.length c4) pk.bs ∧ Touched (fun k => k = q ∨ k = g) w w' := by
  obtain ⟨a4, c4, he⟩ := (hO.bytes L[i] (List.getElem_mem hi)).1.shape
  have hpk' : L[i].1 = pk := by
    rw [cont, List.getElem?_map, List.getElem?_eq_getElem hi] at hpk
    injection hpk
  refine (takePacket_any q n g cap L ua um uc pick keep w B hQ hO (by omega) (by omega) hL' hx hX i hi hmod a4 c4 he).mono ?_
  rintro e w' ⟨rfl, h1, h2⟩
  rw [hpk'] at he ⊢
  have hbs := (hO.bytes L[i] (List.getElem_mem hi))
  rw [hpk', he] at hbs
  have hgw : g < w.heap.size := (World.ownsRow.lt hO.row g rfl).2
  cases keep
  · obtain ⟨g1, g2, g3, g4⟩ := h2 rfl
    have hlen : (L.eraseIdx i).length = L.length - 1 := List.length_eraseIdx_of_lt hi
    have hkeep : ∀ p ∈ L, ∀ k, p.2.ownBlock = some k → w'.heap[k]? = w.heap[k]? := fun p hp k e => by
      have := hlt.2 p hp k e
      refine g4.block k ((hO.bytes p hp).1.2.lt k e).2 ?_
      rintro (rfl | rfl)
      · omega
      · exact hO.off p hp _ e rfl
    refine ⟨a4, c4, L.eraseIdx i, rfl, by rw [if_neg (by simp)]; exact cont_erase L i, fun p hp => List.mem_of_mem_eraseIdx hp, by rw [hlen]; exact g1, ⟨by have := hO.caps.2; have := hO.caps.1; omega, ⟨_, _, rfl⟩, fun h0 => ⟨g, cap, rfl, (World.ownsRow.lt hO.row g rfl).1, hlt.1, Nat.lt_of_lt_of_le hgw g4.size, by rw [hlen]; exact g3, g2, fun p hp e => hO.off p (List.mem_of_mem_eraseIdx hp) g e rfl⟩, fun p hp => ?_, hO.apart.sublist (List.eraseIdx_sublist _ _)⟩, ?_, g4⟩
    · have hp' := List.mem_of_mem_eraseIdx hp
      exact ⟨⟨(hO.bytes p hp').1.block (hkeep p hp'), fun k e => ⟨((hO.bytes p hp').1.2.lt k e).1, hlt.2 p hp' k e⟩⟩, (hO.bytes p hp').2⟩
    · exact (hbs.1.block fun k e => hkeep L[i] (List.getElem_mem hi) k (by rw [he]; exact e)).bs hbs.2
  · have hb := h1 rfl
    have hr : PksR B q w (.slice (some ⟨g, 0, none⟩) L.length cap) L := by
      have := hO.r (by have := hO.caps; omega)
      refine ⟨this.len, this.sh, fun h0 => ?_, fun p hp => ⟨⟨(hO.bytes p hp).1, fun k e => ⟨((hO.bytes p hp).1.2.lt k e).1, hlt.2 p hp k e⟩⟩, (hO.bytes p hp).2⟩, this.apart⟩
      obtain ⟨q', cap', e, u1, u2, u3, u4⟩ := this.row h0
      injection e with e1 e2 e3
      injection e1 with e1
      injection e1 with e1
      subst e1 e3
      exact ⟨_, _, rfl, u1, hlt.1, u3, u4⟩
    refine ⟨a4, c4, L, rfl, rfl, fun p hp => hp, hQ.below hb hQ.lt, hr.keep fun k h1' h2' => hb.block k (by have := hQ.lt; omega), (hbs.1.bs hbs.2).below hb, Touched.of_below hb⟩

set_option maxHeartbeats 8000000 in
set_option maxRecDepth 100000 in
theorem bagTake_any (n : Int) (a : Option Addr) (cap : Nat) (a2 : Option Addr) (cap2 : Nat) (l : List Pk) (ws : List Int) (pick keep : Int) (hx : -(2 ^ 63) ≤ pick) (hX : pick < 2 ^ 63) (w : World) (hv : Pks w (.slice a l.length cap) l) (hu : Ix w (.slice a2 ws.length cap2) ws) (hl : l.length + bulk (cont l) ≤ 1048576) (hw : ws.length ≤ 1048576) :
    Calls Try.prog 23 #[.agg #[.int .i64 n, .slice a l.length cap, .slice a2 ws.length cap2], .int .i64 pick, .int .i64 keep] w fun e w' => TakeOf w w' e (takeAns n (cont l) ws pick keep) := by
  have HF : Hid (∀ w', Below w.heap.size w w' → Calls Try.prog 38 #[.agg #[.int .i64 n, .slice a l.length cap, .slice a2 ws.length cap2]] w' fun e w'' => e = .returned (.bool (bagB n (cont l) ws)) ∧ Below w'.heap.size w' w'') := fun w' h => bagFits_any n _ _ l ws w' (hv.below h) (hu.below h)
  have hb0 : Hid (Below w.heap.size w ((w.alloc (.cells #[.int .i64 n, .slice a l.length cap, .slice a2 ws.length cap2] 29)).alloc (.cells #[.int .i64 0, .int .i64 0, .int .i64 0, .int .i64 0, .int .i64 0, .slice none 0 0, .int .i64 0, .slice none 0 0, .slice none 0 0] 50))) := ((Below.refl _ _).alloc (Nat.le_refl _) _).alloc (by simp) _
  cases hbag : bagB n (cont l) ws
  · rw [hbag] at HF
    rw [show takeAns n (cont l) ws pick keep = ⟨1, 0, noPk, 0, [], []⟩ by simp [takeAns, hbag]]
    go_enter Try.func23, Try.ntmps23
    go_wp2_with (first
      | (go_at_call 38; refine (HF.out _ hb0.out).mono ?_; rintro e w1 ⟨rfl, hb1⟩; have HB1 : Hid (Below w.heap.size w w1) := hb0.out.trans (hb1.mono (by simp; omega)); have BX1 : Hid (Blk w1 w.heap.size #[.int .i64 n, .slice a l.length cap, .slice a2 ws.length cap2] 29) := ((Blk.new w _ _).alloc _).below hb1 (by simp; omega); have BR1 : Hid (Blk w1 (w.heap.size + 1) #[.int .i64 0, .int .i64 0, .int .i64 0, .int .i64 0, .int .i64 0, .slice none 0 0, .int .i64 0, .slice none 0 0, .slice none 0 0] 50) := (Blk.new' (w.alloc _) _ _ (by simp)).below hb1 (by simp); have hz1 : w.heap.size + 2 ≤ w1.heap.size := (by have := hb1.size; simp at this; omega); have x0 : w1.cell? ⟨w.heap.size, 0, none⟩ = some (.int .i64 n) := BX1.out.cell 0; have x1 : w1.cell? ⟨w.heap.size, 1, none⟩ = some (.slice a l.length cap) := BX1.out.cell 1; have x2 : w1.cell? ⟨w.heap.size, 2, none⟩ = some (.slice a2 ws.length cap2) := BX1.out.cell 2; clear hb1)
      | (have hBA := BR1; refine gate_st 50 (.tmp 6) _ rfl ?_; clear hBA; refine wpl_store_blk rfl 50 (.tmp 6) _ rfl (w.heap.size + 1) rfl rfl BR1.out infoTk rfl rfl (by simp [Value.oneCell']) ?_))
    refine bodyPost_ret (results_blk Try.results23 rfl (BR1.out.row _) Try.underlying50 rfl infoTk rfl) rfl ⟨none, 0, none, 0, none, 0, [], rfl, rfl, ⟨w.heap.size, w.heap.size, w.heap.size, w.heap.size, Nat.le_refl _, Nat.le_refl _, ?_, Nat.le_refl _, ?_, .inl (Nat.le_refl _), BagR.nil _ _ _, BytesN.nil _ _ _⟩, below_row HB1.out (by omega) _⟩
    all_goals (simp [World.setRow]; omega)
  rw [hbag] at HF
  obtain ⟨hn, hl4, hrng⟩ := bagB_facts hbag
  have HR : Hid (∀ y ∈ ws, 0 ≤ y ∧ y ≤ 1000) := hrng
  have HCB : Hid (∀ w', Below w.heap.size w w' → Calls Try.prog 39 #[.agg #[.int .i64 n, .slice a l.length cap, .slice a2 ws.length cap2]] w' fun e w'' => ∃ v u L, e = .returned (.agg #[.int .i64 n, v, u]) ∧ cont L = cont l ∧ OwnP w'' w'.heap.size v L ∧ OwnI w'' w'.heap.size u ws ∧ (∀ k, u.ownBlock = some k → v.ownBlock ≠ some k ∧ ∀ p ∈ L, p.2.ownBlock ≠ some k) ∧ Below w'.heap.size w' w'') := fun w' h => copyBag_any n a cap a2 cap2 l ws w' (hv.below h) (hu.below h) (by omega) (fun p hp => by have := bulk_mem (List.mem_map_of_mem (f := Prod.fst) hp); unfold cont at hl; omega) hw
  rw [cont_len] at hl4
  by_cases hl0 : l.length = 0
  · rw [show takeAns n (cont l) ws pick keep = ⟨2, 0, noPk, n, cont l, ws⟩ by simp [takeAns, hbag, cont_len, hl0]]
    have HL0 : Hid (l.length = 0) := hl0
    clear hbag hrng hv hu hl0
    go_enter Try.func23, Try.ntmps23
    go_wp2_with (first
      | (go_at_call 38; refine (HF.out _ hb0.out).mono ?_; rintro e w1 ⟨rfl, hb1⟩; have HB1 : Hid (Below w.heap.size w w1) := hb0.out.trans (hb1.mono (by simp; omega)); have BX1 : Hid (Blk w1 w.heap.size #[.int .i64 n, .slice a l.length cap, .slice a2 ws.length cap2] 29) := ((Blk.new w _ _).alloc _).below hb1 (by simp; omega); have BR1 : Hid (Blk w1 (w.heap.size + 1) #[.int .i64 0, .int .i64 0, .int .i64 0, .int .i64 0, .int .i64 0, .slice none 0 0, .int .i64 0, .slice none 0 0, .slice none 0 0] 50) := (Blk.new' (w.alloc _) _ _ (by simp)).below hb1 (by simp); have hz1 : w.heap.size + 2 ≤ w1.heap.size := (by have := hb1.size; simp at this; omega); have x0 : w1.cell? ⟨w.heap.size, 0, none⟩ = some (.int .i64 n) := BX1.out.cell 0; have x1 : w1.cell? ⟨w.heap.size, 1, none⟩ = some (.slice a l.length cap) := BX1.out.cell 1; have x2 : w1.cell? ⟨w.heap.size, 2, none⟩ = some (.slice a2 ws.length cap2) := BX1.out.cell 2; clear hb1)
      | (go_at_call 39; refine (HCB.out _ HB1.out).mono ?_; rintro e w2 ⟨v, u, L0, rfl, hcL, hO2, hI2, hd2, hb2⟩; obtain ⟨ua, uc, rfl⟩ := hI2.shape; obtain ⟨va, vc, rfl⟩ := hO2.shape; have hll : L0.length = 0 := (by rw [← cont_len L0, hcL, cont_len]; exact HL0.out); have HLL : Hid (L0.length = 0) := hll; have HO2 : Hid (OwnP w2 w1.heap.size (Value.slice va L0.length vc) L0) := hO2; have HI2 : Hid (OwnI w2 w1.heap.size (.slice ua ws.length uc) ws) := hI2; have HD2 : Hid (∀ k, (Value.slice ua ws.length uc).ownBlock = some k → (Value.slice va L0.length vc).ownBlock ≠ some k ∧ ∀ p ∈ L0, p.2.ownBlock ≠ some k) := hd2; have HB2 : Hid (Below w1.heap.size w1 w2) := hb2; have HCL : Hid (cont L0 = cont l) := hcL; have hz2 := hb2.size; have BR2 : Hid (Blk w2 (w.heap.size + 1) #[.int .i64 0, .int .i64 0, .int .i64 0, .int .i64 0, .int .i64 0, .slice none 0 0, .int .i64 0, .slice none 0 0, .slice none 0 0] 50) := BR1.out.below hb2 (by omega); have BX2 : Hid (Blk w2 w.heap.size #[.int .i64 n, .slice a l.length cap, .slice a2 ws.length cap2] 29) := BX1.out.below hb2 (by omega); clear hO2 hI2 hd2 hb2 hcL x0 x1 x2)
      | (have hBA := BR2; refine gate_st 50 (.tmp 6) _ rfl ?_; clear hBA; have BR3 : Hid (Blk (w2.alloc (.cells #[.int .i64 n, .slice va 0 vc, .slice ua ws.length uc] 29)) (w.heap.size + 1) #[.int .i64 0, .int .i64 0, .int .i64 0, .int .i64 0, .int .i64 0, .slice none 0 0, .int .i64 0, .slice none 0 0, .slice none 0 0] 50) := BR2.out.alloc _; refine wpl_store_blk rfl 50 (.tmp 6) _ rfl (w.heap.size + 1) rfl rfl BR3.out infoTk rfl rfl (by simp [Value.oneCell']) ?_))
    refine bodyPost_ret (results_blk Try.results23 rfl (BR3.out.row _) Try.underlying50 rfl infoTk rfl) rfl ⟨none, 0, va, vc, ua, uc, L0, by rw [HLL.out]; rfl, HCL.out, ⟨w1.heap.size, w2.heap.size, w2.heap.size, w2.heap.size, by omega, hz2, ?_, by omega, ?_, .inl (Nat.le_refl _), ?_, BytesN.nil _ _ _⟩, below_row ((HB1.out.trans (HB2.out.mono (by omega))).alloc (by omega) _) (by omega) _⟩
    · simp [World.setRow]
    · simp [World.setRow]
    · have hb := BagR.own HO2.out HI2.out HD2.out (by rw [HLL.out]; unfold maxLen; omega) (by unfold maxLen; omega)
      rw [HLL.out] at hb ⊢
      exact hb.keep fun k h1 h2 => by rw [setRow_other _ _ _ _ (by omega), Below.heap_alloc w2 _ k h2]
  · have HPOS : Hid (0 < l.length) := by show 0 < _; omega
    obtain ⟨hi', hmod⟩ := takeAt_lt (cont l) pick (by rw [cont_len]; omega)
    rw [cont_len] at hi' hmod
    obtain ⟨i, hi0⟩ : ∃ i, i = takeAt (cont l) pick := ⟨_, rfl⟩
    rw [← hi0] at hi' hmod
    obtain ⟨pk, hpk⟩ : ∃ pk, (cont l)[i]? = some pk := ⟨_, List.getElem?_eq_getElem (by rw [cont_len]; exact hi')⟩
    have hmem : pk ∈ cont l := List.mem_of_getElem? hpk
    have HPS : Hid ((0 ≤ pk.fr ∧ pk.fr ≤ 1000) ∧ (0 ≤ pk.to ∧ pk.to ≤ 1000)) := pkt_small hbag pk hmem
    have hpl : pk.bs.length ≤ 1048576 := by have := bulk_mem hmem; omega
    obtain ⟨kp, hkp⟩ : ∃ kp, kp = (keep != 0) := ⟨_, rfl⟩
    obtain ⟨PL, hPL⟩ : ∃ PL, (if kp = true then cont l else (cont l).eraseIdx i) = PL := ⟨_, rfl⟩
    have hif : (if keep = 0 then (cont l).eraseIdx i else cont l) = PL := by
      rw [← hPL, hkp]
      by_cases h : keep = 0 <;> simp [h]
    have HU : Hid (∀ w', Below w.heap.size w w' → Calls Try.prog 59 #[.slice a2 ws.length cap2] w' fun e w'' => e = .returned (.map (some w'.heap.size)) ∧ SetAt w'' w'.heap.size ws ∧ Below w'.heap.size w' w'') := fun w' hb => wallsOf_any _ ws w' (hu.below hb) HR.out hw
    rw [show takeAns n (cont l) ws pick keep = ⟨0, if (ws.contains pk.fr || ws.contains pk.to) = true then 1 else 0, pk, n, PL, ws⟩ by
      simp only [takeAns, hbag, Bool.true_eq_false, if_false, cont_len, hl0, ← hi0, List.getD_eq_getElem?_getD, hpk, Option.getD_some, hif]]
    have HMOD : Hid (modI pick l.length = (i : Int)) := hmod
    have HPK : Hid ((cont l)[i]? = some pk) := hpk
    have HPL : Hid ((if kp = true then cont l else (cont l).eraseIdx i) = PL) := hPL
    clear hbag hrng hv hu hl0 hi0 hmod hpk hmem hPL hif
    have hkp' : (keep != 0) = kp := hkp.symm
    clear hkp
    cases hlo : (ws.contains pk.fr || ws.contains pk.to)
    · have HL : Hid (∀ (u : World) (b : Nat), SetAt u b ws → Calls Try.prog 60 #[.map (some b), .int .i64 pk.fr, .int .i64 pk.to] u fun e w' => e = .returned (.bool false) ∧ Below u.heap.size u w') := fun u b h => by rw [← hlo]; exact lose_any b ws _ _ u h HPS.out.1 HPS.out.2
      clear hlo
      rw [if_neg (by simp)]
      go_enter Try.func23, Try.ntmps23
      go_wp2_with (first
        | (go_at_call 38; refine (HF.out _ hb0.out).mono ?_; rintro e w1 ⟨rfl, hb1⟩; have HB1 : Hid (Below w.heap.size w w1) := hb0.out.trans (hb1.mono (by simp; omega)); have BX1 : Hid (Blk w1 w.heap.size #[.int .i64 n, .slice a l.length cap, .slice a2 ws.length cap2] 29) := ((Blk.new w _ _).alloc _).below hb1 (by simp; omega); have BR1 : Hid (Blk w1 (w.heap.size + 1) #[.int .i64 0, .int .i64 0, .int .i64 0, .int .i64 0, .int .i64 0, .slice none 0 0, .int .i64 0, .slice none 0 0, .slice none 0 0] 50) := (Blk.new' (w.alloc _) _ _ (by simp)).below hb1 (by simp); have hz1 : w.heap.size + 2 ≤ w1.heap.size := (by have := hb1.size; simp at this; omega); have x0 : w1.cell? ⟨w.heap.size, 0, none⟩ = some (.int .i64 n) := BX1.out.cell 0; have x1 : w1.cell? ⟨w.heap.size, 1, none⟩ = some (.slice a l.length cap) := BX1.out.cell 1; have x2 : w1.cell? ⟨w.heap.size, 2, none⟩ = some (.slice a2 ws.length cap2) := BX1.out.cell 2; clear hb1)
        | (go_at_call 39; refine (HCB.out _ HB1.out).mono ?_; rintro e w2 ⟨v, u, L0, rfl, hcL, hO2, hI2, hd2, hb2⟩; obtain ⟨ua, uc, rfl⟩ := hI2.shape; obtain ⟨g, vc, rfl⟩ := hO2.shape' (by rw [← cont_len L0, hcL, cont_len]; exact HPOS.out); have HLL : Hid (L0.length = l.length) := (by show _ = _; rw [← cont_len L0, hcL, cont_len]); have HL1 : Hid (¬ L0.length = 0) := (by show ¬ _; rw [HLL.out]; have := HPOS.out; omega); have hl1 : ¬ L0.length = 0 := HL1.out; have HGL : Hid (g < w2.heap.size) := hO2.lts.1 g rfl; have HO2 : Hid (OwnP w2 w1.heap.size (Value.slice (some ⟨g, 0, none⟩) L0.length vc) L0) := hO2; have HI2 : Hid (OwnI w2 w1.heap.size (.slice ua ws.length uc) ws) := hI2; have HD2 : Hid (∀ k, (Value.slice ua ws.length uc).ownBlock = some k → (Value.slice (some ⟨g, 0, none⟩) L0.length vc).ownBlock ≠ some k ∧ ∀ p ∈ L0, p.2.ownBlock ≠ some k) := hd2; have HB2 : Hid (Below w1.heap.size w1 w2) := hb2; have HCL : Hid (cont L0 = cont l) := hcL; have hz2 := hb2.size; have BR2 : Hid (Blk w2 (w.heap.size + 1) #[.int .i64 0, .int .i64 0, .int .i64 0, .int .i64 0, .int .i64 0, .slice none 0 0, .int .i64 0, .slice none 0 0, .slice none 0 0] 50) := BR1.out.below hb2 (by omega); have BX2 : Hid (Blk w2 w.heap.size #[.int .i64 n, .slice a l.length cap, .slice a2 ws.length cap2] 29) := BX1.out.below hb2 (by omega); clear hO2 hI2 hd2 hb2 hcL x0 x1 x2)
        | (go_at_call 58; clear hl1; refine (take_u w2.heap.size n g vc L0 ua ws.length uc pick kp _ w1.heap.size (Blk.new w2 _ _) (HO2.out.below ((Below.refl _ _).alloc (Nat.le_refl _) _)) ⟨HGL.out, HO2.out.lts.2⟩ (by have := HLL.out; omega) hx hX i (by have := HLL.out; omega) (by rw [HLL.out]; exact HMOD.out) pk (by rw [HCL.out]; exact HPK.out)).mono ?_; rintro e w4 ⟨a4, c4, L', rfl, hcL', hsub', hQ4, hR4, hS4, hT4⟩; rw [HCL.out, HPL.out] at hcL'; have hs4 : w2.heap.size + 1 ≤ w4.heap.size := (by have := hT4.size; simpa using this); have HCL' : Hid (cont L' = PL) := hcL'; have HSB : Hid (∀ p ∈ L', p ∈ L0) := hsub'; have HQ4 : Hid (Blk w4 w2.heap.size #[.int .i64 n, .slice (some ⟨g, 0, none⟩) L'.length vc, .slice ua ws.length uc] 29) := hQ4; have HR4 : Hid (PksR w1.heap.size w2.heap.size w4 (.slice (some ⟨g, 0, none⟩) L'.length vc) L') := hR4; have HS4 : Hid (Bs w4 (.slice a4 pk.bs.length c4) pk.bs) := hS4; have HT4 : Hid (Touched (fun k => k = w2.heap.size ∨ k = g) _ w4) := hT4; have BX4 : Hid (Blk w4 w.heap.size #[.int .i64 n, .slice a l.length cap, .slice a2 ws.length cap2] 29) := (BX2.out.alloc _).keep (hT4.block _ (by simp; omega) (by have := (World.ownsRow.lt HO2.out.row g rfl).1; omega)); have BR4 : Hid (Blk w4 (w.heap.size + 1) #[.int .i64 0, .int .i64 0, .int .i64 0, .int .i64 0, .int .i64 0, .slice none 0 0, .int .i64 0, .slice none 0 0, .slice none 0 0] 50) := (BR2.out.alloc _).keep (hT4.block _ (by simp; omega) (by have := (World.ownsRow.lt HO2.out.row g rfl).1; omega)); clear hcL' hsub' hQ4 hR4 hS4 hT4))
      obtain ⟨W5, hW5⟩ : ∃ W5, W5 = w4.alloc (.cells #[.int .i64 pk.id, .int .i64 pk.fr, .int .i64 pk.to, .slice a4 pk.bs.length c4] 48) := ⟨_, rfl⟩
      rw [← hW5]
      have BP5 : Blk W5 w4.heap.size #[.int .i64 pk.id, .int .i64 pk.fr, .int .i64 pk.to, .slice a4 pk.bs.length c4] 48 := by rw [hW5]; exact Blk.new _ _ _
      have BQ5 : Blk W5 w2.heap.size #[.int .i64 n, .slice (some ⟨g, 0, none⟩) L'.length vc, .slice ua ws.length uc] 29 := by rw [hW5]; exact HQ4.out.alloc _
      have BX5 : Hid (Blk W5 w.heap.size #[.int .i64 n, .slice a l.length cap, .slice a2 ws.length cap2] 29) := by show Blk _ _ _ _; rw [hW5]; exact BX4.out.alloc _
      have BR5 : Hid (Blk W5 (w.heap.size + 1) #[.int .i64 0, .int .i64 0, .int .i64 0, .int .i64 0, .int .i64 0, .slice none 0 0, .int .i64 0, .slice none 0 0, .slice none 0 0] 50) := by show Blk _ _ _ _; rw [hW5]; exact BR4.out.alloc _
      have HS5 : Hid (Bs W5 (.slice a4 pk.bs.length c4) pk.bs) := by show Bs _ _ _; rw [hW5]; exact HS4.out.below ((Below.refl _ _).alloc (Nat.le_refl _) _)
      have hz5 : W5.heap.size = w4.heap.size + 1 := by rw [hW5]; simp
      have HB5 : Hid (Below w4.heap.size w4 W5) := by show Below _ _ _; rw [hW5]; exact (Below.refl _ _).alloc (Nat.le_refl _) _
      clear hW5
      refine wp_named ?_
      intro a0 ha0
      have hsz0 : a0.tmps.size = 40 := by rw [ha0]; rfl
      have e7 : a0.eval (.tmp 7) = .pointer (some ⟨w2.heap.size, 0, none⟩) := by rw [ha0]; rfl
      have e8 : a0.eval (.tmp 8) = .pointer (some ⟨w4.heap.size, 0, none⟩) := by rw [ha0]; rfl
      have HA0 : Hid (a0 = _) := ha0
      clear ha0
      refine wp_region_inv (by kernel_rfl) (fun L aF w' => ∃ x : Nat → Value, aF = frame a0 [26, 27, 28, 29, 9] x ∧ Below W5.heap.size W5 w' ∧ (L.getD 0 false = true → x 26 = .agg #[.int .i64 pk.id, .int .i64 pk.fr, .int .i64 pk.to, .slice a4 pk.bs.length c4]) ∧ (L.getD 1 false = true → ∃ a7 c7, x 27 = .agg #[.int .i64 pk.id, .int .i64 pk.fr, .int .i64 pk.to, .slice a7 pk.bs.length c7] ∧ Own w' W5.heap.size (.slice a7 pk.bs.length c7) pk.bs) ∧ (L.getD 2 false = true → x 28 = .agg #[.int .i64 n, .slice (some ⟨g, 0, none⟩) L'.length vc, .slice ua ws.length uc]) ∧ (L.getD 3 false = true → ∃ a7 c7, x 29 = .agg #[.int .i64 0, .int .i64 0, .int .i64 pk.id, .int .i64 pk.fr, .int .i64 pk.to, .slice a7 pk.bs.length c7, .int .i64 n, .slice (some ⟨g, 0, none⟩) L'.length vc, .slice ua ws.length uc] ∧ Own w' W5.heap.size (.slice a7 pk.bs.length c7) pk.bs) ∧ (L.getD 4 false = true → ∃ p C, x 9 = .pointer (some ⟨p, 0, none⟩) ∧ W5.heap.size ≤ p ∧ Blk w' p C 50 ∧ C.size = 9 ∧ (L.getD 5 false = true → ∃ a7 c7, C = #[.int .i64 0, .int .i64 0, .int .i64 pk.id, .int .i64 pk.fr, .int .i64 pk.to, .slice a7 pk.bs.length c7, .int .i64 n, .slice (some ⟨g, 0, none⟩) L'.length vc, .slice ua ws.length uc] ∧ Own w' W5.heap.size (.slice a7 pk.bs.length c7) pk.bs)) ∧ (L.getD 5 false = true → L.getD 4 false = true)) ?_ ?_ ?_
      · exact ⟨_, frame_self a0 [26, 27, 28, 29, 9], (Below.refl _ _).drew, fun h => (noBit h).elim, fun h => (noBit h).elim, fun h => (noBit h).elim, fun h => (noBit h).elim, fun h => (noBit h).elim, fun h => (noBit h).elim⟩
      · rintro L a w' i hsL hi ⟨x, rfl, hB, h0, h1, h2, h3, h4, h5⟩
        have hiL : i < 6 := (ready_mem hsL hi).1
        have hL : L.size = 6 := hsL
        have hw' : W5.heap.size ≤ w'.heap.size := hB.size
        rcases (show i = 0 ∨ i = 1 ∨ i = 2 ∨ i = 3 ∨ i = 4 ∨ i = 5 by omega) with rfl | rfl | rfl | rfl | rfl | rfl
        · skip
          refine wpOp_plain rfl rfl (wp_load_blk 48 (.tmp 8) rfl (w4.heap.size) ((frame_eval _ _ _ 8 rfl).trans e8) (BP5.below hB BP5.lt) Try.underlying48 rfl infoPkS rfl ?_)
          exact ⟨_, frame_put _ _ _ 26 _ rfl, hB, fun h => upd_same _ _ _, fun h => by rw [upd_ne _ _ _ _ (by decide)]; exact (h1 (keepBit h (by omega) (by decide))), fun h => by rw [upd_ne _ _ _ _ (by decide)]; exact (h2 (keepBit h (by omega) (by decide))), fun h => by rw [upd_ne _ _ _ _ (by decide)]; exact (h3 (keepBit h (by omega) (by decide))), fun h => by obtain ⟨p, C, ep, hp, hP, hC, hR⟩ := h4 (keepBit h (by omega) (by decide)); exact ⟨p, C, (upd_ne _ _ _ _ (by decide)).trans ep, hp, hP, hC, fun hq6 => (hR (keepBit hq6 (by omega) (by decide)))⟩, fun h => setBit (h5 (keepBit h (by omega) (by decide))) (by omega)⟩
        · have d0 := h0 (ready_needs hi (by decide))
          have ev26 := (frame_eval_in a0 [26, 27, 28, 29, 9] x 26 rfl (by omega)).trans d0
          refine wpOp_plain rfl rfl (wp_call_go (N := 51) rfl (fun _ _ => by go_simp) #[.agg #[.int .i64 pk.id, .int .i64 pk.fr, .int .i64 pk.to, .slice a4 pk.bs.length c4]] (by simp only [List.map_toArray, List.map_cons, List.map_nil, ev26]) ?_)
          refine Calls.mono (copyPacket_any _ _ _ _ pk.bs _ (HS5.out.below hB) hpl) ?_
          rintro e w2 ⟨a7, c7, rfl, ho, hb⟩
          refine ⟨_, rfl, ?_⟩
          exact ⟨_, frame_put _ _ _ 27 _ rfl, hB.trans (hb.mono hw'), fun h => by rw [upd_ne _ _ _ _ (by decide)]; exact (h0 (keepBit h (by omega) (by decide))), fun h => ⟨a7, c7, upd_same _ _ _, ho.le hw'⟩, fun h => by rw [upd_ne _ _ _ _ (by decide)]; exact (h2 (keepBit h (by omega) (by decide))), fun h => by rw [upd_ne _ _ _ _ (by decide)]; exact (by obtain ⟨a7, c7, ey, ho⟩ := (h3 (keepBit h (by omega) (by decide))); exact ⟨a7, c7, ey, ho.below hb⟩), fun h => by obtain ⟨p, C, ep, hp, hP, hC, hR⟩ := h4 (keepBit h (by omega) (by decide)); exact ⟨p, C, (upd_ne _ _ _ _ (by decide)).trans ep, hp, hP.below hb hP.lt, hC, fun hq6 => (by obtain ⟨a7, c7, ey, ho⟩ := (hR (keepBit hq6 (by omega) (by decide))); exact ⟨a7, c7, ey, ho.below hb⟩)⟩, fun h => setBit (h5 (keepBit h (by omega) (by decide))) (by omega)⟩
        · skip
          refine wpOp_plain rfl rfl (wp_load_blk 29 (.tmp 7) rfl (w2.heap.size) ((frame_eval _ _ _ 7 rfl).trans e7) (BQ5.below hB BQ5.lt) Try.underlying29 rfl infoBagS rfl ?_)
          exact ⟨_, frame_put _ _ _ 28 _ rfl, hB, fun h => by rw [upd_ne _ _ _ _ (by decide)]; exact (h0 (keepBit h (by omega) (by decide))), fun h => by rw [upd_ne _ _ _ _ (by decide)]; exact (h1 (keepBit h (by omega) (by decide))), fun h => upd_same _ _ _, fun h => by rw [upd_ne _ _ _ _ (by decide)]; exact (h3 (keepBit h (by omega) (by decide))), fun h => by obtain ⟨p, C, ep, hp, hP, hC, hR⟩ := h4 (keepBit h (by omega) (by decide)); exact ⟨p, C, (upd_ne _ _ _ _ (by decide)).trans ep, hp, hP, hC, fun hq6 => (hR (keepBit hq6 (by omega) (by decide)))⟩, fun h => setBit (h5 (keepBit h (by omega) (by decide))) (by omega)⟩
        · have d1 := h1 (ready_needs hi (by decide))
          have d2 := h2 (ready_needs hi (by decide))
          obtain ⟨a7, c7, ey, ho7⟩ := d1
          have ev27 : (frame a0 [26, 27, 28, 29, 9] x).tmps[27]?.getD undef = .agg #[.int .i64 pk.id, .int .i64 pk.fr, .int .i64 pk.to, .slice a7 pk.bs.length c7] := by have h := (frame_eval_in a0 [26, 27, 28, 29, 9] x 27 rfl (by omega)).trans ey; simpa [Act.eval] using h
          have ev28 : (frame a0 [26, 27, 28, 29, 9] x).tmps[28]?.getD undef = .agg #[.int .i64 n, .slice (some ⟨g, 0, none⟩) L'.length vc, .slice ua ws.length uc] := by have h := (frame_eval_in a0 [26, 27, 28, 29, 9] x 28 rfl (by omega)).trans d2; simpa [Act.eval] using h
          refine wpOp_plain rfl rfl (wp_value_go (v := .agg #[.int .i64 0, .int .i64 0, .int .i64 pk.id, .int .i64 pk.fr, .int .i64 pk.to, .slice a7 pk.bs.length c7, .int .i64 n, .slice (some ⟨g, 0, none⟩) L'.length vc, .slice ua ws.length uc]) ?_ ?_)
          · obtain ⟨aa, haa⟩ : ∃ aa, aa = frame a0 [26, 27, 28, 29, 9] x := ⟨_, rfl⟩
            rw [← haa] at ev27 ev28 ⊢
            clear haa HA0
            go_simp
          exact ⟨_, frame_put _ _ _ 29 _ rfl, hB, fun h => by rw [upd_ne _ _ _ _ (by decide)]; exact (h0 (keepBit h (by omega) (by decide))), fun h => by rw [upd_ne _ _ _ _ (by decide)]; exact (h1 (keepBit h (by omega) (by decide))), fun h => by rw [upd_ne _ _ _ _ (by decide)]; exact (h2 (keepBit h (by omega) (by decide))), fun h => ⟨a7, c7, upd_same _ _ _, ho7⟩, fun h => by obtain ⟨p, C, ep, hp, hP, hC, hR⟩ := h4 (keepBit h (by omega) (by decide)); exact ⟨p, C, (upd_ne _ _ _ _ (by decide)).trans ep, hp, hP, hC, fun hq6 => (hR (keepBit hq6 (by omega) (by decide)))⟩, fun h => setBit (h5 (keepBit h (by omega) (by decide))) (by omega)⟩
        · skip
          refine wpOp_plain rfl rfl (wp_alloc_go 50 #[.int .i64 0, .int .i64 0, .int .i64 0, .int .i64 0, .int .i64 0, .slice none 0 0, .int .i64 0, .slice none 0 0, .slice none 0 0] rfl (fun _ => by go_simp) ?_)
          have hb : Below w'.heap.size w' (w'.alloc (.cells #[.int .i64 0, .int .i64 0, .int .i64 0, .int .i64 0, .int .i64 0, .slice none 0 0, .int .i64 0, .slice none 0 0, .slice none 0 0] 50)) := (Below.refl _ _).alloc (Nat.le_refl _) _
          exact ⟨_, frame_put _ _ _ 9 _ rfl, hB.alloc hw' _, fun h => by rw [upd_ne _ _ _ _ (by decide)]; exact (h0 (keepBit h (by omega) (by decide))), fun h => by rw [upd_ne _ _ _ _ (by decide)]; exact (by obtain ⟨a7, c7, ey, ho⟩ := (h1 (keepBit h (by omega) (by decide))); exact ⟨a7, c7, ey, ho.below hb⟩), fun h => by rw [upd_ne _ _ _ _ (by decide)]; exact (h2 (keepBit h (by omega) (by decide))), fun h => by rw [upd_ne _ _ _ _ (by decide)]; exact (by obtain ⟨a7, c7, ey, ho⟩ := (h3 (keepBit h (by omega) (by decide))); exact ⟨a7, c7, ey, ho.below hb⟩), fun h => ⟨_, _, upd_same _ _ _, hw', Blk.new _ _ _, rfl, fun hq6 => (readyBit hsL hi (h5 (keepBit hq6 (by omega) (by decide)))).elim⟩, fun h => setSelf (by omega)⟩
        · have d3 := h3 (ready_needs hi (by decide))
          have d4 := h4 (ready_needs hi (by decide))
          obtain ⟨p, C, ep, hp, hP, hC, hR⟩ := d4
          obtain ⟨a7, c7, ey, ho7⟩ := d3
          have evp := (frame_eval_in a0 [26, 27, 28, 29, 9] x 9 rfl (by omega)).trans ep
          have evs := (frame_eval_in a0 [26, 27, 28, 29, 9] x 29 rfl (by omega)).trans ey
          refine wpOp_plain rfl rfl (wp_store_blk 50 (.tmp 9) (.tmp 29) rfl p evp evs hP infoTk rfl hC (by simp [Value.oneCell']) ?_)
          exact ⟨_, rfl, below_row hB hp _, fun h => (h0 (keepBit h (by omega) (by decide))), fun h => (by obtain ⟨a7, c7, ey, ho⟩ := (h1 (keepBit h (by omega) (by decide))); exact ⟨a7, c7, ey, ho.block fun k hk => setRow_other _ _ _ _ (ho.ne_blk hP (by decide) k hk)⟩), fun h => (h2 (keepBit h (by omega) (by decide))), fun h => (by obtain ⟨a7, c7, ey, ho⟩ := (h3 (keepBit h (by omega) (by decide))); exact ⟨a7, c7, ey, ho.block fun k hk => setRow_other _ _ _ _ (ho.ne_blk hP (by decide) k hk)⟩), fun h => ⟨p, _, ep, hp, hP.row _, rfl, fun _ => ⟨a7, c7, rfl, ho7.block fun k hk => setRow_other _ _ _ _ (ho7.ne_blk hP (by decide) k hk)⟩⟩, fun h => setBit (ready_needs hi (by decide)) (by omega)⟩
      · rintro L a w' hsL hr ⟨x, rfl, hB, h0, h1, h2, h3, h4, h5⟩
        have hall := ready_nil hsL hr (by decide)
        replace h0 := h0 (hall 0 (by decide))
        replace h1 := h1 (hall 1 (by decide))
        replace h2 := h2 (hall 2 (by decide))
        replace h3 := h3 (hall 3 (by decide))
        replace h4 := h4 (hall 4 (by decide))
        replace h5 := h5 (hall 5 (by decide))
        obtain ⟨p, C, ep, hp, hP, hC, hR⟩ := h4
        replace hR := hR (hall 5 (by decide))
        rw [HA0.out]
        simp only [frame, List.zipIdx_cons, List.zipIdx_nil, List.map_cons, List.map_nil, List.contains_cons, List.contains_nil, Nat.reduceBEq, Nat.reduceAdd, Bool.or_false, Bool.false_or, Bool.or_true, Bool.true_or, Bool.false_eq_true, if_false, if_true, h0, h2, ep]
        obtain ⟨a7, c7, rfl, ho7⟩ := hR
        have HO7 : Hid (Own w' W5.heap.size (.slice a7 pk.bs.length c7) pk.bs) := ho7
        have HPP : Hid (Blk w' p #[.int .i64 0, .int .i64 0, .int .i64 pk.id, .int .i64 pk.fr, .int .i64 pk.to, .slice a7 pk.bs.length c7, .int .i64 n, .slice (some ⟨g, 0, none⟩) L'.length vc, .slice ua ws.length uc] 50) := hP
        have HBX : Hid (Blk w' w.heap.size #[.int .i64 n, .slice a l.length cap, .slice a2 ws.length cap2] 29) := BX5.out.below hB BX5.out.lt
        have HBR : Hid (Blk w' (w.heap.size + 1) #[.int .i64 0, .int .i64 0, .int .i64 0, .int .i64 0, .int .i64 0, .slice none 0 0, .int .i64 0, .slice none 0 0, .slice none 0 0] 50) := BR5.out.below hB BR5.out.lt
        have HBP : Hid (Blk w' w4.heap.size #[.int .i64 pk.id, .int .i64 pk.fr, .int .i64 pk.to, .slice a4 pk.bs.length c4] 48) := BP5.below hB BP5.lt
        have HBB : Hid (Below W5.heap.size W5 w') := hB
        have hz7 := hB.size
        have HBW : Hid (Below w.heap.size w w') := by
          have h45 : Below w.heap.size w4 w' := (HB5.out.mono (by omega)).trans (hB.mono (by omega))
          have h24 : Below w.heap.size (w2.alloc (.cells #[.int .i64 n, Value.slice (some ⟨g, 0, none⟩) L0.length vc, .slice ua ws.length uc] 29)) w4 := ⟨HT4.out.os, HT4.out.tape, HT4.out.output, HT4.out.size, fun k hk => HT4.out.block k (by simp; omega) (by have := (World.ownsRow.lt HO2.out.row g rfl).1; omega)⟩
          exact (((HB1.out.trans (HB2.out.mono (by omega))).alloc (by omega) _).trans h24).trans h45
        have HBG : Hid (BagR w1.heap.size w2.heap.size w' (.slice (some ⟨g, 0, none⟩) L'.length vc) (.slice ua ws.length uc) L' ws) := by
          have h4 : BagR w1.heap.size w2.heap.size w4 (.slice (some ⟨g, 0, none⟩) L'.length vc) (.slice ua ws.length uc) L' ws := ⟨HR4.out, (HI2.out.r (by unfold maxLen; omega)).block' fun k e => by
            have hk := World.ownsRow.lt HI2.out k e
            have hd := (HD2.out k e).1
            rw [HT4.out.block k (by simp; omega) (by rintro (h | h); omega; exact hd (by rw [h]; rfl)), Below.heap_alloc w2 _ k hk.2], fun _ k e hk => by
            rcases hk with ⟨_, e'⟩ | ⟨p, hp, e'⟩
            · exact (HD2.out k e).1 e'
            · exact (HD2.out k e).2 p (HSB.out p hp) e'⟩
          exact h4.keep fun k h1 h2 => by rw [hB.block k (by omega), HB5.out.block k (by omega)]
        have HYN : Hid (BytesN W5.heap.size w'.heap.size w' (.slice a7 pk.bs.length c7) pk.bs) := ⟨ho7, fun k e => ho7.2.lt k e⟩
        have x2 : w'.cell? ⟨w.heap.size, 2, none⟩ = some (.slice a2 ws.length cap2) := HBX.out.cell 2
        have y1 : w'.cell? ⟨w4.heap.size, 1, none⟩ = some (.int .i64 pk.fr) := HBP.out.cell 1
        have y2 : w'.cell? ⟨w4.heap.size, 2, none⟩ = some (.int .i64 pk.to) := HBP.out.cell 2
        have hpw := hP.lt
        clear ho7 hP hC h0 h1 h2 h3 h5 hall hr hsL HA0 hsz0 e7 e8 hB BP5 BQ5 ep
        go_wp2_with (fail)
        go_region_held3 (fun u => u.cell? ⟨w.heap.size, 2, none⟩ = some (.slice a2 ws.length cap2) ∧ u.cell? ⟨w4.heap.size, 1, none⟩ = some (.int .i64 pk.fr) ∧ u.cell? ⟨w4.heap.size, 2, none⟩ = some (.int .i64 pk.to)) (simp [*, go_sem])
          (first
            | (go_at_call 59; refine (HU.out _ (HBW.out.drew)).mono ?_; rintro r w8 ⟨rfl, hs8, hb8⟩; have hz8 : w'.heap.size ≤ w8.heap.size := (by have := hb8.size; simpa using this); have ax2 : w8.cell? ⟨w.heap.size, 2, none⟩ = some (.slice a2 ws.length cap2) := (hb8.cell (p := ⟨w.heap.size, 2, none⟩) (by simp <;> omega)).trans (by simp [go_sem, *]); have ay1 : w8.cell? ⟨w4.heap.size, 1, none⟩ = some (.int .i64 pk.fr) := (hb8.cell (p := ⟨w4.heap.size, 1, none⟩) (by simp <;> omega)).trans (by simp [go_sem, *]); have ay2 : w8.cell? ⟨w4.heap.size, 2, none⟩ = some (.int .i64 pk.to) := (hb8.cell (p := ⟨w4.heap.size, 2, none⟩) (by simp <;> omega)).trans (by simp [go_sem, *]); have HS8 : Hid (SetAt w8 _ ws) := hs8; have HB8 : Hid (Below w'.heap.size w' w8) := (Below.refl _ _).drew.trans hb8; clear hs8 hb8)
            | (go_at_call 60; refine (HL.out _ _ HS8.out).mono ?_; rintro r w9 ⟨rfl, hb9⟩; have hz9 := hb9.size; have bx2 : w9.cell? ⟨w.heap.size, 2, none⟩ = some (.slice a2 ws.length cap2) := (hb9.cell (p := ⟨w.heap.size, 2, none⟩) (by simp <;> omega)).trans (by simp [go_sem, *]); have by1 : w9.cell? ⟨w4.heap.size, 1, none⟩ = some (.int .i64 pk.fr) := (hb9.cell (p := ⟨w4.heap.size, 1, none⟩) (by simp <;> omega)).trans (by simp [go_sem, *]); have by2 : w9.cell? ⟨w4.heap.size, 2, none⟩ = some (.int .i64 pk.to) := (hb9.cell (p := ⟨w4.heap.size, 2, none⟩) (by simp <;> omega)).trans (by simp [go_sem, *]); have HB9 : Hid (Below w'.heap.size w' w9) := HB8.out.trans (hb9.mono (by omega)); clear hb9))
        all_goals
          have HPP9 : Hid (Blk w9 p #[.int .i64 0, .int .i64 0, .int .i64 pk.id, .int .i64 pk.fr, .int .i64 pk.to, .slice a7 pk.bs.length c7, .int .i64 n, .slice (some ⟨g, 0, none⟩) L'.length vc, .slice ua ws.length uc] 50) := HPP.out.below HB9.out hpw
        all_goals
          have HBR9 : Hid (Blk w9 (w.heap.size + 1) #[.int .i64 0, .int .i64 0, .int .i64 0, .int .i64 0, .int .i64 0, .slice none 0 0, .int .i64 0, .slice none 0 0, .slice none 0 0] 50) := HBR.out.below HB9.out (by omega)

        all_goals go_wp2_with (first
          | (have hBA := HPP9; refine gate_ld 50 (.tmp 9) rfl ?_; clear hBA; have BL : Blk w9 p #[.int .i64 0, .int .i64 0, .int .i64 pk.id, .int .i64 pk.fr, .int .i64 pk.to, .slice a7 pk.bs.length c7, .int .i64 n, .slice (some ⟨g, 0, none⟩) L'.length vc, .slice ua ws.length uc] 50 := HPP9.out; refine wpl_load_blk rfl 50 (.tmp 9) rfl p rfl BL Try.underlying50 rfl infoTk rfl ?_; clear BL)
          | (have hBA := HBR9; refine gate_st 50 (.tmp 6) _ rfl ?_; clear hBA; have BS : Blk w9 (w.heap.size + 1) #[.int .i64 0, .int .i64 0, .int .i64 0, .int .i64 0, .int .i64 0, .slice none 0 0, .int .i64 0, .slice none 0 0, .slice none 0 0] 50 := HBR9.out; refine wpl_store_blk rfl 50 (.tmp 6) _ rfl (w.heap.size + 1) rfl rfl BS infoTk rfl rfl (by simp [Value.oneCell']) ?_))
        all_goals
          refine bodyPost_ret (results_blk Try.results23 rfl (BS.row _) Try.underlying50 rfl infoTk rfl) rfl ⟨a7, c7, some ⟨g, 0, none⟩, vc, ua, uc, L', rfl, HCL'.out, ⟨w1.heap.size, w2.heap.size, W5.heap.size, w'.heap.size, by omega, hz2, ?_, by omega, ?_, .inl (by omega), ?_, ?_⟩, ?_⟩
        all_goals first
          | (simp [World.setRow, World.setCell]; have := HB9.out.size; omega)
          | exact HBG.out.keep fun k h1 h2 => by rw [setRow_other _ _ _ _ (by omega), HB9.out.block k (by omega)]
          | exact ⟨HYN.out.own.block fun k e => by have h3 := HYN.out.lt k e; have h4 := HYN.out.own.ne_blk HPP.out (by decide) k e; rw [setRow_other _ _ _ _ (by omega), HB9.out.block k (by omega)], HYN.out.lt⟩
          | exact below_row (HBW.out.trans (HB9.out.mono (by omega))) (by omega) _
    · have HL : Hid (∀ (u : World) (b : Nat), SetAt u b ws → Calls Try.prog 60 #[.map (some b), .int .i64 pk.fr, .int .i64 pk.to] u fun e w' => e = .returned (.bool true) ∧ Below u.heap.size u w') := fun u b h => by rw [← hlo]; exact lose_any b ws _ _ u h HPS.out.1 HPS.out.2
      clear hlo
      rw [if_pos rfl]
      go_enter Try.func23, Try.ntmps23
      go_wp2_with (first
        | (go_at_call 38; refine (HF.out _ hb0.out).mono ?_; rintro e w1 ⟨rfl, hb1⟩; have HB1 : Hid (Below w.heap.size w w1) := hb0.out.trans (hb1.mono (by simp; omega)); have BX1 : Hid (Blk w1 w.heap.size #[.int .i64 n, .slice a l.length cap, .slice a2 ws.length cap2] 29) := ((Blk.new w _ _).alloc _).below hb1 (by simp; omega); have BR1 : Hid (Blk w1 (w.heap.size + 1) #[.int .i64 0, .int .i64 0, .int .i64 0, .int .i64 0, .int .i64 0, .slice none 0 0, .int .i64 0, .slice none 0 0, .slice none 0 0] 50) := (Blk.new' (w.alloc _) _ _ (by simp)).below hb1 (by simp); have hz1 : w.heap.size + 2 ≤ w1.heap.size := (by have := hb1.size; simp at this; omega); have x0 : w1.cell? ⟨w.heap.size, 0, none⟩ = some (.int .i64 n) := BX1.out.cell 0; have x1 : w1.cell? ⟨w.heap.size, 1, none⟩ = some (.slice a l.length cap) := BX1.out.cell 1; have x2 : w1.cell? ⟨w.heap.size, 2, none⟩ = some (.slice a2 ws.length cap2) := BX1.out.cell 2; clear hb1)
        | (go_at_call 39; refine (HCB.out _ HB1.out).mono ?_; rintro e w2 ⟨v, u, L0, rfl, hcL, hO2, hI2, hd2, hb2⟩; obtain ⟨ua, uc, rfl⟩ := hI2.shape; obtain ⟨g, vc, rfl⟩ := hO2.shape' (by rw [← cont_len L0, hcL, cont_len]; exact HPOS.out); have HLL : Hid (L0.length = l.length) := (by show _ = _; rw [← cont_len L0, hcL, cont_len]); have HL1 : Hid (¬ L0.length = 0) := (by show ¬ _; rw [HLL.out]; have := HPOS.out; omega); have hl1 : ¬ L0.length = 0 := HL1.out; have HGL : Hid (g < w2.heap.size) := hO2.lts.1 g rfl; have HO2 : Hid (OwnP w2 w1.heap.size (Value.slice (some ⟨g, 0, none⟩) L0.length vc) L0) := hO2; have HI2 : Hid (OwnI w2 w1.heap.size (.slice ua ws.length uc) ws) := hI2; have HD2 : Hid (∀ k, (Value.slice ua ws.length uc).ownBlock = some k → (Value.slice (some ⟨g, 0, none⟩) L0.length vc).ownBlock ≠ some k ∧ ∀ p ∈ L0, p.2.ownBlock ≠ some k) := hd2; have HB2 : Hid (Below w1.heap.size w1 w2) := hb2; have HCL : Hid (cont L0 = cont l) := hcL; have hz2 := hb2.size; have BR2 : Hid (Blk w2 (w.heap.size + 1) #[.int .i64 0, .int .i64 0, .int .i64 0, .int .i64 0, .int .i64 0, .slice none 0 0, .int .i64 0, .slice none 0 0, .slice none 0 0] 50) := BR1.out.below hb2 (by omega); have BX2 : Hid (Blk w2 w.heap.size #[.int .i64 n, .slice a l.length cap, .slice a2 ws.length cap2] 29) := BX1.out.below hb2 (by omega); clear hO2 hI2 hd2 hb2 hcL x0 x1 x2)
        | (go_at_call 58; clear hl1; refine (take_u w2.heap.size n g vc L0 ua ws.length uc pick kp _ w1.heap.size (Blk.new w2 _ _) (HO2.out.below ((Below.refl _ _).alloc (Nat.le_refl _) _)) ⟨HGL.out, HO2.out.lts.2⟩ (by have := HLL.out; omega) hx hX i (by have := HLL.out; omega) (by rw [HLL.out]; exact HMOD.out) pk (by rw [HCL.out]; exact HPK.out)).mono ?_; rintro e w4 ⟨a4, c4, L', rfl, hcL', hsub', hQ4, hR4, hS4, hT4⟩; rw [HCL.out, HPL.out] at hcL'; have hs4 : w2.heap.size + 1 ≤ w4.heap.size := (by have := hT4.size; simpa using this); have HCL' : Hid (cont L' = PL) := hcL'; have HSB : Hid (∀ p ∈ L', p ∈ L0) := hsub'; have HQ4 : Hid (Blk w4 w2.heap.size #[.int .i64 n, .slice (some ⟨g, 0, none⟩) L'.length vc, .slice ua ws.length uc] 29) := hQ4; have HR4 : Hid (PksR w1.heap.size w2.heap.size w4 (.slice (some ⟨g, 0, none⟩) L'.length vc) L') := hR4; have HS4 : Hid (Bs w4 (.slice a4 pk.bs.length c4) pk.bs) := hS4; have HT4 : Hid (Touched (fun k => k = w2.heap.size ∨ k = g) _ w4) := hT4; have BX4 : Hid (Blk w4 w.heap.size #[.int .i64 n, .slice a l.length cap, .slice a2 ws.length cap2] 29) := (BX2.out.alloc _).keep (hT4.block _ (by simp; omega) (by have := (World.ownsRow.lt HO2.out.row g rfl).1; omega)); have BR4 : Hid (Blk w4 (w.heap.size + 1) #[.int .i64 0, .int .i64 0, .int .i64 0, .int .i64 0, .int .i64 0, .slice none 0 0, .int .i64 0, .slice none 0 0, .slice none 0 0] 50) := (BR2.out.alloc _).keep (hT4.block _ (by simp; omega) (by have := (World.ownsRow.lt HO2.out.row g rfl).1; omega)); clear hcL' hsub' hQ4 hR4 hS4 hT4))
      obtain ⟨W5, hW5⟩ : ∃ W5, W5 = w4.alloc (.cells #[.int .i64 pk.id, .int .i64 pk.fr, .int .i64 pk.to, .slice a4 pk.bs.length c4] 48) := ⟨_, rfl⟩
      rw [← hW5]
      have BP5 : Blk W5 w4.heap.size #[.int .i64 pk.id, .int .i64 pk.fr, .int .i64 pk.to, .slice a4 pk.bs.length c4] 48 := by rw [hW5]; exact Blk.new _ _ _
      have BQ5 : Blk W5 w2.heap.size #[.int .i64 n, .slice (some ⟨g, 0, none⟩) L'.length vc, .slice ua ws.length uc] 29 := by rw [hW5]; exact HQ4.out.alloc _
      have BX5 : Hid (Blk W5 w.heap.size #[.int .i64 n, .slice a l.length cap, .slice a2 ws.length cap2] 29) := by show Blk _ _ _ _; rw [hW5]; exact BX4.out.alloc _
      have BR5 : Hid (Blk W5 (w.heap.size + 1) #[.int .i64 0, .int .i64 0, .int .i64 0, .int .i64 0, .int .i64 0, .slice none 0 0, .int .i64 0, .slice none 0 0, .slice none 0 0] 50) := by show Blk _ _ _ _; rw [hW5]; exact BR4.out.alloc _
      have HS5 : Hid (Bs W5 (.slice a4 pk.bs.length c4) pk.bs) := by show Bs _ _ _; rw [hW5]; exact HS4.out.below ((Below.refl _ _).alloc (Nat.le_refl _) _)
      have hz5 : W5.heap.size = w4.heap.size + 1 := by rw [hW5]; simp
      have HB5 : Hid (Below w4.heap.size w4 W5) := by show Below _ _ _; rw [hW5]; exact (Below.refl _ _).alloc (Nat.le_refl _) _
      clear hW5
      refine wp_named ?_
      intro a0 ha0
      have hsz0 : a0.tmps.size = 40 := by rw [ha0]; rfl
      have e7 : a0.eval (.tmp 7) = .pointer (some ⟨w2.heap.size, 0, none⟩) := by rw [ha0]; rfl
      have e8 : a0.eval (.tmp 8) = .pointer (some ⟨w4.heap.size, 0, none⟩) := by rw [ha0]; rfl
      have HA0 : Hid (a0 = _) := ha0
      clear ha0
      refine wp_region_inv (by kernel_rfl) (fun L aF w' => ∃ x : Nat → Value, aF = frame a0 [26, 27, 28, 29, 9] x ∧ Below W5.heap.size W5 w' ∧ (L.getD 0 false = true → x 26 = .agg #[.int .i64 pk.id, .int .i64 pk.fr, .int .i64 pk.to, .slice a4 pk.bs.length c4]) ∧ (L.getD 1 false = true → ∃ a7 c7, x 27 = .agg #[.int .i64 pk.id, .int .i64 pk.fr, .int .i64 pk.to, .slice a7 pk.bs.length c7] ∧ Own w' W5.heap.size (.slice a7 pk.bs.length c7) pk.bs) ∧ (L.getD 2 false = true → x 28 = .agg #[.int .i64 n, .slice (some ⟨g, 0, none⟩) L'.length vc, .slice ua ws.length uc]) ∧ (L.getD 3 false = true → ∃ a7 c7, x 29 = .agg #[.int .i64 0, .int .i64 0, .int .i64 pk.id, .int .i64 pk.fr, .int .i64 pk.to, .slice a7 pk.bs.length c7, .int .i64 n, .slice (some ⟨g, 0, none⟩) L'.length vc, .slice ua ws.length uc] ∧ Own w' W5.heap.size (.slice a7 pk.bs.length c7) pk.bs) ∧ (L.getD 4 false = true → ∃ p C, x 9 = .pointer (some ⟨p, 0, none⟩) ∧ W5.heap.size ≤ p ∧ Blk w' p C 50 ∧ C.size = 9 ∧ (L.getD 5 false = true → ∃ a7 c7, C = #[.int .i64 0, .int .i64 0, .int .i64 pk.id, .int .i64 pk.fr, .int .i64 pk.to, .slice a7 pk.bs.length c7, .int .i64 n, .slice (some ⟨g, 0, none⟩) L'.length vc, .slice ua ws.length uc] ∧ Own w' W5.heap.size (.slice a7 pk.bs.length c7) pk.bs)) ∧ (L.getD 5 false = true → L.getD 4 false = true)) ?_ ?_ ?_
      · exact ⟨_, frame_self a0 [26, 27, 28, 29, 9], (Below.refl _ _).drew, fun h => (noBit h).elim, fun h => (noBit h).elim, fun h => (noBit h).elim, fun h => (noBit h).elim, fun h => (noBit h).elim, fun h => (noBit h).elim⟩
      · rintro L a w' i hsL hi ⟨x, rfl, hB, h0, h1, h2, h3, h4, h5⟩
        have hiL : i < 6 := (ready_mem hsL hi).1
        have hL : L.size = 6 := hsL
        have hw' : W5.heap.size ≤ w'.heap.size := hB.size
        rcases (show i = 0 ∨ i = 1 ∨ i = 2 ∨ i = 3 ∨ i = 4 ∨ i = 5 by omega) with rfl | rfl | rfl | rfl | rfl | rfl
        · skip
          refine wpOp_plain rfl rfl (wp_load_blk 48 (.tmp 8) rfl (w4.heap.size) ((frame_eval _ _ _ 8 rfl).trans e8) (BP5.below hB BP5.lt) Try.underlying48 rfl infoPkS rfl ?_)
          exact ⟨_, frame_put _ _ _ 26 _ rfl, hB, fun h => upd_same _ _ _, fun h => by rw [upd_ne _ _ _ _ (by decide)]; exact (h1 (keepBit h (by omega) (by decide))), fun h => by rw [upd_ne _ _ _ _ (by decide)]; exact (h2 (keepBit h (by omega) (by decide))), fun h => by rw [upd_ne _ _ _ _ (by decide)]; exact (h3 (keepBit h (by omega) (by decide))), fun h => by obtain ⟨p, C, ep, hp, hP, hC, hR⟩ := h4 (keepBit h (by omega) (by decide)); exact ⟨p, C, (upd_ne _ _ _ _ (by decide)).trans ep, hp, hP, hC, fun hq6 => (hR (keepBit hq6 (by omega) (by decide)))⟩, fun h => setBit (h5 (keepBit h (by omega) (by decide))) (by omega)⟩
        · have d0 := h0 (ready_needs hi (by decide))
          have ev26 := (frame_eval_in a0 [26, 27, 28, 29, 9] x 26 rfl (by omega)).trans d0
          refine wpOp_plain rfl rfl (wp_call_go (N := 51) rfl (fun _ _ => by go_simp) #[.agg #[.int .i64 pk.id, .int .i64 pk.fr, .int .i64 pk.to, .slice a4 pk.bs.length c4]] (by simp only [List.map_toArray, List.map_cons, List.map_nil, ev26]) ?_)
          refine Calls.mono (copyPacket_any _ _ _ _ pk.bs _ (HS5.out.below hB) hpl) ?_
          rintro e w2 ⟨a7, c7, rfl, ho, hb⟩
          refine ⟨_, rfl, ?_⟩
          exact ⟨_, frame_put _ _ _ 27 _ rfl, hB.trans (hb.mono hw'), fun h => by rw [upd_ne _ _ _ _ (by decide)]; exact (h0 (keepBit h (by omega) (by decide))), fun h => ⟨a7, c7, upd_same _ _ _, ho.le hw'⟩, fun h => by rw [upd_ne _ _ _ _ (by decide)]; exact (h2 (keepBit h (by omega) (by decide))), fun h => by rw [upd_ne _ _ _ _ (by decide)]; exact (by obtain ⟨a7, c7, ey, ho⟩ := (h3 (keepBit h (by omega) (by decide))); exact ⟨a7, c7, ey, ho.below hb⟩), fun h => by obtain ⟨p, C, ep, hp, hP, hC, hR⟩ := h4 (keepBit h (by omega) (by decide)); exact ⟨p, C, (upd_ne _ _ _ _ (by decide)).trans ep, hp, hP.below hb hP.lt, hC, fun hq6 => (by obtain ⟨a7, c7, ey, ho⟩ := (hR (keepBit hq6 (by omega) (by decide))); exact ⟨a7, c7, ey, ho.below hb⟩)⟩, fun h => setBit (h5 (keepBit h (by omega) (by decide))) (by omega)⟩
        · skip
          refine wpOp_plain rfl rfl (wp_load_blk 29 (.tmp 7) rfl (w2.heap.size) ((frame_eval _ _ _ 7 rfl).trans e7) (BQ5.below hB BQ5.lt) Try.underlying29 rfl infoBagS rfl ?_)
          exact ⟨_, frame_put _ _ _ 28 _ rfl, hB, fun h => by rw [upd_ne _ _ _ _ (by decide)]; exact (h0 (keepBit h (by omega) (by decide))), fun h => by rw [upd_ne _ _ _ _ (by decide)]; exact (h1 (keepBit h (by omega) (by decide))), fun h => upd_same _ _ _, fun h => by rw [upd_ne _ _ _ _ (by decide)]; exact (h3 (keepBit h (by omega) (by decide))), fun h => by obtain ⟨p, C, ep, hp, hP, hC, hR⟩ := h4 (keepBit h (by omega) (by decide)); exact ⟨p, C, (upd_ne _ _ _ _ (by decide)).trans ep, hp, hP, hC, fun hq6 => (hR (keepBit hq6 (by omega) (by decide)))⟩, fun h => setBit (h5 (keepBit h (by omega) (by decide))) (by omega)⟩
        · have d1 := h1 (ready_needs hi (by decide))
          have d2 := h2 (ready_needs hi (by decide))
          obtain ⟨a7, c7, ey, ho7⟩ := d1
          have ev27 : (frame a0 [26, 27, 28, 29, 9] x).tmps[27]?.getD undef = .agg #[.int .i64 pk.id, .int .i64 pk.fr, .int .i64 pk.to, .slice a7 pk.bs.length c7] := by have h := (frame_eval_in a0 [26, 27, 28, 29, 9] x 27 rfl (by omega)).trans ey; simpa [Act.eval] using h
          have ev28 : (frame a0 [26, 27, 28, 29, 9] x).tmps[28]?.getD undef = .agg #[.int .i64 n, .slice (some ⟨g, 0, none⟩) L'.length vc, .slice ua ws.length uc] := by have h := (frame_eval_in a0 [26, 27, 28, 29, 9] x 28 rfl (by omega)).trans d2; simpa [Act.eval] using h
          refine wpOp_plain rfl rfl (wp_value_go (v := .agg #[.int .i64 0, .int .i64 0, .int .i64 pk.id, .int .i64 pk.fr, .int .i64 pk.to, .slice a7 pk.bs.length c7, .int .i64 n, .slice (some ⟨g, 0, none⟩) L'.length vc, .slice ua ws.length uc]) ?_ ?_)
          · obtain ⟨aa, haa⟩ : ∃ aa, aa = frame a0 [26, 27, 28, 29, 9] x := ⟨_, rfl⟩
            rw [← haa] at ev27 ev28 ⊢
            clear haa HA0
            go_simp
          exact ⟨_, frame_put _ _ _ 29 _ rfl, hB, fun h => by rw [upd_ne _ _ _ _ (by decide)]; exact (h0 (keepBit h (by omega) (by decide))), fun h => by rw [upd_ne _ _ _ _ (by decide)]; exact (h1 (keepBit h (by omega) (by decide))), fun h => by rw [upd_ne _ _ _ _ (by decide)]; exact (h2 (keepBit h (by omega) (by decide))), fun h => ⟨a7, c7, upd_same _ _ _, ho7⟩, fun h => by obtain ⟨p, C, ep, hp, hP, hC, hR⟩ := h4 (keepBit h (by omega) (by decide)); exact ⟨p, C, (upd_ne _ _ _ _ (by decide)).trans ep, hp, hP, hC, fun hq6 => (hR (keepBit hq6 (by omega) (by decide)))⟩, fun h => setBit (h5 (keepBit h (by omega) (by decide))) (by omega)⟩
        · skip
          refine wpOp_plain rfl rfl (wp_alloc_go 50 #[.int .i64 0, .int .i64 0, .int .i64 0, .int .i64 0, .int .i64 0, .slice none 0 0, .int .i64 0, .slice none 0 0, .slice none 0 0] rfl (fun _ => by go_simp) ?_)
          have hb : Below w'.heap.size w' (w'.alloc (.cells #[.int .i64 0, .int .i64 0, .int .i64 0, .int .i64 0, .int .i64 0, .slice none 0 0, .int .i64 0, .slice none 0 0, .slice none 0 0] 50)) := (Below.refl _ _).alloc (Nat.le_refl _) _
          exact ⟨_, frame_put _ _ _ 9 _ rfl, hB.alloc hw' _, fun h => by rw [upd_ne _ _ _ _ (by decide)]; exact (h0 (keepBit h (by omega) (by decide))), fun h => by rw [upd_ne _ _ _ _ (by decide)]; exact (by obtain ⟨a7, c7, ey, ho⟩ := (h1 (keepBit h (by omega) (by decide))); exact ⟨a7, c7, ey, ho.below hb⟩), fun h => by rw [upd_ne _ _ _ _ (by decide)]; exact (h2 (keepBit h (by omega) (by decide))), fun h => by rw [upd_ne _ _ _ _ (by decide)]; exact (by obtain ⟨a7, c7, ey, ho⟩ := (h3 (keepBit h (by omega) (by decide))); exact ⟨a7, c7, ey, ho.below hb⟩), fun h => ⟨_, _, upd_same _ _ _, hw', Blk.new _ _ _, rfl, fun hq6 => (readyBit hsL hi (h5 (keepBit hq6 (by omega) (by decide)))).elim⟩, fun h => setSelf (by omega)⟩
        · have d3 := h3 (ready_needs hi (by decide))
          have d4 := h4 (ready_needs hi (by decide))
          obtain ⟨p, C, ep, hp, hP, hC, hR⟩ := d4
          obtain ⟨a7, c7, ey, ho7⟩ := d3
          have evp := (frame_eval_in a0 [26, 27, 28, 29, 9] x 9 rfl (by omega)).trans ep
          have evs := (frame_eval_in a0 [26, 27, 28, 29, 9] x 29 rfl (by omega)).trans ey
          refine wpOp_plain rfl rfl (wp_store_blk 50 (.tmp 9) (.tmp 29) rfl p evp evs hP infoTk rfl hC (by simp [Value.oneCell']) ?_)
          exact ⟨_, rfl, below_row hB hp _, fun h => (h0 (keepBit h (by omega) (by decide))), fun h => (by obtain ⟨a7, c7, ey, ho⟩ := (h1 (keepBit h (by omega) (by decide))); exact ⟨a7, c7, ey, ho.block fun k hk => setRow_other _ _ _ _ (ho.ne_blk hP (by decide) k hk)⟩), fun h => (h2 (keepBit h (by omega) (by decide))), fun h => (by obtain ⟨a7, c7, ey, ho⟩ := (h3 (keepBit h (by omega) (by decide))); exact ⟨a7, c7, ey, ho.block fun k hk => setRow_other _ _ _ _ (ho.ne_blk hP (by decide) k hk)⟩), fun h => ⟨p, _, ep, hp, hP.row _, rfl, fun _ => ⟨a7, c7, rfl, ho7.block fun k hk => setRow_other _ _ _ _ (ho7.ne_blk hP (by decide) k hk)⟩⟩, fun h => setBit (ready_needs hi (by decide)) (by omega)⟩
      · rintro L a w' hsL hr ⟨x, rfl, hB, h0, h1, h2, h3, h4, h5⟩
        have hall := ready_nil hsL hr (by decide)
        replace h0 := h0 (hall 0 (by decide))
        replace h1 := h1 (hall 1 (by decide))
        replace h2 := h2 (hall 2 (by decide))
        replace h3 := h3 (hall 3 (by decide))
        replace h4 := h4 (hall 4 (by decide))
        replace h5 := h5 (hall 5 (by decide))
        obtain ⟨p, C, ep, hp, hP, hC, hR⟩ := h4
        replace hR := hR (hall 5 (by decide))
        rw [HA0.out]
        simp only [frame, List.zipIdx_cons, List.zipIdx_nil, List.map_cons, List.map_nil, List.contains_cons, List.contains_nil, Nat.reduceBEq, Nat.reduceAdd, Bool.or_false, Bool.false_or, Bool.or_true, Bool.true_or, Bool.false_eq_true, if_false, if_true, h0, h2, ep]
        obtain ⟨a7, c7, rfl, ho7⟩ := hR
        have HO7 : Hid (Own w' W5.heap.size (.slice a7 pk.bs.length c7) pk.bs) := ho7
        have HPP : Hid (Blk w' p #[.int .i64 0, .int .i64 0, .int .i64 pk.id, .int .i64 pk.fr, .int .i64 pk.to, .slice a7 pk.bs.length c7, .int .i64 n, .slice (some ⟨g, 0, none⟩) L'.length vc, .slice ua ws.length uc] 50) := hP
        have HBX : Hid (Blk w' w.heap.size #[.int .i64 n, .slice a l.length cap, .slice a2 ws.length cap2] 29) := BX5.out.below hB BX5.out.lt
        have HBR : Hid (Blk w' (w.heap.size + 1) #[.int .i64 0, .int .i64 0, .int .i64 0, .int .i64 0, .int .i64 0, .slice none 0 0, .int .i64 0, .slice none 0 0, .slice none 0 0] 50) := BR5.out.below hB BR5.out.lt
        have HBP : Hid (Blk w' w4.heap.size #[.int .i64 pk.id, .int .i64 pk.fr, .int .i64 pk.to, .slice a4 pk.bs.length c4] 48) := BP5.below hB BP5.lt
        have HBB : Hid (Below W5.heap.size W5 w') := hB
        have hz7 := hB.size
        have HBW : Hid (Below w.heap.size w w') := by
          have h45 : Below w.heap.size w4 w' := (HB5.out.mono (by omega)).trans (hB.mono (by omega))
          have h24 : Below w.heap.size (w2.alloc (.cells #[.int .i64 n, Value.slice (some ⟨g, 0, none⟩) L0.length vc, .slice ua ws.length uc] 29)) w4 := ⟨HT4.out.os, HT4.out.tape, HT4.out.output, HT4.out.size, fun k hk => HT4.out.block k (by simp; omega) (by have := (World.ownsRow.lt HO2.out.row g rfl).1; omega)⟩
          exact (((HB1.out.trans (HB2.out.mono (by omega))).alloc (by omega) _).trans h24).trans h45
        have HBG : Hid (BagR w1.heap.size w2.heap.size w' (.slice (some ⟨g, 0, none⟩) L'.length vc) (.slice ua ws.length uc) L' ws) := by
          have h4 : BagR w1.heap.size w2.heap.size w4 (.slice (some ⟨g, 0, none⟩) L'.length vc) (.slice ua ws.length uc) L' ws := ⟨HR4.out, (HI2.out.r (by unfold maxLen; omega)).block' fun k e => by
            have hk := World.ownsRow.lt HI2.out k e
            have hd := (HD2.out k e).1
            rw [HT4.out.block k (by simp; omega) (by rintro (h | h); omega; exact hd (by rw [h]; rfl)), Below.heap_alloc w2 _ k hk.2], fun _ k e hk => by
            rcases hk with ⟨_, e'⟩ | ⟨p, hp, e'⟩
            · exact (HD2.out k e).1 e'
            · exact (HD2.out k e).2 p (HSB.out p hp) e'⟩
          exact h4.keep fun k h1 h2 => by rw [hB.block k (by omega), HB5.out.block k (by omega)]
        have HYN : Hid (BytesN W5.heap.size w'.heap.size w' (.slice a7 pk.bs.length c7) pk.bs) := ⟨ho7, fun k e => ho7.2.lt k e⟩
        have x2 : w'.cell? ⟨w.heap.size, 2, none⟩ = some (.slice a2 ws.length cap2) := HBX.out.cell 2
        have y1 : w'.cell? ⟨w4.heap.size, 1, none⟩ = some (.int .i64 pk.fr) := HBP.out.cell 1
        have y2 : w'.cell? ⟨w4.heap.size, 2, none⟩ = some (.int .i64 pk.to) := HBP.out.cell 2
        have hpw := hP.lt
        clear ho7 hP hC h0 h1 h2 h3 h5 hall hr hsL HA0 hsz0 e7 e8 hB BP5 BQ5 ep
        go_wp2_with (fail)
        go_region_held3 (fun u => u.cell? ⟨w.heap.size, 2, none⟩ = some (.slice a2 ws.length cap2) ∧ u.cell? ⟨w4.heap.size, 1, none⟩ = some (.int .i64 pk.fr) ∧ u.cell? ⟨w4.heap.size, 2, none⟩ = some (.int .i64 pk.to)) (simp [*, go_sem])
          (first
            | (go_at_call 59; refine (HU.out _ (HBW.out.drew)).mono ?_; rintro r w8 ⟨rfl, hs8, hb8⟩; have hz8 : w'.heap.size ≤ w8.heap.size := (by have := hb8.size; simpa using this); have ax2 : w8.cell? ⟨w.heap.size, 2, none⟩ = some (.slice a2 ws.length cap2) := (hb8.cell (p := ⟨w.heap.size, 2, none⟩) (by simp <;> omega)).trans (by simp [go_sem, *]); have ay1 : w8.cell? ⟨w4.heap.size, 1, none⟩ = some (.int .i64 pk.fr) := (hb8.cell (p := ⟨w4.heap.size, 1, none⟩) (by simp <;> omega)).trans (by simp [go_sem, *]); have ay2 : w8.cell? ⟨w4.heap.size, 2, none⟩ = some (.int .i64 pk.to) := (hb8.cell (p := ⟨w4.heap.size, 2, none⟩) (by simp <;> omega)).trans (by simp [go_sem, *]); have HS8 : Hid (SetAt w8 _ ws) := hs8; have HB8 : Hid (Below w'.heap.size w' w8) := (Below.refl _ _).drew.trans hb8; clear hs8 hb8)
            | (go_at_call 60; refine (HL.out _ _ HS8.out).mono ?_; rintro r w9 ⟨rfl, hb9⟩; have hz9 := hb9.size; have bx2 : w9.cell? ⟨w.heap.size, 2, none⟩ = some (.slice a2 ws.length cap2) := (hb9.cell (p := ⟨w.heap.size, 2, none⟩) (by simp <;> omega)).trans (by simp [go_sem, *]); have by1 : w9.cell? ⟨w4.heap.size, 1, none⟩ = some (.int .i64 pk.fr) := (hb9.cell (p := ⟨w4.heap.size, 1, none⟩) (by simp <;> omega)).trans (by simp [go_sem, *]); have by2 : w9.cell? ⟨w4.heap.size, 2, none⟩ = some (.int .i64 pk.to) := (hb9.cell (p := ⟨w4.heap.size, 2, none⟩) (by simp <;> omega)).trans (by simp [go_sem, *]); have HB9 : Hid (Below w'.heap.size w' w9) := HB8.out.trans (hb9.mono (by omega)); clear hb9))
        all_goals
          have HPP9 : Hid (Blk w9 p #[.int .i64 0, .int .i64 0, .int .i64 pk.id, .int .i64 pk.fr, .int .i64 pk.to, .slice a7 pk.bs.length c7, .int .i64 n, .slice (some ⟨g, 0, none⟩) L'.length vc, .slice ua ws.length uc] 50) := HPP.out.below HB9.out hpw
        all_goals
          have HBR9 : Hid (Blk w9 (w.heap.size + 1) #[.int .i64 0, .int .i64 0, .int .i64 0, .int .i64 0, .int .i64 0, .slice none 0 0, .int .i64 0, .slice none 0 0, .slice none 0 0] 50) := HBR.out.below HB9.out (by omega)

        all_goals
          have cp1 : w9.cell? ⟨p, 1, none⟩ = some (.int .i64 0) := HPP9.out.cell 1
        all_goals
          have fp := HPP9.out.free
        all_goals go_wp2_with (first
          | (have hBA := HPP9; refine gate_ld 50 (.tmp 9) rfl ?_; clear hBA; have BL : Blk (w9.setCell ⟨p, 1, none⟩ (.int .i64 1)) p #[.int .i64 0, .int .i64 1, .int .i64 pk.id, .int .i64 pk.fr, .int .i64 pk.to, .slice a7 pk.bs.length c7, .int .i64 n, .slice (some ⟨g, 0, none⟩) L'.length vc, .slice ua ws.length uc] 50 := (by simpa using HPP9.out.set 1 (.int .i64 1)); refine wpl_load_blk rfl 50 (.tmp 9) rfl p rfl BL Try.underlying50 rfl infoTk rfl ?_; clear BL)
          | (have hBA := HBR9; refine gate_st 50 (.tmp 6) _ rfl ?_; clear hBA; have BS : Blk (w9.setCell ⟨p, 1, none⟩ (.int .i64 1)) (w.heap.size + 1) #[.int .i64 0, .int .i64 0, .int .i64 0, .int .i64 0, .int .i64 0, .slice none 0 0, .int .i64 0, .slice none 0 0, .slice none 0 0] 50 := (HBR9.out.set_other _ (by simp only []; omega)); refine wpl_store_blk rfl 50 (.tmp 6) _ rfl (w.heap.size + 1) rfl rfl BS infoTk rfl rfl (by simp [Value.oneCell']) ?_))
        all_goals
          refine bodyPost_ret (results_blk Try.results23 rfl (BS.row _) Try.underlying50 rfl infoTk rfl) rfl ⟨a7, c7, some ⟨g, 0, none⟩, vc, ua, uc, L', rfl, HCL'.out, ⟨w1.heap.size, w2.heap.size, W5.heap.size, w'.heap.size, by omega, hz2, ?_, by omega, ?_, .inl (by omega), ?_, ?_⟩, ?_⟩
        all_goals first
          | (simp [World.setRow, World.setCell]; have := HB9.out.size; omega)
          | exact HBG.out.keep fun k h1 h2 => by rw [setRow_other _ _ _ _ (by omega), Below.heap_setCell _ _ _ _ (by simp only []; omega), HB9.out.block k (by omega)]
          | exact ⟨HYN.out.own.block fun k e => by have h3 := HYN.out.lt k e; have h4 := HYN.out.own.ne_blk HPP.out (by decide) k e; rw [setRow_other _ _ _ _ (by omega), Below.heap_setCell _ _ _ _ (by simp only []; omega), HB9.out.block k (by omega)], HYN.out.lt⟩
          | exact below_row ((HBW.out.trans (HB9.out.mono (by omega))).setCell (by show w.heap.size ≤ p; omega) _) (by omega) _
end Go.Proofs.Ythondmpnleleiaa
