import Derived.Test.YtfcmffdljfljkaaGround
import Derived.Shelf.SlIterI.Nil
import Derived.Shelf.SortM.Plain
import Derived.Shelf.SortM.SortNone
import Derived.Ground.GgzProg
import Derived.Ground.SlgmProg
import Derived.Maps.OwnSet
/-
  impl.BagPut.
-/
namespace Go.Proofs.Ytfcmffdljfljkaa
open Go.RowKit Go.Maps
set_option linter.unusedVariables false
set_option linter.unusedSimpArgs false

/-- what a put answers: code, number, the bag's next, its packets, its walls -/
def putAns (n : Int) (l : List Pkt) (ws : List Int) (f t : Int) (bs : List Int) : Int × Int × Int × List Pkt × List Int :=
  if bagB n l ws = false then (1, 0, 0, [], []) else if putC n l.length ws f t bs.length = 0 then (0, n, n + 1, l ++ [⟨n, f, t, bs⟩], ws) else (putC n l.length ws f t bs.length, 0, n, l, ws)
def PutAt (w w' : World) (e : Ending) (x : Int × Int × Int × List Pkt × List Int) : Prop :=
  ∃ va vc ua uc L, e = .returned (.agg #[.int .i64 x.1, .int .i64 x.2.1, .int .i64 x.2.2.1, .slice va L.length vc, .slice ua x.2.2.2.2.length uc]) ∧ cont L = x.2.2.2.1 ∧ BagR w.heap.size w'.heap.size w' (.slice va L.length vc) (.slice ua x.2.2.2.2.length uc) L x.2.2.2.2 ∧ Below w.heap.size w w'
theorem riseB_in {most last : Int} {l : List Int} (h : riseB most last l = true) (h0 : 0 ≤ last) : ∀ y ∈ l, 0 ≤ y ∧ y ≤ most := by
  induction l generalizing last with
  | nil => intro y hy; cases hy
  | cons x l ih =>
    rw [riseB, Bool.and_eq_true] at h
    have hx := (inB_iff _ _ _).1 h.1
    intro y hy
    rcases List.mem_cons.1 hy with rfl | hy
    · omega
    · exact ih h.2 (by omega) y hy
theorem bagB_facts {n : Int} {l : List Pkt} {ws : List Int} (h : bagB n l ws = true) : (1 ≤ n ∧ n ≤ 1099511627776) ∧ l.length ≤ 4096 ∧ ∀ y ∈ ws, 0 ≤ y ∧ y ≤ 1000 := by
  simp only [bagB, Bool.and_eq_true, decide_eq_true_eq] at h
  refine ⟨(inB_iff _ _ _).1 h.1.1, h.1.2.1, fun y hy => ?_⟩
  have := riseB_in h.2 (by omega) y hy
  omega
set_option maxHeartbeats 8000000 in
set_option maxRecDepth 100000 in
theorem bagPut_any (n : Int) (a : Option Addr) (cap : Nat) (a2 : Option Addr) (cap2 : Nat) (l : List Pk) (ws : List Int) (f t : Int) (a3 : Option Addr) (cap3 : Nat) (bs : List Int) (w : World) (hv : Pks w (.slice a l.length cap) l) (hu : Ix w (.slice a2 ws.length cap2) ws) (hb : Bs w (.slice a3 bs.length cap3) bs) (hl : l.length + bulk (cont l) ≤ 1048576) (hw : ws.length ≤ 1048576) (hbl : bs.length ≤ 1048576) :
    Calls Try.prog 17 #[.agg #[.int .i64 n, .slice a l.length cap, .slice a2 ws.length cap2], .int .i64 f, .int .i64 t, .slice a3 bs.length cap3] w fun e w' => PutAt w w' e (putAns n (cont l) ws f t bs) := by
  have HF : Hid (∀ w', Below w.heap.size w w' → Calls Try.prog 46 #[.agg #[.int .i64 n, .slice a l.length cap, .slice a2 ws.length cap2]] w' fun e w'' => e = .returned (.bool (bagB n (cont l) ws)) ∧ Below w'.heap.size w' w'') := fun w' h => bagFits_any n _ _ l ws w' (hv.below h) (hu.below h)
  have hb0 : Hid (Below w.heap.size w ((w.alloc (.cells #[.int .i64 n, .slice a l.length cap, .slice a2 ws.length cap2] 29)).alloc (.cells #[.int .i64 0, .int .i64 0, .int .i64 0, .slice none 0 0, .slice none 0 0] 37))) := ((Below.refl _ _).alloc (Nat.le_refl _) _).alloc (by simp) _
  cases hbag : bagB n (cont l) ws
  · rw [hbag] at HF
    rw [show putAns n (cont l) ws f t bs = (1, 0, 0, [], []) by simp [putAns, hbag]]
    go_enter Try.func17, Try.ntmps17
    go_wp2_with (go_at_call 46; refine (HF.out _ hb0.out).mono ?_; rintro e w1 ⟨rfl, hb1⟩; have HB1 : Hid (Below w.heap.size w w1) := hb0.out.trans (hb1.mono (by simp; omega)); have BX1 : Hid (Blk w1 w.heap.size #[.int .i64 n, .slice a l.length cap, .slice a2 ws.length cap2] 29) := ((Blk.new w _ _).alloc _).below hb1 (by simp; omega); have BR1 : Hid (Blk w1 (w.heap.size + 1) #[.int .i64 0, .int .i64 0, .int .i64 0, .slice none 0 0, .slice none 0 0] 37) := (Blk.new' (w.alloc _) _ _ (by simp)).below hb1 (by simp); have hz1 : w.heap.size + 2 ≤ w1.heap.size := (by have := hb1.size; simp at this; omega); have x0 : w1.cell? ⟨w.heap.size, 0, none⟩ = some (.int .i64 n) := BX1.out.cell 0; have x1 : w1.cell? ⟨w.heap.size, 1, none⟩ = some (.slice a l.length cap) := BX1.out.cell 1; have x2 : w1.cell? ⟨w.heap.size, 2, none⟩ = some (.slice a2 ws.length cap2) := BX1.out.cell 2; have r0 : w1.cell? ⟨w.heap.size + 1, 0, none⟩ = some (.int .i64 0) := BR1.out.cell 0; have r1 : w1.cell? ⟨w.heap.size + 1, 1, none⟩ = some (.int .i64 0) := BR1.out.cell 1; have r2 : w1.cell? ⟨w.heap.size + 1, 2, none⟩ = some (.int .i64 0) := BR1.out.cell 2; have r3 : w1.cell? ⟨w.heap.size + 1, 3, none⟩ = some (.slice none 0 0) := BR1.out.cell 3; have r4 : w1.cell? ⟨w.heap.size + 1, 4, none⟩ = some (.slice none 0 0) := BR1.out.cell 4; have fr1 := BR1.out.free; clear hb1)
    refine bodyPost_ret (v := .agg #[.int .i64 1, .int .i64 0, .int .i64 0, .slice none 0 0, .slice none 0 0]) (by simp [results, Try.results17, go_sem, *]) rfl ⟨none, 0, none, 0, [], rfl, rfl, BagR.nil _ _ _, ?_⟩
    exact ((((HB1.out.setCell (Nat.le_succ _) _).setCell (Nat.le_succ _) _).setCell (Nat.le_succ _) _).setCell (Nat.le_succ _) _).setCell (Nat.le_succ _) _
  rw [hbag] at HF
  obtain ⟨hn, hl4, hrng⟩ := bagB_facts hbag
  have HR : Hid (∀ y ∈ ws, 0 ≤ y ∧ y ≤ 1000) := hrng
  have HCB : Hid (∀ w', Below w.heap.size w w' → Calls Try.prog 47 #[.agg #[.int .i64 n, .slice a l.length cap, .slice a2 ws.length cap2]] w' fun e w'' => ∃ v u L, e = .returned (.agg #[.int .i64 n, v, u]) ∧ cont L = cont l ∧ OwnP w'' w'.heap.size v L ∧ OwnI w'' w'.heap.size u ws ∧ (∀ k, u.ownBlock = some k → v.ownBlock ≠ some k ∧ ∀ p ∈ L, p.2.ownBlock ≠ some k) ∧ Below w'.heap.size w' w'') := fun w' h => copyBag_any n a cap a2 cap2 l ws w' (hv.below h) (hu.below h) (by omega) (fun p hp => by have := bulk_mem (List.mem_map_of_mem (f := Prod.fst) hp); unfold cont at hl; omega) hw
  have HCP : Hid (∀ w', Below w.heap.size w w' → Calls Try.prog 59 #[.agg #[.int .i64 0, .int .i64 f, .int .i64 t, .slice a3 bs.length cap3]] w' fun e w'' => ∃ a' cap', e = .returned (.agg #[.int .i64 0, .int .i64 f, .int .i64 t, .slice a' bs.length cap']) ∧ Own w'' w'.heap.size (.slice a' bs.length cap') bs ∧ Below w'.heap.size w' w'') := fun w' h => copyPacket_any 0 f t _ bs w' (hb.below h) hbl
  rw [cont_len] at hl4
  clear hv hu hb hrng
  by_cases hc : putC n l.length ws f t bs.length = 0
  · have HC : Hid (putC n l.length ws f t bs.length = 0) := hc
    rw [show putAns n (cont l) ws f t bs = (0, n, n + 1, cont l ++ [⟨n, f, t, bs⟩], ws) by simp [putAns, hbag, cont_len, hc]]
    clear hc hbag
    go_enter Try.func17, Try.ntmps17
    go_wp2_with (first
      | (go_at_call 46; refine (HF.out _ hb0.out).mono ?_; rintro e w1 ⟨rfl, hb1⟩; have HB1 : Hid (Below w.heap.size w w1) := hb0.out.trans (hb1.mono (by simp; omega)); have BX1 : Hid (Blk w1 w.heap.size #[.int .i64 n, .slice a l.length cap, .slice a2 ws.length cap2] 29) := ((Blk.new w _ _).alloc _).below hb1 (by simp; omega); have BR1 : Hid (Blk w1 (w.heap.size + 1) #[.int .i64 0, .int .i64 0, .int .i64 0, .slice none 0 0, .slice none 0 0] 37) := (Blk.new' (w.alloc _) _ _ (by simp)).below hb1 (by simp); have hz1 : w.heap.size + 2 ≤ w1.heap.size := (by have := hb1.size; simp at this; omega); have x0 : w1.cell? ⟨w.heap.size, 0, none⟩ = some (.int .i64 n) := BX1.out.cell 0; have x1 : w1.cell? ⟨w.heap.size, 1, none⟩ = some (.slice a l.length cap) := BX1.out.cell 1; have x2 : w1.cell? ⟨w.heap.size, 2, none⟩ = some (.slice a2 ws.length cap2) := BX1.out.cell 2; have r0 : w1.cell? ⟨w.heap.size + 1, 0, none⟩ = some (.int .i64 0) := BR1.out.cell 0; have r1 : w1.cell? ⟨w.heap.size + 1, 1, none⟩ = some (.int .i64 0) := BR1.out.cell 1; have r2 : w1.cell? ⟨w.heap.size + 1, 2, none⟩ = some (.int .i64 0) := BR1.out.cell 2; have r3 : w1.cell? ⟨w.heap.size + 1, 3, none⟩ = some (.slice none 0 0) := BR1.out.cell 3; have r4 : w1.cell? ⟨w.heap.size + 1, 4, none⟩ = some (.slice none 0 0) := BR1.out.cell 4; have fr1 := BR1.out.free; clear hb1)
      | (go_at_call 47; refine (HCB.out _ HB1.out).mono ?_; rintro e w2 ⟨v, u, L0, rfl, hcL, hO2, hI2, hd2, hb2⟩; obtain ⟨va, vc, rfl⟩ := hO2.shape; obtain ⟨ua, uc, rfl⟩ := hI2.shape; have HO2 : Hid (OwnP w2 w1.heap.size (.slice va L0.length vc) L0) := hO2; have HI2 : Hid (OwnI w2 w1.heap.size (.slice ua ws.length uc) ws) := hI2; have HD2 : Hid (∀ k, (Value.slice ua ws.length uc).ownBlock = some k → (Value.slice va L0.length vc).ownBlock ≠ some k ∧ ∀ p ∈ L0, p.2.ownBlock ≠ some k) := hd2; have HB2 : Hid (Below w1.heap.size w1 w2) := hb2; have HCL : Hid (cont L0 = cont l) := hcL; have hz2 := hb2.size; have hll : L0.length = l.length := (by rw [← cont_len L0, hcL, cont_len]); have HLL : Hid (L0.length = l.length) := hll; clear hO2 hI2 hd2 hb2 hcL hll x0 x1 x2 r0 r1 r2 r3 r4 fr1)
      | (go_at_call 59; refine (HCP.out _ ((HB1.out.trans (HB2.out.mono (by omega))).alloc (by omega) _)).mono ?_; rintro e w4 ⟨a7, cap7, rfl, ho4, hb4⟩; have HO4 : Hid (Own w4 _ (.slice a7 bs.length cap7) bs) := ho4; have HB4 : Hid (Below _ _ w4) := hb4; have hz4 : w2.heap.size + 1 ≤ w4.heap.size := (by have := hb4.size; simpa using this); clear ho4 hb4)
      | (go_at_call 58; refine (putPacket_any w2.heap.size n va vc L0 ua uc ws 0 f t a7 cap7 bs w4 w1.heap.size (w2.heap.size + 1) ((Blk.new w2 _ _).below HB4.out (by simp)) ((HO2.out.below ((Below.refl _ _).alloc (Nat.le_refl _) _)).below HB4.out) (fun e => by have := HO2.out.lts.1 _ e; omega) (fun p' hp' e => by have := HO2.out.lts.2 p' hp' _ e; omega) (by omega) (by omega) ((HI2.out.r (by unfold maxLen; omega)).ix.below (((Below.refl _ _).alloc (Nat.le_refl _) _).trans (HB4.out.mono (by simp)))) HR.out hw (HO4.out.le (by simp)) (by omega) ⟨fun k e => by have := HO2.out.lts.1 k e; omega, fun p' hp' k e => by have := HO2.out.lts.2 p' hp' k e; omega⟩ hbl hn.1 hn.2 (by have := HLL.out; omega)).mono ?_; rintro e w5 ⟨rfl, _, h5⟩; rw [HLL.out] at h5 ⊢; rw [HC.out]; obtain ⟨va', vc', hQ5, hO5, hA5, hT5⟩ := h5 HC.out; have HA5 : Hid (_ ∨ _) := hA5; have HQ5 : Hid (Blk w5 w2.heap.size #[.int .i64 (n + 1), .slice va' (l.length + 1) vc', .slice ua ws.length uc] 29) := hQ5; have HO5 : Hid (OwnP w5 w1.heap.size (.slice va' (l.length + 1) vc') (L0 ++ [((⟨n, f, t, bs⟩ : Pkt), Value.slice a7 bs.length cap7)])) := hO5; have HT5 : Hid (Touched _ w4 w5) := hT5; have BR5 : Hid (Blk w5 (w.heap.size + 1) #[.int .i64 0, .int .i64 0, .int .i64 0, .slice none 0 0, .slice none 0 0] 37) := (((BR1.out.below HB2.out (by omega)).alloc _).below HB4.out (by simp; omega)).keep (hT5.block _ (by omega) (by rintro (e | e); omega; rw [← HLL.out] at e; have := (World.ownsRow.lt HO2.out.row _ e).1; omega)); have BX5 : Hid (Blk w5 w.heap.size #[.int .i64 n, .slice a l.length cap, .slice a2 ws.length cap2] 29) := (((BX1.out.below HB2.out (by omega)).alloc _).below HB4.out (by simp; omega)).keep (hT5.block _ (by omega) (by rintro (e | e); omega; rw [← HLL.out] at e; have := (World.ownsRow.lt HO2.out.row _ e).1; omega)); have hz5 := hT5.size; have o0 : w5.cell? ⟨w2.heap.size, 0, none⟩ = some (.int .i64 (n + 1)) := hQ5.cell 0; have o1 : w5.cell? ⟨w2.heap.size, 1, none⟩ = some (.slice va' (l.length + 1) vc') := hQ5.cell 1; have o2 : w5.cell? ⟨w2.heap.size, 2, none⟩ = some (.slice ua ws.length uc) := hQ5.cell 2; have xx : w5.cell? ⟨w.heap.size, 0, none⟩ = some (.int .i64 n) := BX5.out.cell 0; have r0 : w5.cell? ⟨w.heap.size + 1, 0, none⟩ = some (.int .i64 0) := BR5.out.cell 0; have r1 : w5.cell? ⟨w.heap.size + 1, 1, none⟩ = some (.int .i64 0) := BR5.out.cell 1; have r2 : w5.cell? ⟨w.heap.size + 1, 2, none⟩ = some (.int .i64 0) := BR5.out.cell 2; have r3 : w5.cell? ⟨w.heap.size + 1, 3, none⟩ = some (.slice none 0 0) := BR5.out.cell 3; have r4 : w5.cell? ⟨w.heap.size + 1, 4, none⟩ = some (.slice none 0 0) := BR5.out.cell 4; have fr := BR5.out.free; clear h5 hQ5 hO5 hT5 hA5))
    refine bodyPost_ret (v := .agg #[.int .i64 0, .int .i64 n, .int .i64 (n + 1), .slice va' (l.length + 1) vc', .slice ua ws.length uc]) (by simp [results, Try.results17, go_sem, *]) rfl ⟨va', vc', ua, uc, L0 ++ [((⟨n, f, t, bs⟩ : Pkt), Value.slice a7 bs.length cap7)], by simp [HLL.out], by rw [← HCL.out]; simp [cont], ?_, ?_⟩
    · have hlen : (L0 ++ [((⟨n, f, t, bs⟩ : Pkt), Value.slice a7 bs.length cap7)]).length = l.length + 1 := by simp [HLL.out]
      have k5 : ∀ k, k ≠ w.heap.size + 1 → (((((w5.setCell ⟨w.heap.size + 1, 0, none⟩ (.int .i64 0)).setCell ⟨w.heap.size + 1, 1, none⟩ (.int .i64 n)).setCell ⟨w.heap.size + 1, 2, none⟩ (.int .i64 (n + 1))).setCell ⟨w.heap.size + 1, 3, none⟩ (.slice va' (l.length + 1) vc')).setCell ⟨w.heap.size + 1, 4, none⟩ (.slice ua ws.length uc)).heap[k]? = w5.heap[k]? := fun k hk => by
        rw [Below.heap_setCell _ _ _ _ (by simpa using hk), Below.heap_setCell _ _ _ _ (by simpa using hk), Below.heap_setCell _ _ _ _ (by simpa using hk), Below.heap_setCell _ _ _ _ (by simpa using hk), Below.heap_setCell _ _ _ _ (by simpa using hk)]
      have hO := HO5.out.keep fun k h1 _ => k5 k (by omega)
      have hI := HI2.out.block (w' := (((((w5.setCell ⟨w.heap.size + 1, 0, none⟩ (.int .i64 0)).setCell ⟨w.heap.size + 1, 1, none⟩ (.int .i64 n)).setCell ⟨w.heap.size + 1, 2, none⟩ (.int .i64 (n + 1))).setCell ⟨w.heap.size + 1, 3, none⟩ (.slice va' (l.length + 1) vc')).setCell ⟨w.heap.size + 1, 4, none⟩ (.slice ua ws.length uc))) fun k e => by
        have hk := World.ownsRow.lt HI2.out k e
        rw [k5 k (by omega), HT5.out.block k (by omega) (by
          rintro (e' | e')
          · omega
          · rw [← HLL.out] at e'; exact (HD2.out k e).1 e'), HB4.out.block k (by simp; omega), Below.heap_alloc w2 _ k hk.2]
      rw [hlen]
      refine (BagR.own hO hI (fun k e => ?_) (by rw [hlen]; unfold maxLen; omega) (by unfold maxLen; omega)).wide (by omega) (Nat.le_refl _)
      have hk := World.ownsRow.lt HI2.out k e
      refine ⟨fun e' => ?_, fun p hp e' => ?_⟩
      · rcases HA5.out with h7 | ⟨k', h7, hk'⟩
        · rw [h7, ← HLL.out] at e'; exact (HD2.out k e).1 e'
        · rw [h7] at e'; injection e' with e'; omega
      · rcases List.mem_append.1 hp with hp | hp
        · exact (HD2.out k e).2 p hp e'
        · rw [List.mem_singleton.1 hp] at e'
          have := (HO4.out.2.lt k e').1
          simp at this
          omega
    · have h45 : Below w.heap.size w4 w5 := ⟨HT5.out.os, HT5.out.tape, HT5.out.output, HT5.out.size, fun k hk => HT5.out.block k (by omega) (by
        rintro (e' | e')
        · omega
        · rw [← HLL.out] at e'; have := (World.ownsRow.lt HO2.out.row _ e').1; omega)⟩
      have hB5 : Below w.heap.size w w5 := ((((HB1.out.trans (HB2.out.mono (by omega))).alloc (by omega) _).trans (HB4.out.mono (by simp; omega)))).trans h45
      exact ((((hB5.setCell (Nat.le_succ _) _).setCell (Nat.le_succ _) _).setCell (Nat.le_succ _) _).setCell (Nat.le_succ _) _).setCell (Nat.le_succ _) _
  · have HC : Hid (putC n l.length ws f t bs.length ≠ 0) := hc
    rw [show putAns n (cont l) ws f t bs = (putC n l.length ws f t bs.length, 0, n, cont l, ws) by simp [putAns, hbag, cont_len, hc]]
    have hcd : (putC n l.length ws f t bs.length != 0) = true := by simpa using hc
    clear hc hbag
    go_enter Try.func17, Try.ntmps17
    go_wp2_with (first
      | (go_at_call 46; refine (HF.out _ hb0.out).mono ?_; rintro e w1 ⟨rfl, hb1⟩; have HB1 : Hid (Below w.heap.size w w1) := hb0.out.trans (hb1.mono (by simp; omega)); have BX1 : Hid (Blk w1 w.heap.size #[.int .i64 n, .slice a l.length cap, .slice a2 ws.length cap2] 29) := ((Blk.new w _ _).alloc _).below hb1 (by simp; omega); have BR1 : Hid (Blk w1 (w.heap.size + 1) #[.int .i64 0, .int .i64 0, .int .i64 0, .slice none 0 0, .slice none 0 0] 37) := (Blk.new' (w.alloc _) _ _ (by simp)).below hb1 (by simp); have hz1 : w.heap.size + 2 ≤ w1.heap.size := (by have := hb1.size; simp at this; omega); have x0 : w1.cell? ⟨w.heap.size, 0, none⟩ = some (.int .i64 n) := BX1.out.cell 0; have x1 : w1.cell? ⟨w.heap.size, 1, none⟩ = some (.slice a l.length cap) := BX1.out.cell 1; have x2 : w1.cell? ⟨w.heap.size, 2, none⟩ = some (.slice a2 ws.length cap2) := BX1.out.cell 2; have r0 : w1.cell? ⟨w.heap.size + 1, 0, none⟩ = some (.int .i64 0) := BR1.out.cell 0; have r1 : w1.cell? ⟨w.heap.size + 1, 1, none⟩ = some (.int .i64 0) := BR1.out.cell 1; have r2 : w1.cell? ⟨w.heap.size + 1, 2, none⟩ = some (.int .i64 0) := BR1.out.cell 2; have r3 : w1.cell? ⟨w.heap.size + 1, 3, none⟩ = some (.slice none 0 0) := BR1.out.cell 3; have r4 : w1.cell? ⟨w.heap.size + 1, 4, none⟩ = some (.slice none 0 0) := BR1.out.cell 4; have fr1 := BR1.out.free; clear hb1)
      | (go_at_call 47; refine (HCB.out _ HB1.out).mono ?_; rintro e w2 ⟨v, u, L0, rfl, hcL, hO2, hI2, hd2, hb2⟩; obtain ⟨va, vc, rfl⟩ := hO2.shape; obtain ⟨ua, uc, rfl⟩ := hI2.shape; have HO2 : Hid (OwnP w2 w1.heap.size (.slice va L0.length vc) L0) := hO2; have HI2 : Hid (OwnI w2 w1.heap.size (.slice ua ws.length uc) ws) := hI2; have HD2 : Hid (∀ k, (Value.slice ua ws.length uc).ownBlock = some k → (Value.slice va L0.length vc).ownBlock ≠ some k ∧ ∀ p ∈ L0, p.2.ownBlock ≠ some k) := hd2; have HB2 : Hid (Below w1.heap.size w1 w2) := hb2; have HCL : Hid (cont L0 = cont l) := hcL; have hz2 := hb2.size; have hll : L0.length = l.length := (by rw [← cont_len L0, hcL, cont_len]); have HLL : Hid (L0.length = l.length) := hll; clear hO2 hI2 hd2 hb2 hcL hll x0 x1 x2 r0 r1 r2 r3 r4 fr1)
      | (go_at_call 59; refine (HCP.out _ ((HB1.out.trans (HB2.out.mono (by omega))).alloc (by omega) _)).mono ?_; rintro e w4 ⟨a7, cap7, rfl, ho4, hb4⟩; have HO4 : Hid (Own w4 _ (.slice a7 bs.length cap7) bs) := ho4; have HB4 : Hid (Below _ _ w4) := hb4; have hz4 : w2.heap.size + 1 ≤ w4.heap.size := (by have := hb4.size; simpa using this); clear ho4 hb4)
      | (go_at_call 58; refine (putPacket_any w2.heap.size n va vc L0 ua uc ws 0 f t a7 cap7 bs w4 w1.heap.size (w2.heap.size + 1) ((Blk.new w2 _ _).below HB4.out (by simp)) ((HO2.out.below ((Below.refl _ _).alloc (Nat.le_refl _) _)).below HB4.out) (fun e => by have := HO2.out.lts.1 _ e; omega) (fun p' hp' e => by have := HO2.out.lts.2 p' hp' _ e; omega) (by omega) (by omega) ((HI2.out.r (by unfold maxLen; omega)).ix.below (((Below.refl _ _).alloc (Nat.le_refl _) _).trans (HB4.out.mono (by simp)))) HR.out hw (HO4.out.le (by simp)) (by omega) ⟨fun k e => by have := HO2.out.lts.1 k e; omega, fun p' hp' k e => by have := HO2.out.lts.2 p' hp' k e; omega⟩ hbl hn.1 hn.2 (by have := HLL.out; omega)).mono ?_; rintro e w5 ⟨rfl, h5, _⟩; obtain ⟨hQ5, hb5⟩ := h5 (by rw [HLL.out]; exact HC.out); rw [show putC n L0.length ws f t bs.length = putC n l.length ws f t bs.length by rw [HLL.out]]; have HQ5 : Hid (Blk w5 w2.heap.size #[.int .i64 n, .slice va L0.length vc, .slice ua ws.length uc] 29) := hQ5; have HB5 : Hid (Below w4.heap.size w4 w5) := hb5; have BR5 : Hid (Blk w5 (w.heap.size + 1) #[.int .i64 0, .int .i64 0, .int .i64 0, .slice none 0 0, .slice none 0 0] 37) := (((BR1.out.below HB2.out (by omega)).alloc _).below HB4.out (by simp; omega)).below hb5 (by omega); have hz5 := hb5.size; have o0 : w5.cell? ⟨w2.heap.size, 0, none⟩ = some (.int .i64 n) := hQ5.cell 0; have o1 : w5.cell? ⟨w2.heap.size, 1, none⟩ = some (.slice va L0.length vc) := hQ5.cell 1; have o2 : w5.cell? ⟨w2.heap.size, 2, none⟩ = some (.slice ua ws.length uc) := hQ5.cell 2; have r0 : w5.cell? ⟨w.heap.size + 1, 0, none⟩ = some (.int .i64 0) := BR5.out.cell 0; have r1 : w5.cell? ⟨w.heap.size + 1, 1, none⟩ = some (.int .i64 0) := BR5.out.cell 1; have r2 : w5.cell? ⟨w.heap.size + 1, 2, none⟩ = some (.int .i64 0) := BR5.out.cell 2; have r3 : w5.cell? ⟨w.heap.size + 1, 3, none⟩ = some (.slice none 0 0) := BR5.out.cell 3; have r4 : w5.cell? ⟨w.heap.size + 1, 4, none⟩ = some (.slice none 0 0) := BR5.out.cell 4; have fr := BR5.out.free; clear h5 hQ5 hb5))
    refine bodyPost_ret (v := .agg #[.int .i64 (putC n l.length ws f t bs.length), .int .i64 0, .int .i64 n, .slice va L0.length vc, .slice ua ws.length uc]) (by simp [results, Try.results17, go_sem, *]) rfl ⟨va, vc, ua, uc, L0, rfl, HCL.out, ?_, ?_⟩
    · have k5 : ∀ (c : Int) (k : Nat), k ≠ w.heap.size + 1 → (((((w5.setCell ⟨w.heap.size + 1, 0, none⟩ (.int .i64 c)).setCell ⟨w.heap.size + 1, 1, none⟩ (.int .i64 0)).setCell ⟨w.heap.size + 1, 2, none⟩ (.int .i64 n)).setCell ⟨w.heap.size + 1, 3, none⟩ (.slice va L0.length vc)).setCell ⟨w.heap.size + 1, 4, none⟩ (.slice ua ws.length uc)).heap[k]? = w5.heap[k]? := fun c k hk => by
        rw [Below.heap_setCell _ _ _ _ (by simpa using hk), Below.heap_setCell _ _ _ _ (by simpa using hk), Below.heap_setCell _ _ _ _ (by simpa using hk), Below.heap_setCell _ _ _ _ (by simpa using hk), Below.heap_setCell _ _ _ _ (by simpa using hk)]
      have k6 : ∀ (c : Int) (k : Nat), w1.heap.size ≤ k → k < w2.heap.size → (((((w5.setCell ⟨w.heap.size + 1, 0, none⟩ (.int .i64 c)).setCell ⟨w.heap.size + 1, 1, none⟩ (.int .i64 0)).setCell ⟨w.heap.size + 1, 2, none⟩ (.int .i64 n)).setCell ⟨w.heap.size + 1, 3, none⟩ (.slice va L0.length vc)).setCell ⟨w.heap.size + 1, 4, none⟩ (.slice ua ws.length uc)).heap[k]? = w2.heap[k]? := fun c k hk hk2 => by
        rw [k5 c k (by omega), HB5.out.block k (by omega), HB4.out.block k (by simp; omega), Below.heap_alloc w2 _ k hk2]
      have hL : L0.length ≤ maxLen := by rw [HLL.out]; unfold maxLen; omega
      exact (BagR.own (HO2.out.keep (k6 _)) (HI2.out.keep (k6 _)) HD2.out hL (by unfold maxLen; omega)).wide (by omega) (Nat.le_refl _)
    · have hB5 : Below w.heap.size w w5 := ((((HB1.out.trans (HB2.out.mono (by omega))).alloc (by omega) _).trans (HB4.out.mono (by simp; omega)))).trans (HB5.out.mono (by omega))
      exact ((((hB5.setCell (Nat.le_succ _) _).setCell (Nat.le_succ _) _).setCell (Nat.le_succ _) _).setCell (Nat.le_succ _) _).setCell (Nat.le_succ _) _
end Go.Proofs.Ytfcmffdljfljkaa

/-
  laws.eqBag, markBag, heldBag; eqPutAnswer, markPutAnswer, heldPutAnswer.
-/
namespace Go.Proofs.Ytfcmffdljfljkaa
open Go.RowKit
set_option linter.unusedVariables false
set_option linter.unusedSimpArgs false

theorem BagR.below {w w' : World} {lo hi : Nat} {v u : Value} {l : List Pk} {ws : List Int} (h : BagR lo hi w v u l ws) (hb : Below w.heap.size w w') (hhi : hi ≤ w.heap.size) : BagR lo hi w' v u l ws := h.keep fun k _ hk => hb.block k (by omega)

set_option maxHeartbeats 2000000 in
set_option maxRecDepth 100000 in
theorem eqBag_u (n : Int) (v u v' u' : Value) (l L : List Pk) (ws : List Int) (w : World) {lo hi lo' hi' : Nat} (h : BagR lo hi w v u l ws) (h' : BagR lo' hi' w v' u' L ws) (hc : cont l = cont L) :
    Calls Try.prog 12 #[.agg #[.int .i64 n, v, u], .agg #[.int .i64 n, v', u']] w fun e w' => e = .returned (.bool true) ∧ Below w.heap.size w w' := by
  have HP : Hid (∀ w', Below w.heap.size w w' → Calls Try.prog 50 #[v, v'] w' fun e w'' => e = .returned (.bool true) ∧ Below w'.heap.size w' w'') := fun w' hb => eqPacketS_same _ _ l L w' (h.pks.pks.below hb) (h'.pks.pks.below hb) hc
  have HI : Hid (∀ w', Below w.heap.size w w' → Calls Try.prog 51 #[u, u'] w' fun e w'' => e = .returned (.bool true) ∧ Below w'.heap.size w' w'') := fun w' hb => eqIntS_same _ _ ws w' (h.ints.ix.below hb) (h'.ints.ix.below hb)
  obtain ⟨a, cap, rfl⟩ := h.pks.sh
  obtain ⟨a2, cap2, rfl⟩ := h.ints.sh
  obtain ⟨a', cap', rfl⟩ := h'.pks.sh
  obtain ⟨a2', cap2', rfl⟩ := h'.ints.sh
  clear h h' hc
  generalize l.length = nl at *
  generalize L.length = nL at *
  have hb0 : Hid (Below w.heap.size w ((w.alloc (.cells #[.int .i64 n, .slice a nl cap, .slice a2 ws.length cap2] 29)).alloc (.cells #[.int .i64 n, .slice a' nL cap', .slice a2' ws.length cap2'] 29))) := ((Below.refl _ _).alloc (Nat.le_refl _) _).alloc (by simp) _
  go_enter Try.func12, Try.ntmps12
  go_wp2_with (first
    | (go_at_call 50; refine (HP.out _ hb0.out).mono ?_; rintro e w1 ⟨rfl, hb1⟩; have HB1 : Hid (Below w.heap.size w w1) := hb0.out.trans (hb1.mono (by simp; omega)); have hcc := (bcell hb1).1; clear hb1)
    | (go_at_call 51; refine (HI.out _ HB1.out).mono ?_; rintro e w2 ⟨rfl, hb2⟩; have HB2 : Hid (Below w.heap.size w w2) := HB1.out.trans (hb2.mono HB1.out.size); clear hb2))
  go_ret
  exact ⟨rfl, HB2.out⟩

set_option maxHeartbeats 2000000 in
set_option maxRecDepth 100000 in
theorem eqPutAnswer_u (c i n : Int) (v u v' u' : Value) (l L : List Pk) (ws : List Int) (w : World) {lo hi lo' hi' : Nat} (h : BagR lo hi w v u l ws) (h' : BagR lo' hi' w v' u' L ws) (hc : cont l = cont L) (hhi : hi ≤ w.heap.size) (hhi' : hi' ≤ w.heap.size) :
    Calls Try.prog 18 #[.agg #[.int .i64 c, .int .i64 i, .int .i64 n, v, u], .agg #[.int .i64 c, .int .i64 i, .int .i64 n, v', u']] w fun e w' => e = .returned (.bool true) ∧ Below w.heap.size w w' := by
  have HP : Hid (∀ w', Below w.heap.size w w' → Calls Try.prog 12 #[.agg #[.int .i64 n, v, u], .agg #[.int .i64 n, v', u']] w' fun e w'' => e = .returned (.bool true) ∧ Below w'.heap.size w' w'') := fun w' hb => eqBag_u n _ _ _ _ l L ws w' (h.below hb hhi) (h'.below hb hhi') hc
  obtain ⟨a, cap, rfl⟩ := h.pks.sh
  obtain ⟨a2, cap2, rfl⟩ := h.ints.sh
  obtain ⟨a', cap', rfl⟩ := h'.pks.sh
  obtain ⟨a2', cap2', rfl⟩ := h'.ints.sh
  clear h h' hc
  generalize l.length = nl at *
  generalize L.length = nL at *
  have hb0 : Hid (Below w.heap.size w ((w.alloc (.cells #[.int .i64 c, .int .i64 i, .int .i64 n, .slice a nl cap, .slice a2 ws.length cap2] 37)).alloc (.cells #[.int .i64 c, .int .i64 i, .int .i64 n, .slice a' nL cap', .slice a2' ws.length cap2'] 37))) := ((Below.refl _ _).alloc (Nat.le_refl _) _).alloc (by simp) _
  go_enter Try.func18, Try.ntmps18
  go_wp2_with (go_at_call 12; refine (HP.out _ hb0.out).mono ?_; rintro e w1 ⟨rfl, hb1⟩; have HB1 : Hid (Below w.heap.size w w1) := hb0.out.trans (hb1.mono (by simp; omega)); clear hb1)
  go_ret
  exact ⟨rfl, HB1.out⟩

/-- ints that are marked -/
def mkIs (k n : Nat) : List Int := (List.range n).map fun i => ((k + i : Nat) : Int)
theorem mkIs_len (k n : Nat) : (mkIs k n).length = n := by simp [mkIs]
theorem mkIs_get (k n j : Nat) (h : j < (mkIs k n).length) : (mkIs k n)[j] = ((k + j : Nat) : Int) := by simp [mkIs]

set_option maxHeartbeats 2000000 in
theorem markIntS_r (v : Value) (l : List Int) (z : Int) (k0 : Nat) (hz : z = (k0 : Int)) (w : World) {lo hi : Nat} (hv : IntsR lo hi w v l) (hl : l.length ≤ 1048576) (hk0 : k0 ≤ 100000000) :
    Calls Try.prog 53 #[v, .int .i64 z] w fun r w' => r = .returned (.int .i64 ((k0 + l.length : Nat) : Int)) ∧ IntsR lo hi w' v (mkIs k0 l.length) ∧ Touched (fun k => 0 < l.length ∧ v.ownBlock = some k) w w' := by
  subst hz
  by_cases h0 : l.length = 0
  · obtain ⟨a, cap, rfl⟩ := hv.sh
    rw [h0]
    go_enter Try.func53, Try.ntmps53
    go_wp2
    go_loopw [1, 5] (fun c i wr => c = .int .i64 (k0 : Int) ∧ i = .int .i64 0 ∧ wr = w) (fun _ _ _ => 0)
    case atStart => exact ⟨rfl, rfl, rfl⟩
    case round =>
      obtain ⟨rfl, rfl, rfl⟩ := hrel
      go_wp2
      go_ret
      exact ⟨by simp, ⟨by simp [mkIs_len, maxLen], ⟨_, _, rfl⟩, fun h => absurd h (by simp [mkIs_len])⟩, Touched.refl _ _⟩
  · obtain ⟨q, cap, rfl, h1, h2, h3, h4, h5⟩ := hv.row (by omega)
    refine (markIntS_is k0 hk0 q l.length cap w h4 h3 hl).mono ?_
    rintro r w' ⟨rfl, hm, hg⟩
    refine ⟨rfl, ⟨by rw [mkIs_len]; exact hv.len, by rw [mkIs_len]; exact ⟨_, _, rfl⟩, fun _ => ⟨q, cap, by rw [mkIs_len], h1, h2, Nat.lt_of_lt_of_le h3 hg.size, by rw [mkIs_len]; exact hm.room, fun j hj => ?_⟩⟩, Touched.rows hg fun k e => ⟨by omega, e⟩⟩
    rw [mkIs_get, hm.old j (by rw [mkIs_len] at hj; exact hj)]
theorem heldIntS_r (v : Value) (n : Nat) (z : Int) (k0 : Nat) (hz : z = (k0 : Int)) (w : World) {lo hi : Nat} (hv : IntsR lo hi w v (mkIs k0 n)) (hl : n ≤ 1048576) (hk0 : k0 ≤ 100000000) :
    Calls Try.prog 55 #[v, .int .i64 z] w fun r w' => r = .returned (.int .i64 ((k0 + n : Nat) : Int)) ∧ Below w.heap.size w w' := by
  subst hz
  obtain ⟨a, cap, rfl⟩ := hv.sh
  have hr := hv.row
  rw [mkIs_len]
  refine heldIntS_is k0 hk0 a n cap w hl fun h0 => ?_
  obtain ⟨q, cap', e, h1, h2, h3, h4, h5⟩ := hr (by rw [mkIs_len]; exact h0)
  injection e with e1 _ _
  exact ⟨q, e1, fun i hi => by rw [h5 i (by rw [mkIs_len]; exact hi), mkIs_get]⟩

theorem mkPs_blocks {v : Value} {l : List Pk} {k0 k : Nat} (h : pkBlocks v (mkPs k0 l) k) : pkBlocks v l k := by
  rcases h with ⟨h0, e⟩ | ⟨p, hp, e⟩
  · exact .inl ⟨by rwa [mkPs_len] at h0, e⟩
  · obtain ⟨j, hj, rfl⟩ := List.mem_iff_getElem.1 hp
    have hj' : j < l.length := by rwa [mkPs_len] at hj
    rw [mkPs_get k0 l j hj' hj] at e
    exact .inr ⟨l[j], List.getElem_mem hj', e⟩

set_option maxHeartbeats 2000000 in
set_option maxRecDepth 100000 in
theorem markBag_u (n : Int) (v u : Value) (l : List Pk) (ws : List Int) (k0 : Nat) (w : World) {lo hi : Nat} (h : BagR lo hi w v u l ws) (hlo : lo ≤ w.heap.size) (hhi : hi ≤ w.heap.size) (hl : l.length ≤ 1100000) (hb : bulk (cont l) ≤ 2200000) (hw : ws.length ≤ 1048576) (hk0 : k0 ≤ 10000000) :
    Calls Try.prog 13 #[.agg #[.int .i64 n, v, u], .int .i64 k0] w fun e w' => e = .returned (.int .i64 ((k0 + mkN (cont l) + ws.length : Nat) : Int)) ∧ BagR lo hi w' v u (mkPs k0 l) (mkIs (k0 + mkN (cont l)) ws.length) ∧ Turned lo hi w w' := by
  have hmn : mkN (cont l) ≤ 6000000 := by simp only [mkN, cont_len]; omega
  have HP : Hid (∀ w', Below w.heap.size w w' → Calls Try.prog 52 #[v, .int .i64 k0] w' fun r w'' => r = .returned (.int .i64 ((k0 + mkN (cont l) : Nat) : Int)) ∧ PksR lo hi w'' v (mkPs k0 l) ∧ Touched (pkBlocks v l) w' w'') := fun w' hb' => markPacketS_u v l k0 w' (h.below hb' hhi).pks (Nat.le_trans hlo hb'.size) hl hb hk0
  have HI : Hid (∀ w' w'', Below w.heap.size w w' → Touched (pkBlocks v l) w' w'' → ∀ z : Int, z = ((k0 + mkN (cont l) : Nat) : Int) → Calls Try.prog 53 #[u, .int .i64 z] w'' fun r w3 => r = .returned (.int .i64 ((k0 + mkN (cont l) + ws.length : Nat) : Int)) ∧ IntsR lo hi w3 u (mkIs (k0 + mkN (cont l)) ws.length) ∧ Touched (fun k => 0 < ws.length ∧ u.ownBlock = some k) w'' w3) := fun w' w'' hb' ht z hz => by
    have hi' := (h.below hb' hhi).ints
    have hs := hb'.size
    refine markIntS_r u ws z _ hz w'' (lo := lo) (hi := hi) ⟨hi'.len, hi'.sh, fun h0 => ?_⟩ hw (by omega)
    obtain ⟨q, cap, e, h1, h2, h3, h4, h5⟩ := hi'.row h0
    have hbk := ht.block q h3 (h.far h0 q (by rw [e]; rfl))
    exact ⟨q, cap, e, h1, h2, lt_keepP hbk h3, there_block' h4 hbk, fun j hj => (World.cell?_of_block (w := w') hbk).trans (h5 j hj)⟩
  have HF : Hid (∀ w' w'' w3, Below w.heap.size w w' → Touched (pkBlocks v l) w' w'' → PksR lo hi w'' v (mkPs k0 l) → IntsR lo hi w3 u (mkIs (k0 + mkN (cont l)) ws.length) → Touched (fun k => 0 < ws.length ∧ u.ownBlock = some k) w'' w3 → BagR lo hi w3 v u (mkPs k0 l) (mkIs (k0 + mkN (cont l)) ws.length) ∧ Turned lo hi w w3) := fun w' w'' w3 hb' t1 hp hi' t2 => by
    refine ⟨⟨?_, hi', fun h0 k e hk => h.far (by rwa [mkIs_len] at h0) k e (mkPs_blocks hk)⟩, ?_⟩
    · have hk : ∀ k, k < w''.heap.size → pkBlocks v (mkPs k0 l) k → w3.heap[k]? = w''.heap[k]? := fun k hk hb' => t2.block k hk fun hh => h.far hh.1 k hh.2 (mkPs_blocks hb')
      refine ⟨hp.len, hp.sh, fun h0 => ?_, fun p hp' => ?_, hp.apart⟩
      · obtain ⟨q, cap, e, h1, h2, h3, h4, h5, h6⟩ := hp.row h0
        have hbk := hk q h3 (.inl ⟨h0, by rw [e]; rfl⟩)
        exact ⟨q, cap, e, h1, h2, lt_keepP hbk h3, there_block' h4 hbk, fun j hj => (h5 j hj).block hbk, h6⟩
      · obtain ⟨b1, b2⟩ := hp.bytes p hp'
        exact ⟨⟨b1.own.block fun k e => hk k (b1.own.2.lt k e).2 (.inr ⟨p, hp', e⟩), b1.lt⟩, b2⟩
    · refine (Turned.of_below lo hi hb').trans ((t1.turned h.pks.blocks).trans (t2.turned fun k hk => h.ints.block hk.1 k hk.2))
  obtain ⟨a, cap, rfl⟩ := h.pks.sh
  obtain ⟨a2, cap2, rfl⟩ := h.ints.sh
  have hnb : Hid (¬ pkBlocks (.slice a l.length cap) l w.heap.size) := fun hk => by have := h.pks.blocks _ hk; omega
  clear h
  have hb0 : Hid (Below w.heap.size w (w.alloc (.cells #[.int .i64 n, .slice a l.length cap, .slice a2 ws.length cap2] 29))) := (Below.refl _ _).alloc (Nat.le_refl _) _
  have hw0 : ∀ o, (w.alloc (.cells #[.int .i64 n, .slice a l.length cap, .slice a2 ws.length cap2] 29)).cell? ⟨w.heap.size, o, none⟩ = #[.int .i64 n, .slice a l.length cap, .slice a2 ws.length cap2][o]? := fun o => World.cell?_alloc_new _ _ _ _
  go_enter Try.func13, Try.ntmps13
  go_wp2_with (first
    | (go_at_call 52; refine (HP.out _ hb0.out).mono ?_; rintro e w1 ⟨rfl, hp1, ht1⟩; have HP1 : Hid (PksR lo hi w1 (.slice a l.length cap) (mkPs k0 l)) := hp1; have HT1 : Hid (Touched (pkBlocks (.slice a l.length cap) l) (w.alloc (.cells #[.int .i64 n, .slice a l.length cap, .slice a2 ws.length cap2] 29)) w1) := ht1; have c0 : w1.cell? ⟨w.heap.size, 0, none⟩ = some (.int .i64 n) := (World.cell?_of_block (ht1.block w.heap.size (by simp) hnb.out)).trans (by simp [go_sem]); have c1 : w1.cell? ⟨w.heap.size, 1, none⟩ = some (.slice a l.length cap) := (World.cell?_of_block (ht1.block w.heap.size (by simp) hnb.out)).trans (by simp [go_sem]); have c2 : w1.cell? ⟨w.heap.size, 2, none⟩ = some (.slice a2 ws.length cap2) := (World.cell?_of_block (ht1.block w.heap.size (by simp) hnb.out)).trans (by simp [go_sem]); clear hp1 ht1)
    | (go_at_call 53; refine (HI.out _ _ hb0.out HT1.out _ (by omega)).mono ?_; rintro e w2 ⟨rfl, hi2, ht2⟩; have HH : Hid (_ ∧ _) := HF.out _ _ _ hb0.out HT1.out HP1.out hi2 ht2; clear hi2 ht2))
  go_ret
  exact ⟨rfl, HH.out.1, HH.out.2⟩

set_option maxHeartbeats 2000000 in
set_option maxRecDepth 100000 in
theorem heldBag_u (n : Int) (v u : Value) (l : List Pk) (m k0 : Nat) (w : World) {lo hi : Nat} (h : BagR lo hi w v u (mkPs k0 l) (mkIs (k0 + mkN (cont l)) m)) (hhi : hi ≤ w.heap.size) (hl : l.length ≤ 1100000) (hb : bulk (cont l) ≤ 2200000) (hw : m ≤ 1048576) (hk0 : k0 ≤ 10000000) :
    Calls Try.prog 14 #[.agg #[.int .i64 n, v, u], .int .i64 k0] w fun e w' => e = .returned (.int .i64 ((k0 + mkN (cont l) + m : Nat) : Int)) ∧ Below w.heap.size w w' := by
  have hmn : mkN (cont l) ≤ 6000000 := by simp only [mkN, cont_len]; omega
  have HP : Hid (∀ w', Below w.heap.size w w' → Calls Try.prog 54 #[v, .int .i64 k0] w' fun r w'' => r = .returned (.int .i64 ((k0 + mkN (cont l) : Nat) : Int)) ∧ w'' = w') := fun w' hb' => heldPacketS_u v l k0 w' (h.below hb' hhi).pks hl hb hk0
  have HI : Hid (∀ w', Below w.heap.size w w' → ∀ z : Int, z = ((k0 + mkN (cont l) : Nat) : Int) → Calls Try.prog 55 #[u, .int .i64 z] w' fun r w'' => r = .returned (.int .i64 ((k0 + mkN (cont l) + m : Nat) : Int)) ∧ Below w'.heap.size w' w'') := fun w' hb' z hz => heldIntS_r u m z _ hz w' (h.below hb' hhi).ints hw (by omega)
  obtain ⟨a, cap, rfl⟩ := h.pks.sh
  obtain ⟨a2, cap2, rfl⟩ := h.ints.sh
  rw [mkPs_len, mkIs_len] at *
  clear h
  have hb0 : Hid (Below w.heap.size w (w.alloc (.cells #[.int .i64 n, .slice a l.length cap, .slice a2 m cap2] 29))) := (Below.refl _ _).alloc (Nat.le_refl _) _
  go_enter Try.func14, Try.ntmps14
  go_wp2_with (first
    | (go_at_call 54; refine (HP.out _ hb0.out).mono ?_; rintro e w1 ⟨rfl, rfl⟩)
    | (go_at_call 55; refine (HI.out _ hb0.out _ (by omega)).mono ?_; rintro e w2 ⟨rfl, hb2⟩; have HB2 : Hid (Below w.heap.size w w2) := hb0.out.trans (hb2.mono (by simp)); clear hb2))
  go_ret
  exact ⟨rfl, HB2.out⟩

set_option maxHeartbeats 2000000 in
set_option maxRecDepth 100000 in
theorem markPutAnswer_u (c i n : Int) (v u : Value) (l : List Pk) (ws : List Int) (w : World) {lo hi : Nat} (h : BagR lo hi w v u l ws) (hlo : lo ≤ w.heap.size) (hhi : hi ≤ w.heap.size) (hl : l.length ≤ 1100000) (hb : bulk (cont l) ≤ 2200000) (hw : ws.length ≤ 1048576) :
    Calls Try.prog 21 #[.agg #[.int .i64 c, .int .i64 i, .int .i64 n, v, u], .int .i64 1] w fun e w' => e = .returned (.int .i64 ((1 + mkN (cont l) + ws.length : Nat) : Int)) ∧ BagR lo hi w' v u (mkPs 1 l) (mkIs (1 + mkN (cont l)) ws.length) ∧ Turned lo hi w w' := by
  have HP : Hid (∀ w', Below w.heap.size w w' → Calls Try.prog 13 #[.agg #[.int .i64 n, v, u], .int .i64 1] w' fun e w'' => e = .returned (.int .i64 ((1 + mkN (cont l) + ws.length : Nat) : Int)) ∧ BagR lo hi w'' v u (mkPs 1 l) (mkIs (1 + mkN (cont l)) ws.length) ∧ Turned lo hi w w'') := fun w' hb' => (markBag_u n v u l ws 1 w' (h.below hb' hhi) (Nat.le_trans hlo hb'.size) (Nat.le_trans hhi hb'.size) hl hb hw (by omega)).mono fun e w'' hh => ⟨hh.1, hh.2.1, (Turned.of_below _ _ hb').trans hh.2.2⟩
  obtain ⟨a, cap, rfl⟩ := h.pks.sh
  obtain ⟨a2, cap2, rfl⟩ := h.ints.sh
  clear h
  have hb0 : Hid (Below w.heap.size w (w.alloc (.cells #[.int .i64 c, .int .i64 i, .int .i64 n, .slice a l.length cap, .slice a2 ws.length cap2] 37))) := (Below.refl _ _).alloc (Nat.le_refl _) _
  go_enter Try.func21, Try.ntmps21
  go_wp2_with (go_at_call 13; refine (HP.out _ hb0.out).mono ?_; rintro e w1 ⟨rfl, hr1, ht1⟩)
  go_ret
  exact ⟨rfl, hr1, ht1⟩

set_option maxHeartbeats 2000000 in
set_option maxRecDepth 100000 in
theorem heldPutAnswer_u (c i n : Int) (v u : Value) (l : List Pk) (m : Nat) (w : World) {lo hi : Nat} (h : BagR lo hi w v u (mkPs 1 l) (mkIs (1 + mkN (cont l)) m)) (hhi : hi ≤ w.heap.size) (hl : l.length ≤ 1100000) (hb : bulk (cont l) ≤ 2200000) (hw : m ≤ 1048576) :
    Calls Try.prog 22 #[.agg #[.int .i64 c, .int .i64 i, .int .i64 n, v, u], .int .i64 1] w fun e w' => e = .returned (.int .i64 ((1 + mkN (cont l) + m : Nat) : Int)) ∧ Below w.heap.size w w' := by
  have HP : Hid (∀ w', Below w.heap.size w w' → Calls Try.prog 14 #[.agg #[.int .i64 n, v, u], .int .i64 1] w' fun e w'' => e = .returned (.int .i64 ((1 + mkN (cont l) + m : Nat) : Int)) ∧ Below w'.heap.size w' w'') := fun w' hb' => heldBag_u n v u l m 1 w' (h.below hb' hhi) (Nat.le_trans hhi hb'.size) hl hb hw (by omega)
  obtain ⟨a, cap, rfl⟩ := h.pks.sh
  obtain ⟨a2, cap2, rfl⟩ := h.ints.sh
  rw [mkPs_len, mkIs_len] at *
  clear h
  have hb0 : Hid (Below w.heap.size w (w.alloc (.cells #[.int .i64 c, .int .i64 i, .int .i64 n, .slice a l.length cap, .slice a2 m cap2] 37))) := (Below.refl _ _).alloc (Nat.le_refl _) _
  go_enter Try.func22, Try.ntmps22
  go_wp2_with (go_at_call 14; refine (HP.out _ hb0.out).mono ?_; rintro e w1 ⟨rfl, hb1⟩; have HB1 : Hid (Below w.heap.size w w1) := hb0.out.trans (hb1.mono (by simp)); clear hb1)
  go_ret
  exact ⟨rfl, HB1.out⟩
end Go.Proofs.Ytfcmffdljfljkaa

/-
  Bags as a law takes them: tq, eq, mark, held; bytes; the answer of a put.
-/
namespace Go.Proofs.Ytfcmffdljfljkaa
open Go.RowKit
set_option linter.unusedVariables false
set_option linter.unusedSimpArgs false

/-- a bag of one's own that says pl, ws -/
structure BagD (lo hi : Nat) (w : World) (va : Option Addr) (n vc : Nat) (ua : Option Addr) (m uc : Nat) (pl : List Pkt) (ws : List Int) : Prop where
  hn : n = pl.length
  hm : m = ws.length
  ex : ∃ L, cont L = pl ∧ BagR lo hi w (.slice va n vc) (.slice ua m uc) L ws
theorem BagD.keep {w w' : World} {lo hi : Nat} {va : Option Addr} {n vc : Nat} {ua : Option Addr} {m uc : Nat} {pl : List Pkt} {ws : List Int} (h : BagD lo hi w va n vc ua m uc pl ws) (hk : ∀ k, lo ≤ k → k < hi → w'.heap[k]? = w.heap[k]?) : BagD lo hi w' va n vc ua m uc pl ws := by
  obtain ⟨h1, h2, L, h3, h4⟩ := h
  exact ⟨h1, h2, L, h3, h4.keep hk⟩
theorem BagD.wide {w : World} {lo hi lo' hi' : Nat} {va : Option Addr} {n vc : Nat} {ua : Option Addr} {m uc : Nat} {pl : List Pkt} {ws : List Int} (h : BagD lo hi w va n vc ua m uc pl ws) (g1 : lo' ≤ lo) (g2 : hi ≤ hi') : BagD lo' hi' w va n vc ua m uc pl ws := by
  obtain ⟨h1, h2, L, h3, h4⟩ := h
  exact ⟨h1, h2, L, h3, h4.wide g1 g2⟩
/-- a marked one -/
structure BagM (lo hi : Nat) (w : World) (k0 : Nat) (va : Option Addr) (n vc : Nat) (ua : Option Addr) (m uc : Nat) (pl : List Pkt) : Prop where
  ex : ∃ L, cont L = pl ∧ BagR lo hi w (.slice va n vc) (.slice ua m uc) (mkPs k0 L) (mkIs (k0 + mkN (cont L)) m)
theorem BagM.keep {w w' : World} {lo hi k0 : Nat} {va : Option Addr} {n vc : Nat} {ua : Option Addr} {m uc : Nat} {pl : List Pkt} (h : BagM lo hi w k0 va n vc ua m uc pl) (hk : ∀ k, lo ≤ k → k < hi → w'.heap[k]? = w.heap[k]?) : BagM lo hi w' k0 va n vc ua m uc pl := by
  obtain ⟨L, h3, h4⟩ := h
  exact ⟨L, h3, h4.keep hk⟩
theorem toBag_d (N : Int) (a : Option Addr) (cap : Nat) (a2 : Option Addr) (cap2 : Nat) (l : List Pk) (ws : List Int) (w : World) (hv : Pks w (.slice a l.length cap) l) (hu : Ix w (.slice a2 ws.length cap2) ws) (hl : l.length + bulk (cont l) ≤ 1048576 ∧ ws.length ≤ 1048576) :
    Calls Try.prog 10 #[.agg #[.int .i64 N, .slice a l.length cap, .slice a2 ws.length cap2]] w fun e w' => ∃ z : Nat × Nat, e = .returned (.agg #[.int .i64 N, .slice (some ⟨z.1, 0, none⟩) l.length l.length, .slice (some ⟨z.2, 0, none⟩) ws.length ws.length]) ∧ BagD w.heap.size w'.heap.size w' (some ⟨z.1, 0, none⟩) l.length l.length (some ⟨z.2, 0, none⟩) ws.length ws.length (cont l) ws ∧ Below w.heap.size w w' :=
  (toBag_u N a cap a2 cap2 l ws w hv hu hl.1 hl.2).mono fun e w' ⟨q, L, q', he, hc, hR, hb⟩ => ⟨(q, q'), he, ⟨(cont_len l).symm, rfl, L, hc, hR⟩, hb⟩
theorem eqBag_d (N : Int) (va : Option Addr) (n vc : Nat) (ua : Option Addr) (m uc : Nat) (va' : Option Addr) (vc' : Nat) (ua' : Option Addr) (uc' : Nat) (pl : List Pkt) (ws : List Int) (w : World) {lo hi lo' hi' : Nat} (h : BagD lo hi w va n vc ua m uc pl ws) (h' : BagD lo' hi' w va' n vc' ua' m uc' pl ws) :
    Calls Try.prog 12 #[.agg #[.int .i64 N, .slice va n vc, .slice ua m uc], .agg #[.int .i64 N, .slice va' n vc', .slice ua' m uc']] w fun e w' => e = .returned (.bool true) ∧ Below w.heap.size w w' := by
  obtain ⟨_, _, L, h3, h4⟩ := h
  obtain ⟨_, _, L', h3', h4'⟩ := h'
  exact eqBag_u N _ _ _ _ L L' ws w h4 h4' (by rw [h3, h3'])
theorem markBag_d (N : Int) (va : Option Addr) (n vc : Nat) (ua : Option Addr) (m uc : Nat) (pl : List Pkt) (ws : List Int) (k0 : Nat) (w : World) {lo hi : Nat} (h : BagD lo hi w va n vc ua m uc pl ws) (hlo : lo ≤ w.heap.size) (hhi : hi ≤ w.heap.size) (hp : pl.length + bulk pl ≤ 1100000) (hw : ws.length ≤ 1048576) (hk0 : k0 ≤ 1000000) :
    Calls Try.prog 13 #[.agg #[.int .i64 N, .slice va n vc, .slice ua m uc], .int .i64 k0] w fun e w' => (∃ k : Nat, e = .returned (.int .i64 k) ∧ k ≤ 10000000) ∧ Turned lo hi w w' := by
  obtain ⟨_, _, L, h3, h4⟩ := h
  have hL : L.length = pl.length := by rw [← cont_len L, h3]
  refine (markBag_u N _ _ L ws k0 w h4 hlo hhi (by omega) (by rw [h3]; omega) hw (by omega)).mono fun e w' ⟨h5, _, h6⟩ => ⟨⟨_, h5, ?_⟩, h6⟩
  rw [h3]; simp only [mkN]; omega
theorem markBagR_d (N : Int) (va : Option Addr) (n vc : Nat) (ua : Option Addr) (m uc : Nat) (pl : List Pkt) (ws : List Int) (w : World) {lo hi : Nat} (h : BagD lo hi w va n vc ua m uc pl ws) (hlo : lo ≤ w.heap.size) (hhi : hi ≤ w.heap.size) (hp : pl.length ≤ 1100000) (hp2 : bulk pl ≤ 2200000) (hw : ws.length ≤ 1048576) :
    Calls Try.prog 13 #[.agg #[.int .i64 N, .slice va n vc, .slice ua m uc], .int .i64 1] w fun e w' => e = .returned (.int .i64 ((1 + mkN pl + m : Nat) : Int)) ∧ BagM lo hi w' 1 va n vc ua m uc pl ∧ Turned lo hi w w' := by
  obtain ⟨_, hm, L, h3, h4⟩ := h
  subst hm
  have hL : L.length = pl.length := by rw [← cont_len L, h3]
  refine (markBag_u N _ _ L ws 1 w h4 hlo hhi (by omega) (by rw [h3]; omega) hw (by omega)).mono fun e w' ⟨h5, h6, h7⟩ => ⟨by rw [h5, h3], ⟨L, h3, h6⟩, h7⟩
theorem heldBag_d (N : Int) (va : Option Addr) (n vc : Nat) (ua : Option Addr) (m uc : Nat) (pl : List Pkt) (w : World) {lo hi : Nat} (h : BagM lo hi w 1 va n vc ua m uc pl) (hhi : hi ≤ w.heap.size) (hp : pl.length ≤ 1100000) (hp2 : bulk pl ≤ 2200000) (hw : m ≤ 1048576) :
    Calls Try.prog 14 #[.agg #[.int .i64 N, .slice va n vc, .slice ua m uc], .int .i64 1] w fun e w' => e = .returned (.int .i64 ((1 + mkN pl + m : Nat) : Int)) ∧ Below w.heap.size w w' := by
  obtain ⟨L, h3, h4⟩ := h
  have hL : L.length = pl.length := by rw [← cont_len L, h3]
  refine (heldBag_u N _ _ L m 1 w h4 hhi (by omega) (by rw [h3]; omega) hw (by omega)).mono fun e w' ⟨h5, h6⟩ => ⟨by rw [h5, h3], h6⟩
theorem toByteS_u (v : Value) (l : List Int) (w : World) (hv : Bs w v l) (hl : l.length ≤ 1048576) :
    Calls Try.prog 16 #[v] w fun e w' => ∃ q, e = .returned (.slice (some ⟨q, 0, none⟩) l.length l.length) ∧ BytesN w.heap.size w'.heap.size w' (.slice (some ⟨q, 0, none⟩) l.length l.length) l ∧ Below w.heap.size w w' :=
  (toByteS_own v l w hv hl).mono fun e w' ⟨q, h1, _, _, h2, h3⟩ => ⟨q, h1, .of h2, h3⟩
theorem BytesN.ofTo {w w' : World} {q : Nat} {l : List Int} (h : Own w' w.heap.size (.slice (some ⟨q, 0, none⟩) l.length l.length) l) : BytesN w.heap.size w'.heap.size w' (.slice (some ⟨q, 0, none⟩) l.length l.length) l := .of h
theorem eqByteS_d (a a' : Option Addr) (n cap n' cap' : Nat) (l : List Int) (w : World) {lo hi lo' hi' : Nat} (h : BytesN lo hi w (.slice a n cap) l) (h' : BytesN lo' hi' w (.slice a' n' cap') l) (hl : l.length ≤ maxLen) :
    Calls Try.prog 19 #[.slice a n cap, .slice a' n' cap'] w fun e w' => e = .returned (.bool true) ∧ Below w.heap.size w w' := eqByteS_same _ _ l w (h.bs hl) (h'.bs hl)
theorem markByteS_d (v : Value) (l : List Int) (k0 : Nat) (w : World) {lo hi : Nat} (h : BytesN lo hi w v l) (hl : l.length ≤ 1048576) (hk0 : k0 ≤ 10000000) :
    Calls Try.prog 20 #[v, .int .i64 k0] w fun e w' => (∃ k : Nat, e = .returned (.int .i64 k) ∧ k ≤ 20000000) ∧ Turned lo hi w w' :=
  (markByteS_any v l k0 w lo h.own (by omega) (by omega)).mono fun e w' ⟨h5, _, h6⟩ => ⟨⟨_, h5, by omega⟩, Turned.rows h6 fun k e => h.lt k e⟩
theorem eqPutAnswer_d (c i N : Int) (va : Option Addr) (n vc : Nat) (ua : Option Addr) (m uc : Nat) (va' : Option Addr) (vc' : Nat) (ua' : Option Addr) (uc' : Nat) (pl : List Pkt) (ws : List Int) (w : World) {lo hi lo' hi' : Nat} (h : BagD lo hi w va n vc ua m uc pl ws) (h' : BagD lo' hi' w va' n vc' ua' m uc' pl ws) (hhi : hi ≤ w.heap.size) (hhi' : hi' ≤ w.heap.size) :
    Calls Try.prog 18 #[.agg #[.int .i64 c, .int .i64 i, .int .i64 N, .slice va n vc, .slice ua m uc], .agg #[.int .i64 c, .int .i64 i, .int .i64 N, .slice va' n vc', .slice ua' m uc']] w fun e w' => e = .returned (.bool true) ∧ Below w.heap.size w w' := by
  obtain ⟨_, _, L, h3, h4⟩ := h
  obtain ⟨_, _, L', h3', h4'⟩ := h'
  exact eqPutAnswer_u c i N _ _ _ _ L L' ws w h4 h4' (by rw [h3, h3']) hhi hhi'
theorem markPutAnswer_d (c i N : Int) (va : Option Addr) (n vc : Nat) (ua : Option Addr) (m uc : Nat) (pl : List Pkt) (ws : List Int) (w : World) {lo hi : Nat} (h : BagD lo hi w va n vc ua m uc pl ws) (hlo : lo ≤ w.heap.size) (hhi : hi ≤ w.heap.size) (hp : pl.length ≤ 1100000) (hp2 : bulk pl ≤ 2200000) (hw : ws.length ≤ 1048576) :
    Calls Try.prog 21 #[.agg #[.int .i64 c, .int .i64 i, .int .i64 N, .slice va n vc, .slice ua m uc], .int .i64 1] w fun e w' => e = .returned (.int .i64 ((1 + mkN pl + m : Nat) : Int)) ∧ BagM lo hi w' 1 va n vc ua m uc pl ∧ Turned lo hi w w' := by
  obtain ⟨_, hm, L, h3, h4⟩ := h
  subst hm
  have hL : L.length = pl.length := by rw [← cont_len L, h3]
  refine (markPutAnswer_u c i N _ _ L ws w h4 hlo hhi (by omega) (by rw [h3]; omega) hw).mono fun e w' ⟨h5, h6, h7⟩ => ⟨by rw [h5, h3], ⟨L, h3, h6⟩, h7⟩
theorem heldPutAnswer_d (c i N : Int) (va : Option Addr) (n vc : Nat) (ua : Option Addr) (m uc : Nat) (pl : List Pkt) (w : World) {lo hi : Nat} (h : BagM lo hi w 1 va n vc ua m uc pl) (hhi : hi ≤ w.heap.size) (hp : pl.length ≤ 1100000) (hp2 : bulk pl ≤ 2200000) (hw : m ≤ 1048576) :
    Calls Try.prog 22 #[.agg #[.int .i64 c, .int .i64 i, .int .i64 N, .slice va n vc, .slice ua m uc], .int .i64 1] w fun e w' => e = .returned (.int .i64 ((1 + mkN pl + m : Nat) : Int)) ∧ Below w.heap.size w w' := by
  obtain ⟨L, h3, h4⟩ := h
  have hL : L.length = pl.length := by rw [← cont_len L, h3]
  refine (heldPutAnswer_u c i N _ _ L m w h4 hhi (by omega) (by rw [h3]; omega) hw).mono fun e w' ⟨h5, h6⟩ => ⟨by rw [h5, h3], h6⟩
end Go.Proofs.Ytfcmffdljfljkaa

/-
  The answer of a take: eq, mark, held.
-/
namespace Go.Proofs.Ytfcmffdljfljkaa
open Go.RowKit
set_option linter.unusedVariables false
set_option linter.unusedSimpArgs false

/-- a packet's bytes and a bag, each in a span of its own -/
structure TkR (lo hi : Nat) (w : World) (pv : Value) (bs : List Int) (v u : Value) (l : List Pk) (ws : List Int) : Prop where
  ex : ∃ l1 h1 l2 h2, lo ≤ l1 ∧ l1 ≤ h1 ∧ h1 ≤ hi ∧ lo ≤ l2 ∧ h2 ≤ hi ∧ (h1 ≤ l2 ∨ h2 ≤ l1) ∧ BagR l1 h1 w v u l ws ∧ BytesN l2 h2 w pv bs
theorem TkR.keep {w w' : World} {lo hi : Nat} {pv : Value} {bs : List Int} {v u : Value} {l : List Pk} {ws : List Int} (h : TkR lo hi w pv bs v u l ws) (hk : ∀ k, lo ≤ k → k < hi → w'.heap[k]? = w.heap[k]?) : TkR lo hi w' pv bs v u l ws := by
  obtain ⟨l1, h1, l2, h2, g1, g0, g2, g3, g4, g5, hB, hY⟩ := h
  exact ⟨l1, h1, l2, h2, g1, g0, g2, g3, g4, g5, hB.keep fun k a b => hk k (by omega) (by omega), hY.keep fun k a b => hk k (by omega) (by omega)⟩
theorem TkR.wide {w : World} {lo hi lo' hi' : Nat} {pv : Value} {bs : List Int} {v u : Value} {l : List Pk} {ws : List Int} (h : TkR lo hi w pv bs v u l ws) (a1 : lo' ≤ lo) (a2 : hi ≤ hi') : TkR lo' hi' w pv bs v u l ws := by
  obtain ⟨l1, h1, l2, h2, g1, g0, g2, g3, g4, g5, hB, hY⟩ := h
  exact ⟨l1, h1, l2, h2, by omega, g0, by omega, by omega, by omega, g5, hB, hY⟩
theorem BytesN.nil (lo hi : Nat) (w : World) : BytesN lo hi w (.slice none 0 0) [] := ⟨Own.nil _ _, fun k e => by cases e⟩

/-- one that says what -/
structure TkD (lo hi : Nat) (w : World) (pa : Option Addr) (pn pc : Nat) (va : Option Addr) (n vc : Nat) (ua : Option Addr) (m uc : Nat) (bs : List Int) (pl : List Pkt) (ws : List Int) : Prop where
  hp : pn = bs.length
  hn : n = pl.length
  hm : m = ws.length
  ex : ∃ L, cont L = pl ∧ TkR lo hi w (.slice pa pn pc) bs (.slice va n vc) (.slice ua m uc) L ws
theorem TkD.keep {w w' : World} {lo hi : Nat} {pa : Option Addr} {pn pc : Nat} {va : Option Addr} {n vc : Nat} {ua : Option Addr} {m uc : Nat} {bs : List Int} {pl : List Pkt} {ws : List Int} (h : TkD lo hi w pa pn pc va n vc ua m uc bs pl ws) (hk : ∀ k, lo ≤ k → k < hi → w'.heap[k]? = w.heap[k]?) : TkD lo hi w' pa pn pc va n vc ua m uc bs pl ws := by
  obtain ⟨h0, h1, h2, L, h3, h4⟩ := h
  exact ⟨h0, h1, h2, L, h3, h4.keep hk⟩
theorem TkD.wide {w : World} {lo hi lo' hi' : Nat} {pa : Option Addr} {pn pc : Nat} {va : Option Addr} {n vc : Nat} {ua : Option Addr} {m uc : Nat} {bs : List Int} {pl : List Pkt} {ws : List Int} (h : TkD lo hi w pa pn pc va n vc ua m uc bs pl ws) (g1 : lo' ≤ lo) (g2 : hi ≤ hi') : TkD lo' hi' w pa pn pc va n vc ua m uc bs pl ws := by
  obtain ⟨h0, h1, h2, L, h3, h4⟩ := h
  exact ⟨h0, h1, h2, L, h3, h4.wide g1 g2⟩
/-- a marked one -/
structure TkM (lo hi : Nat) (w : World) (pa : Option Addr) (pn pc : Nat) (va : Option Addr) (n vc : Nat) (ua : Option Addr) (m uc : Nat) (pl : List Pkt) : Prop where
  ex : ∃ L, cont L = pl ∧ TkR lo hi w (.slice pa pn pc) (marksL 1 pn) (.slice va n vc) (.slice ua m uc) (mkPs (1 + pn) L) (mkIs (1 + pn + mkN (cont L)) m)
theorem TkM.keep {w w' : World} {lo hi : Nat} {pa : Option Addr} {pn pc : Nat} {va : Option Addr} {n vc : Nat} {ua : Option Addr} {m uc : Nat} {pl : List Pkt} (h : TkM lo hi w pa pn pc va n vc ua m uc pl) (hk : ∀ k, lo ≤ k → k < hi → w'.heap[k]? = w.heap[k]?) : TkM lo hi w' pa pn pc va n vc ua m uc pl := by
  obtain ⟨L, h3, h4⟩ := h
  exact ⟨L, h3, h4.keep hk⟩

set_option maxHeartbeats 2000000 in
set_option maxRecDepth 100000 in
theorem eqTakeAnswer_u (c o i f t n : Int) (pa pa' : Option Addr) (pn pc pc' : Nat) (va va' : Option Addr) (nl vc vc' : Nat) (ua ua' : Option Addr) (m uc uc' : Nat) (bs : List Int) (l L : List Pk) (ws : List Int) (w : World)
    (hp : Bs w (.slice pa pn pc) bs) (hp' : Bs w (.slice pa' pn pc') bs) {lo hi lo' hi' : Nat} (h : BagR lo hi w (.slice va nl vc) (.slice ua m uc) l ws) (h' : BagR lo' hi' w (.slice va' nl vc') (.slice ua' m uc') L ws) (hc : cont l = cont L) (hhi : hi ≤ w.heap.size) (hhi' : hi' ≤ w.heap.size) :
    Calls Try.prog 35 #[.agg #[.int .i64 c, .int .i64 o, .int .i64 i, .int .i64 f, .int .i64 t, .slice pa pn pc, .int .i64 n, .slice va nl vc, .slice ua m uc], .agg #[.int .i64 c, .int .i64 o, .int .i64 i, .int .i64 f, .int .i64 t, .slice pa' pn pc', .int .i64 n, .slice va' nl vc', .slice ua' m uc']] w fun e w' => e = .returned (.bool true) ∧ Below w.heap.size w w' := by
  have HP : Hid (∀ w', Below w.heap.size w w' → Calls Try.prog 80 #[.agg #[.int .i64 i, .int .i64 f, .int .i64 t, .slice pa pn pc], .agg #[.int .i64 i, .int .i64 f, .int .i64 t, .slice pa' pn pc']] w' fun e w'' => e = .returned (.bool true) ∧ Below w'.heap.size w' w'') := fun w' hb => eqPacket_same i f t _ _ _ _ _ _ bs w' (hp.below hb) (hp'.below hb)
  have HG : Hid (∀ w', Below w.heap.size w w' → Calls Try.prog 12 #[.agg #[.int .i64 n, .slice va nl vc, .slice ua m uc], .agg #[.int .i64 n, .slice va' nl vc', .slice ua' m uc']] w' fun e w'' => e = .returned (.bool true) ∧ Below w'.heap.size w' w'') := fun w' hb => eqBag_u n _ _ _ _ l L ws w' (h.below hb hhi) (h'.below hb hhi') hc
  clear h h' hc hp hp'
  have hb0 : Hid (Below w.heap.size w ((w.alloc (.cells #[.int .i64 c, .int .i64 o, .int .i64 i, .int .i64 f, .int .i64 t, .slice pa pn pc, .int .i64 n, .slice va nl vc, .slice ua m uc] 62)).alloc (.cells #[.int .i64 c, .int .i64 o, .int .i64 i, .int .i64 f, .int .i64 t, .slice pa' pn pc', .int .i64 n, .slice va' nl vc', .slice ua' m uc'] 62))) := ((Below.refl _ _).alloc (Nat.le_refl _) _).alloc (by simp) _
  go_enter Try.func35, Try.ntmps35
  go_wp2_with (first
    | (go_at_call 80; refine (HP.out _ hb0.out).mono ?_; rintro e w1 ⟨rfl, hb1⟩; have HB1 : Hid (Below w.heap.size w w1) := hb0.out.trans (hb1.mono (by simp; omega)); have x6 : w1.cell? ⟨w.heap.size, 6, none⟩ = some (.int .i64 n) := (hb1.cell (p := ⟨w.heap.size, 6, none⟩) (by simp <;> omega)).trans (by simp [go_sem]); have x7 : w1.cell? ⟨w.heap.size, 7, none⟩ = some (.slice va nl vc) := (hb1.cell (p := ⟨w.heap.size, 7, none⟩) (by simp <;> omega)).trans (by simp [go_sem]); have x8 : w1.cell? ⟨w.heap.size, 8, none⟩ = some (.slice ua m uc) := (hb1.cell (p := ⟨w.heap.size, 8, none⟩) (by simp <;> omega)).trans (by simp [go_sem]); have y6 : w1.cell? ⟨w.heap.size + 1, 6, none⟩ = some (.int .i64 n) := (hb1.cell (p := ⟨w.heap.size + 1, 6, none⟩) (by simp <;> omega)).trans (by simp [go_sem]); have y7 : w1.cell? ⟨w.heap.size + 1, 7, none⟩ = some (.slice va' nl vc') := (hb1.cell (p := ⟨w.heap.size + 1, 7, none⟩) (by simp <;> omega)).trans (by simp [go_sem]); have y8 : w1.cell? ⟨w.heap.size + 1, 8, none⟩ = some (.slice ua' m uc') := (hb1.cell (p := ⟨w.heap.size + 1, 8, none⟩) (by simp <;> omega)).trans (by simp [go_sem]); clear hb1)
    | (go_at_call 12; refine (HG.out _ HB1.out).mono ?_; rintro e w2 ⟨rfl, hb2⟩; have HB2 : Hid (Below w.heap.size w w2) := HB1.out.trans (hb2.mono HB1.out.size); clear hb2))
  go_ret
  exact ⟨rfl, HB2.out⟩
theorem eqTakeAnswer_d (c o i f t N : Int) (pa : Option Addr) (pn pc : Nat) (va : Option Addr) (n vc : Nat) (ua : Option Addr) (m uc : Nat) (pa' : Option Addr) (pc' : Nat) (va' : Option Addr) (vc' : Nat) (ua' : Option Addr) (uc' : Nat) (bs : List Int) (pl : List Pkt) (ws : List Int) (w : World) {lo hi lo' hi' : Nat} (h : TkD lo hi w pa pn pc va n vc ua m uc bs pl ws) (h' : TkD lo' hi' w pa' pn pc' va' n vc' ua' m uc' bs pl ws) (hhi : hi ≤ w.heap.size) (hhi' : hi' ≤ w.heap.size) (hbs : bs.length ≤ maxLen) :
    Calls Try.prog 35 #[.agg #[.int .i64 c, .int .i64 o, .int .i64 i, .int .i64 f, .int .i64 t, .slice pa pn pc, .int .i64 N, .slice va n vc, .slice ua m uc], .agg #[.int .i64 c, .int .i64 o, .int .i64 i, .int .i64 f, .int .i64 t, .slice pa' pn pc', .int .i64 N, .slice va' n vc', .slice ua' m uc']] w fun e w' => e = .returned (.bool true) ∧ Below w.heap.size w w' := by
  obtain ⟨_, _, _, L, h3, l1, h1, l2, h2, g1, g0, g2, g3, g4, g5, hB, hY⟩ := h
  obtain ⟨_, _, _, L', h3', l1', h1', l2', h2', g1', g0', g2', g3', g4', g5', hB', hY'⟩ := h'
  exact eqTakeAnswer_u c o i f t N _ _ _ _ _ _ _ _ _ _ _ _ _ _ _ bs L L' ws w (hY.bs hbs) (hY'.bs hbs) hB hB' (by rw [h3, h3']) (by omega) (by omega)

set_option maxHeartbeats 2000000 in
set_option maxRecDepth 100000 in
theorem markPacket_u (i f t : Int) (a : Option Addr) (cap : Nat) (bs : List Int) (w : World) {lo hi : Nat} (h : BytesN lo hi w (.slice a bs.length cap) bs) (hl : bs.length ≤ 1048576) :
    Calls Try.prog 81 #[.agg #[.int .i64 i, .int .i64 f, .int .i64 t, .slice a bs.length cap], .int .i64 1] w fun e w' => e = .returned (.int .i64 ((1 + bs.length : Nat) : Int)) ∧ BytesN lo hi w' (.slice a bs.length cap) (marksL 1 bs.length) ∧ Turned lo hi w w' := by
  have HP : Hid (∀ w', Below w.heap.size w w' → Calls Try.prog 20 #[.slice a bs.length cap, .int .i64 1] w' fun e w'' => e = .returned (.int .i64 ((1 + bs.length : Nat) : Int)) ∧ BytesN lo hi w'' (.slice a bs.length cap) (marksL 1 bs.length) ∧ Turned lo hi w w'') := fun w' hb => by
    have ho : Own w' lo (.slice a bs.length cap) bs := h.own.block fun k e => hb.block k (h.own.2.lt k e).2
    refine (markByteS_any _ bs 1 w' lo ho (by omega) (by omega)).mono fun e w'' ⟨h1, h2, h3⟩ => ⟨h1, ⟨h2, h.lt⟩, (Turned.of_below lo hi hb).trans (Turned.rows h3 fun k e => h.lt k e)⟩
  clear h
  have hb0 : Hid (Below w.heap.size w (w.alloc (.cells #[.int .i64 i, .int .i64 f, .int .i64 t, .slice a bs.length cap] 60))) := (Below.refl _ _).alloc (Nat.le_refl _) _
  go_enter Try.func81, Try.ntmps81
  go_wp2_with (go_at_call 20; refine (HP.out _ hb0.out).mono ?_; rintro e w1 ⟨rfl, hr1, ht1⟩; have HR1 : Hid (_ ∧ _) := And.intro hr1 ht1; clear hr1 ht1)
  go_ret
  exact ⟨rfl, HR1.out.1, HR1.out.2⟩
set_option maxHeartbeats 2000000 in
set_option maxRecDepth 100000 in
theorem heldPacket_u (i f t : Int) (a : Option Addr) (pn cap : Nat) (w : World) (h : Bs w (.slice a pn cap) (marksL 1 pn)) (hl : pn ≤ 1048576) :
    Calls Try.prog 82 #[.agg #[.int .i64 i, .int .i64 f, .int .i64 t, .slice a pn cap], .int .i64 1] w fun e w' => e = .returned (.int .i64 ((1 + pn : Nat) : Int)) ∧ Below w.heap.size w w' := by
  have HP : Hid (∀ w', Below w.heap.size w w' → Calls Try.prog 29 #[.slice a pn cap, .int .i64 1] w' fun e w'' => e = .returned (.int .i64 ((1 + pn : Nat) : Int)) ∧ w'' = w') := fun w' hb => heldByteS_any _ 1 pn w' (h.below hb) (by omega) (by omega)
  clear h
  have hb0 : Hid (Below w.heap.size w (w.alloc (.cells #[.int .i64 i, .int .i64 f, .int .i64 t, .slice a pn cap] 60))) := (Below.refl _ _).alloc (Nat.le_refl _) _
  go_enter Try.func82, Try.ntmps82
  go_wp2_with (go_at_call 29; refine (HP.out _ hb0.out).mono ?_; rintro e w1 ⟨rfl, rfl⟩)
  go_ret
  exact ⟨rfl, hb0.out⟩

theorem BagR.far2 {w w' : World} {lo hi l1 h1 : Nat} {v u : Value} {l : List Pk} {ws : List Int} (h : BagR l1 h1 w v u l ws) (ht : Turned lo hi w w') (hd : h1 ≤ lo ∨ hi ≤ l1) (hs : h1 ≤ w.heap.size) : BagR l1 h1 w' v u l ws := h.keep fun k a b => ht.block k (by omega) (by omega)
theorem BytesN.far2 {w w' : World} {lo hi l1 h1 : Nat} {v : Value} {l : List Int} (h : BytesN l1 h1 w v l) (ht : Turned lo hi w w') (hd : h1 ≤ lo ∨ hi ≤ l1) (hs : h1 ≤ w.heap.size) : BytesN l1 h1 w' v l := h.keep fun k a b => ht.block k (by omega) (by omega)
set_option maxHeartbeats 2000000 in
set_option maxRecDepth 100000 in
theorem markTakeAnswer_d (c o i f t N : Int) (pa : Option Addr) (pn pc : Nat) (va : Option Addr) (n vc : Nat) (ua : Option Addr) (m uc : Nat) (bs : List Int) (pl : List Pkt) (ws : List Int) (w : World) {lo hi : Nat} (h : TkD lo hi w pa pn pc va n vc ua m uc bs pl ws) (hlo : lo ≤ w.heap.size) (hhi : hi ≤ w.heap.size) (hbs : bs.length ≤ 1048576) (hp : pl.length ≤ 1100000) (hp2 : bulk pl ≤ 2200000) (hw : ws.length ≤ 1048576) :
    Calls Try.prog 36 #[.agg #[.int .i64 c, .int .i64 o, .int .i64 i, .int .i64 f, .int .i64 t, .slice pa pn pc, .int .i64 N, .slice va n vc, .slice ua m uc], .int .i64 1] w fun e w' => e = .returned (.int .i64 ((1 + pn + mkN pl + m : Nat) : Int)) ∧ TkM lo hi w' pa pn pc va n vc ua m uc pl ∧ Turned lo hi w w' := by
  obtain ⟨rfl, hn', rfl, L, rfl, l1, h1, l2, h2, g1, g0, g2, g3, g4, g5, hB, hY⟩ := h
  rw [cont_len] at hp
  clear hn'
  have HP : Hid (∀ w', Below w.heap.size w w' → Calls Try.prog 81 #[.agg #[.int .i64 i, .int .i64 f, .int .i64 t, .slice pa bs.length pc], .int .i64 1] w' fun e w'' => e = .returned (.int .i64 ((1 + bs.length : Nat) : Int)) ∧ BytesN l2 h2 w'' (.slice pa bs.length pc) (marksL 1 bs.length) ∧ Turned l2 h2 w' w'') := fun w' hb => markPacket_u i f t pa pc bs w' (hY.keep fun k a b => hb.block k (by omega)) hbs
  have HG : Hid (∀ w' w'', Below w.heap.size w w' → Turned l2 h2 w' w'' → ∀ z : Int, z = ((1 + bs.length : Nat) : Int) → Calls Try.prog 13 #[.agg #[.int .i64 N, .slice va n vc, .slice ua ws.length uc], .int .i64 z] w'' fun e w3 => e = .returned (.int .i64 ((1 + bs.length + mkN (cont L) + ws.length : Nat) : Int)) ∧ BagR l1 h1 w3 (.slice va n vc) (.slice ua ws.length uc) (mkPs (1 + bs.length) L) (mkIs (1 + bs.length + mkN (cont L)) ws.length) ∧ Turned l1 h1 w'' w3) := fun w' w'' hb ht z hz => by
    subst hz
    have hs := hb.size
    have hs2 := ht.size
    have hB2 : BagR l1 h1 w'' (.slice va n vc) (.slice ua ws.length uc) L ws := (hB.keep fun k a b => hb.block k (by omega)).far2 ht g5 (by omega)
    exact markBag_u N _ _ L ws (1 + bs.length) w'' hB2 (by omega) (by omega) hp hp2 hw (by omega)
  have HF : Hid (∀ w' w'' w3, Below w.heap.size w w' → BytesN l2 h2 w'' (.slice pa bs.length pc) (marksL 1 bs.length) → Turned l2 h2 w' w'' → BagR l1 h1 w3 (.slice va n vc) (.slice ua ws.length uc) (mkPs (1 + bs.length) L) (mkIs (1 + bs.length + mkN (cont L)) ws.length) → Turned l1 h1 w'' w3 → TkM lo hi w3 pa bs.length pc va n vc ua ws.length uc (cont L) ∧ Turned lo hi w w3) := fun w' w'' w3 hb hY' t1 hB' t2 => by
    have hs := hb.size
    have hs2 := t1.size
    exact ⟨⟨L, rfl, l1, h1, l2, h2, g1, g0, g2, g3, g4, g5, hB', hY'.far2 t2 (by omega) (by omega)⟩, (Turned.of_below lo hi hb).trans ((t1.wide g3 g4).trans (t2.wide g1 g2))⟩
  clear hB hY
  have hb0 : Hid (Below w.heap.size w (w.alloc (.cells #[.int .i64 c, .int .i64 o, .int .i64 i, .int .i64 f, .int .i64 t, .slice pa bs.length pc, .int .i64 N, .slice va n vc, .slice ua ws.length uc] 62))) := (Below.refl _ _).alloc (Nat.le_refl _) _
  have hso : h2 ≤ w.heap.size := by omega
  go_enter Try.func36, Try.ntmps36
  go_wp2_with (first
    | (go_at_call 81; refine (HP.out _ hb0.out).mono ?_; rintro e w1 ⟨rfl, hy1, ht1⟩; have HY1 : Hid (BytesN l2 h2 w1 (.slice pa bs.length pc) (marksL 1 bs.length)) := hy1; have HT1 : Hid (Turned l2 h2 _ w1) := ht1; have x6 : w1.cell? ⟨w.heap.size, 6, none⟩ = some (.int .i64 N) := (ht1.cell (b := w.heap.size) (o := 6) (by simp) (Or.inr hso)).trans (by simp [go_sem]); have x7 : w1.cell? ⟨w.heap.size, 7, none⟩ = some (.slice va n vc) := (ht1.cell (b := w.heap.size) (o := 7) (by simp) (Or.inr hso)).trans (by simp [go_sem]); have x8 : w1.cell? ⟨w.heap.size, 8, none⟩ = some (.slice ua ws.length uc) := (ht1.cell (b := w.heap.size) (o := 8) (by simp) (Or.inr hso)).trans (by simp [go_sem]); clear hy1 ht1)
    | (go_at_call 13; refine (HG.out _ _ hb0.out HT1.out _ (by omega)).mono ?_; rintro e w2 ⟨rfl, hb2, ht2⟩; have HH : Hid (_ ∧ _) := HF.out _ _ _ hb0.out HY1.out HT1.out hb2 ht2; clear hb2 ht2))
  go_ret
  exact ⟨rfl, HH.out.1, HH.out.2⟩

set_option maxHeartbeats 2000000 in
set_option maxRecDepth 100000 in
theorem heldTakeAnswer_d (c o i f t N : Int) (pa : Option Addr) (pn pc : Nat) (va : Option Addr) (n vc : Nat) (ua : Option Addr) (m uc : Nat) (pl : List Pkt) (w : World) {lo hi : Nat} (h : TkM lo hi w pa pn pc va n vc ua m uc pl) (hhi : hi ≤ w.heap.size) (hbs : pn ≤ 1048576) (hp : pl.length ≤ 1100000) (hp2 : bulk pl ≤ 2200000) (hw : m ≤ 1048576) :
    Calls Try.prog 37 #[.agg #[.int .i64 c, .int .i64 o, .int .i64 i, .int .i64 f, .int .i64 t, .slice pa pn pc, .int .i64 N, .slice va n vc, .slice ua m uc], .int .i64 1] w fun e w' => e = .returned (.int .i64 ((1 + pn + mkN pl + m : Nat) : Int)) ∧ Below w.heap.size w w' := by
  obtain ⟨L, rfl, l1, h1, l2, h2, g1, g0, g2, g3, g4, g5, hB, hY⟩ := h
  rw [cont_len] at hp
  have HP : Hid (∀ w', Below w.heap.size w w' → Calls Try.prog 82 #[.agg #[.int .i64 i, .int .i64 f, .int .i64 t, .slice pa pn pc], .int .i64 1] w' fun e w'' => e = .returned (.int .i64 ((1 + pn : Nat) : Int)) ∧ Below w'.heap.size w' w'') := fun w' hb => heldPacket_u i f t pa pn pc w' ((hY.bs (by rw [marksL_len]; unfold maxLen; omega)).below hb) hbs
  have HG : Hid (∀ w', Below w.heap.size w w' → ∀ z : Int, z = ((1 + pn : Nat) : Int) → Calls Try.prog 14 #[.agg #[.int .i64 N, .slice va n vc, .slice ua m uc], .int .i64 z] w' fun e w'' => e = .returned (.int .i64 ((1 + pn + mkN (cont L) + m : Nat) : Int)) ∧ Below w'.heap.size w' w'') := fun w' hb z hz => by
    subst hz
    have := hb.size
    exact heldBag_u N _ _ L m (1 + pn) w' (hB.keep fun k a b => hb.block k (by omega)) (by omega) hp hp2 hw (by omega)
  clear hB hY
  have hb0 : Hid (Below w.heap.size w (w.alloc (.cells #[.int .i64 c, .int .i64 o, .int .i64 i, .int .i64 f, .int .i64 t, .slice pa pn pc, .int .i64 N, .slice va n vc, .slice ua m uc] 62))) := (Below.refl _ _).alloc (Nat.le_refl _) _
  go_enter Try.func37, Try.ntmps37
  go_wp2_with (first
    | (go_at_call 82; refine (HP.out _ hb0.out).mono ?_; rintro e w1 ⟨rfl, hb1⟩; have HB1 : Hid (Below w.heap.size w w1) := hb0.out.trans (hb1.mono (by simp)); have x6 : w1.cell? ⟨w.heap.size, 6, none⟩ = some (.int .i64 N) := (hb1.cell (p := ⟨w.heap.size, 6, none⟩) (by simp)).trans (by simp [go_sem]); have x7 : w1.cell? ⟨w.heap.size, 7, none⟩ = some (.slice va n vc) := (hb1.cell (p := ⟨w.heap.size, 7, none⟩) (by simp)).trans (by simp [go_sem]); have x8 : w1.cell? ⟨w.heap.size, 8, none⟩ = some (.slice ua m uc) := (hb1.cell (p := ⟨w.heap.size, 8, none⟩) (by simp)).trans (by simp [go_sem]); clear hb1)
    | (go_at_call 14; refine (HG.out _ HB1.out _ (by omega)).mono ?_; rintro e w2 ⟨rfl, hb2⟩; have HB2 : Hid (Below w.heap.size w w2) := HB1.out.trans (hb2.mono HB1.out.size); clear hb2))
  go_ret
  exact ⟨rfl, HB2.out⟩
end Go.Proofs.Ytfcmffdljfljkaa

/-
  impl.BagTake.
-/
namespace Go.Proofs.Ytfcmffdljfljkaa
open Go.RowKit Go.Maps
set_option linter.unusedVariables false
set_option linter.unusedSimpArgs false

def noPk : Pkt := ⟨0, 0, 0, []⟩
/-- what a take answers -/
structure Taken where
  c : Int
  lost : Int
  p : Pkt
  n : Int
  pl : List Pkt
  ws : List Int
def takeAt (l : List Pkt) (pick : Int) : Nat := (modI pick l.length).toNat
def takeAns (n : Int) (l : List Pkt) (ws : List Int) (pick keep : Int) : Taken :=
  if bagB n l ws = false then ⟨1, 0, noPk, 0, [], []⟩ else if l.length = 0 then ⟨2, 0, noPk, n, l, ws⟩
  else ⟨0, if ws.contains (l.getD (takeAt l pick) noPk).fr || ws.contains (l.getD (takeAt l pick) noPk).tq then 1 else 0, l.getD (takeAt l pick) noPk, n, if keep = 0 then l.eraseIdx (takeAt l pick) else l, ws⟩
def TakeOf (w w' : World) (e : Ending) (x : Taken) : Prop :=
  ∃ pa pc va vc ua uc L, e = .returned (.agg #[.int .i64 x.c, .int .i64 x.lost, .int .i64 x.p.id, .int .i64 x.p.fr, .int .i64 x.p.tq, .slice pa x.p.bs.length pc, .int .i64 x.n, .slice va L.length vc, .slice ua x.ws.length uc]) ∧ cont L = x.pl ∧ TkR w.heap.size w'.heap.size w' (.slice pa x.p.bs.length pc) x.p.bs (.slice va L.length vc) (.slice ua x.ws.length uc) L x.ws ∧ Below w.heap.size w w'
theorem infoPkS : (Try.prog.info? 60).map (·.size) = some 4 := by kernel_rfl
theorem infoBagS : (Try.prog.info? 29).map (·.size) = some 3 := by kernel_rfl
theorem infoTk : (Try.prog.info? 62).map (·.size) = some 9 := by kernel_rfl
theorem takeAt_lt (l : List Pkt) (pick : Int) (h : 0 < l.length) : takeAt l pick < l.length ∧ modI pick l.length = (takeAt l pick : Int) := by
  have h1 := modI_ge pick l.length (by omega)
  have h2 := modI_lt pick l.length (by omega)
  unfold takeAt
  omega
theorem pkt_small {n : Int} {l : List Pkt} {ws : List Int} (h : bagB n l ws = true) : ∀ p ∈ l, (0 ≤ p.fr ∧ p.fr ≤ 1000) ∧ (0 ≤ p.tq ∧ p.tq ≤ 1000) := by
  simp only [bagB, Bool.and_eq_true, decide_eq_true_eq] at h
  have key : ∀ (l : List Pkt) (last : Int), pksB n last l = true → ∀ p ∈ l, (0 ≤ p.fr ∧ p.fr ≤ 1000) ∧ (0 ≤ p.tq ∧ p.tq ≤ 1000) := by
    intro l
    induction l with
    | nil => intro _ _ p hp; cases hp
    | cons q l ih =>
      intro last h p hp
      simp only [pksB, Bool.and_eq_true] at h
      rcases List.mem_cons.1 hp with rfl | hp
      · exact pkF_small h.1.2
      · exact ih _ h.2 p hp
  exact key l 0 h.1.2.2
theorem Own.ne_blk {w : World} {B : Nat} {v : Value} {l : List Int} {b : Nat} {C : Array Value} {t : TypeId} (h : Own w B v l) (hb : Blk w b C t) (ht : t ≠ 5) : ∀ k, v.ownBlock = some k → k ≠ b := by
  rcases h.2.2 with ⟨rfl, _⟩ | ⟨g, cap, cur, rfl, _, hh, _⟩
  · intro k e; cases e
  · rintro k e rfl
    injection e with e
    subst e
    rw [show w.heap[g]? = _ from hb] at hh
    injection hh with hh
    injection hh with _ h2 _
    exact ht h2
theorem IntsR.block' {w w' : World} {lo hi : Nat} {v : Value} {l : List Int} (h : IntsR lo hi w v l) (hk : ∀ k, v.ownBlock = some k → w'.heap[k]? = w.heap[k]?) : IntsR lo hi w' v l := by
  refine ⟨h.len, h.sh, fun h0 => ?_⟩
  obtain ⟨q, cap, e, h1, h2, h3, h4, h5⟩ := h.row h0
  have hb := hk q (by rw [e]; rfl)
  exact ⟨q, cap, e, h1, h2, lt_keepP hb h3, there_block' h4 hb, fun j hj => (World.cell?_of_block (w := w) hb).trans (h5 j hj)⟩
theorem cont_erase (L : List Pk) : ∀ i, cont (L.eraseIdx i) = (cont L).eraseIdx i := by
  induction L with
  | nil => intro i; rfl
  | cons p L ih =>
    intro i
    cases i with
    | zero => rfl
    | succ i => show p.1 :: cont (L.eraseIdx i) = p.1 :: (cont L).eraseIdx i; rw [ih]
/-- the packets behind a take -/
theorem take_u (q : Nat) (n : Int) (g cap : Nat) (L : List Pk) (ua : Option Addr) (um uc : Nat) (pick : Int) (keep : Bool) (w : World) (B : Nat)
    (hQ : Blk w q #[.int .i64 n, .slice (some ⟨g, 0, none⟩) L.length cap, .slice ua um uc] 29) (hO : OwnP w B (.slice (some ⟨g, 0, none⟩) L.length cap) L) (hlt : g < q ∧ ∀ p' ∈ L, ∀ k, p'.2.ownBlock = some k → k < q) (hL' : L.length ≤ 1048576) (hx : -(2 ^ 63) ≤ pick) (hX : pick < 2 ^ 63)
    (i : Nat) (hi : i < L.length) (hmod : modI pick L.length = (i : Int)) (pk : Pkt) (hpk : (cont L)[i]? = some pk) :
    Calls Try.prog 75 #[.pointer (some ⟨q, 0, none⟩), .int .i64 pick, .bool keep] w fun e w' => ∃ a4 c4 L', e = .returned (.agg #[.int .i64 pk.id, .int .i64 pk.fr, .int .i64 pk.tq, .slice a4 pk.bs.length c4]) ∧ cont L' = (if keep = true then cont L else (cont L).eraseIdx i) ∧ (∀ p ∈ L', p ∈ L) ∧
      Blk w' q #[.int .i64 n, .slice (some ⟨g, 0, none⟩) L'.length cap, .slice ua um uc] 29 ∧ PksR B q w' (.slice (some ⟨g, 0, none⟩) L'.length cap) L' ∧ Bs w' (.slice a4 pk.bs.length c4) pk.bs ∧ Touched (fun k => k = q ∨ k = g) w w' := by
  obtain ⟨a4, c4, he⟩ := (hO.bytes L[i] (List.getElem_mem hi)).1.shape
  have hpk' : L[i].1 = pk := by
    rw [cont, List.getElem?_map, List.getElem?_eq_getElem hi] at hpk
    injection hpk
  refine (takePacket_any q n g cap L ua um uc pick keep w B hQ hO (by omega) (by omega) hL' hx hX i hi hmod a4 c4 he).mono ?_
  rintro e w' ⟨rfl, h1, h2⟩
  rw [hpk'] at he ⊢
  have hbs := (hO.bytes L[i] (List.getElem_mem hi))
  rw [hpk', he] at hbs
  have hgw : g < w.heap.size := (World.ownsRow.lt hO.row g rfl).2
  cases keep
  · obtain ⟨g1, g2, g3, g4⟩ := h2 rfl
    have hlen : (L.eraseIdx i).length = L.length - 1 := List.length_eraseIdx_of_lt hi
    have hkeep : ∀ p ∈ L, ∀ k, p.2.ownBlock = some k → w'.heap[k]? = w.heap[k]? := fun p hp k e => by
      have := hlt.2 p hp k e
      refine g4.block k ((hO.bytes p hp).1.2.lt k e).2 ?_
      rintro (rfl | rfl)
      · omega
      · exact hO.off p hp _ e rfl
    refine ⟨a4, c4, L.eraseIdx i, rfl, by rw [if_neg (by simp)]; exact cont_erase L i, fun p hp => List.mem_of_mem_eraseIdx hp, by rw [hlen]; exact g1, ⟨by have := hO.caps.2; have := hO.caps.1; omega, ⟨_, _, rfl⟩, fun h0 => ⟨g, cap, rfl, (World.ownsRow.lt hO.row g rfl).1, hlt.1, Nat.lt_of_lt_of_le hgw g4.size, by rw [hlen]; exact g3, g2, fun p hp e => hO.off p (List.mem_of_mem_eraseIdx hp) g e rfl⟩, fun p hp => ?_, hO.apart.sublist (List.eraseIdx_sublist _ _)⟩, ?_, g4⟩
    · have hp' := List.mem_of_mem_eraseIdx hp
      exact ⟨⟨(hO.bytes p hp').1.block (hkeep p hp'), fun k e => ⟨((hO.bytes p hp').1.2.lt k e).1, hlt.2 p hp' k e⟩⟩, (hO.bytes p hp').2⟩
    · exact (hbs.1.block fun k e => hkeep L[i] (List.getElem_mem hi) k (by rw [he]; exact e)).bs hbs.2
  · have hb := h1 rfl
    have hr : PksR B q w (.slice (some ⟨g, 0, none⟩) L.length cap) L := by
      have := hO.r (by have := hO.caps; omega)
      refine ⟨this.len, this.sh, fun h0 => ?_, fun p hp => ⟨⟨(hO.bytes p hp).1, fun k e => ⟨((hO.bytes p hp).1.2.lt k e).1, hlt.2 p hp k e⟩⟩, (hO.bytes p hp).2⟩, this.apart⟩
      obtain ⟨q', cap', e, u1, u2, u3, u4⟩ := this.row h0
      injection e with e1 e2 e3
      injection e1 with e1
      injection e1 with e1
      subst e1 e3
      exact ⟨_, _, rfl, u1, hlt.1, u3, u4⟩
    refine ⟨a4, c4, L, rfl, rfl, fun p hp => hp, hQ.below hb hQ.lt, hr.keep fun k h1' h2' => hb.block k (by have := hQ.lt; omega), (hbs.1.bs hbs.2).below hb, Touched.of_below hb⟩

set_option maxHeartbeats 8000000 in
set_option maxRecDepth 100000 in
theorem bagTake_any (n : Int) (a : Option Addr) (cap : Nat) (a2 : Option Addr) (cap2 : Nat) (l : List Pk) (ws : List Int) (pick keep : Int) (hx : -(2 ^ 63) ≤ pick) (hX : pick < 2 ^ 63) (w : World) (hv : Pks w (.slice a l.length cap) l) (hu : Ix w (.slice a2 ws.length cap2) ws) (hl : l.length + bulk (cont l) ≤ 1048576) (hw : ws.length ≤ 1048576) :
    Calls Try.prog 31 #[.agg #[.int .i64 n, .slice a l.length cap, .slice a2 ws.length cap2], .int .i64 pick, .int .i64 keep] w fun e w' => TakeOf w w' e (takeAns n (cont l) ws pick keep) := by
  have HF : Hid (∀ w', Below w.heap.size w w' → Calls Try.prog 46 #[.agg #[.int .i64 n, .slice a l.length cap, .slice a2 ws.length cap2]] w' fun e w'' => e = .returned (.bool (bagB n (cont l) ws)) ∧ Below w'.heap.size w' w'') := fun w' h => bagFits_any n _ _ l ws w' (hv.below h) (hu.below h)
  have hb0 : Hid (Below w.heap.size w ((w.alloc (.cells #[.int .i64 n, .slice a l.length cap, .slice a2 ws.length cap2] 29)).alloc (.cells #[.int .i64 0, .int .i64 0, .int .i64 0, .int .i64 0, .int .i64 0, .slice none 0 0, .int .i64 0, .slice none 0 0, .slice none 0 0] 62))) := ((Below.refl _ _).alloc (Nat.le_refl _) _).alloc (by simp) _
  cases hbag : bagB n (cont l) ws
  · rw [hbag] at HF
    rw [show takeAns n (cont l) ws pick keep = ⟨1, 0, noPk, 0, [], []⟩ by simp [takeAns, hbag]]
    go_enter Try.func31, Try.ntmps31
    go_wp2_with (first
      | (go_at_call 46; refine (HF.out _ hb0.out).mono ?_; rintro e w1 ⟨rfl, hb1⟩; have HB1 : Hid (Below w.heap.size w w1) := hb0.out.trans (hb1.mono (by simp; omega)); have BX1 : Hid (Blk w1 w.heap.size #[.int .i64 n, .slice a l.length cap, .slice a2 ws.length cap2] 29) := ((Blk.new w _ _).alloc _).below hb1 (by simp; omega); have BR1 : Hid (Blk w1 (w.heap.size + 1) #[.int .i64 0, .int .i64 0, .int .i64 0, .int .i64 0, .int .i64 0, .slice none 0 0, .int .i64 0, .slice none 0 0, .slice none 0 0] 62) := (Blk.new' (w.alloc _) _ _ (by simp)).below hb1 (by simp); have hz1 : w.heap.size + 2 ≤ w1.heap.size := (by have := hb1.size; simp at this; omega); have x0 : w1.cell? ⟨w.heap.size, 0, none⟩ = some (.int .i64 n) := BX1.out.cell 0; have x1 : w1.cell? ⟨w.heap.size, 1, none⟩ = some (.slice a l.length cap) := BX1.out.cell 1; have x2 : w1.cell? ⟨w.heap.size, 2, none⟩ = some (.slice a2 ws.length cap2) := BX1.out.cell 2; clear hb1)
      | (have hBA := BR1; refine gate_st 62 (.tmp 6) _ rfl ?_; clear hBA; refine wpl_store_blk rfl 62 (.tmp 6) _ rfl (w.heap.size + 1) rfl rfl BR1.out infoTk rfl rfl (by simp [Value.oneCell']) ?_))
    refine bodyPost_ret (results_blk Try.results31 rfl (BR1.out.row _) Try.underlying62 rfl infoTk rfl) rfl ⟨none, 0, none, 0, none, 0, [], rfl, rfl, ⟨w.heap.size, w.heap.size, w.heap.size, w.heap.size, Nat.le_refl _, Nat.le_refl _, ?_, Nat.le_refl _, ?_, .inl (Nat.le_refl _), BagR.nil _ _ _, BytesN.nil _ _ _⟩, below_row HB1.out (by omega) _⟩
    all_goals (simp [World.setRow]; omega)
  rw [hbag] at HF
  obtain ⟨hn, hl4, hrng⟩ := bagB_facts hbag
  have HR : Hid (∀ y ∈ ws, 0 ≤ y ∧ y ≤ 1000) := hrng
  have HCB : Hid (∀ w', Below w.heap.size w w' → Calls Try.prog 47 #[.agg #[.int .i64 n, .slice a l.length cap, .slice a2 ws.length cap2]] w' fun e w'' => ∃ v u L, e = .returned (.agg #[.int .i64 n, v, u]) ∧ cont L = cont l ∧ OwnP w'' w'.heap.size v L ∧ OwnI w'' w'.heap.size u ws ∧ (∀ k, u.ownBlock = some k → v.ownBlock ≠ some k ∧ ∀ p ∈ L, p.2.ownBlock ≠ some k) ∧ Below w'.heap.size w' w'') := fun w' h => copyBag_any n a cap a2 cap2 l ws w' (hv.below h) (hu.below h) (by omega) (fun p hp => by have := bulk_mem (List.mem_map_of_mem (f := Prod.fst) hp); unfold cont at hl; omega) hw
  rw [cont_len] at hl4
  by_cases hl0 : l.length = 0
  · rw [show takeAns n (cont l) ws pick keep = ⟨2, 0, noPk, n, cont l, ws⟩ by simp [takeAns, hbag, cont_len, hl0]]
    have HL0 : Hid (l.length = 0) := hl0
    clear hbag hrng hv hu hl0
    go_enter Try.func31, Try.ntmps31
    go_wp2_with (first
      | (go_at_call 46; refine (HF.out _ hb0.out).mono ?_; rintro e w1 ⟨rfl, hb1⟩; have HB1 : Hid (Below w.heap.size w w1) := hb0.out.trans (hb1.mono (by simp; omega)); have BX1 : Hid (Blk w1 w.heap.size #[.int .i64 n, .slice a l.length cap, .slice a2 ws.length cap2] 29) := ((Blk.new w _ _).alloc _).below hb1 (by simp; omega); have BR1 : Hid (Blk w1 (w.heap.size + 1) #[.int .i64 0, .int .i64 0, .int .i64 0, .int .i64 0, .int .i64 0, .slice none 0 0, .int .i64 0, .slice none 0 0, .slice none 0 0] 62) := (Blk.new' (w.alloc _) _ _ (by simp)).below hb1 (by simp); have hz1 : w.heap.size + 2 ≤ w1.heap.size := (by have := hb1.size; simp at this; omega); have x0 : w1.cell? ⟨w.heap.size, 0, none⟩ = some (.int .i64 n) := BX1.out.cell 0; have x1 : w1.cell? ⟨w.heap.size, 1, none⟩ = some (.slice a l.length cap) := BX1.out.cell 1; have x2 : w1.cell? ⟨w.heap.size, 2, none⟩ = some (.slice a2 ws.length cap2) := BX1.out.cell 2; clear hb1)
      | (go_at_call 47; refine (HCB.out _ HB1.out).mono ?_; rintro e w2 ⟨v, u, L0, rfl, hcL, hO2, hI2, hd2, hb2⟩; obtain ⟨ua, uc, rfl⟩ := hI2.shape; obtain ⟨va, vc, rfl⟩ := hO2.shape; have hll : L0.length = 0 := (by rw [← cont_len L0, hcL, cont_len]; exact HL0.out); have HLL : Hid (L0.length = 0) := hll; have HO2 : Hid (OwnP w2 w1.heap.size (Value.slice va L0.length vc) L0) := hO2; have HI2 : Hid (OwnI w2 w1.heap.size (.slice ua ws.length uc) ws) := hI2; have HD2 : Hid (∀ k, (Value.slice ua ws.length uc).ownBlock = some k → (Value.slice va L0.length vc).ownBlock ≠ some k ∧ ∀ p ∈ L0, p.2.ownBlock ≠ some k) := hd2; have HB2 : Hid (Below w1.heap.size w1 w2) := hb2; have HCL : Hid (cont L0 = cont l) := hcL; have hz2 := hb2.size; have BR2 : Hid (Blk w2 (w.heap.size + 1) #[.int .i64 0, .int .i64 0, .int .i64 0, .int .i64 0, .int .i64 0, .slice none 0 0, .int .i64 0, .slice none 0 0, .slice none 0 0] 62) := BR1.out.below hb2 (by omega); have BX2 : Hid (Blk w2 w.heap.size #[.int .i64 n, .slice a l.length cap, .slice a2 ws.length cap2] 29) := BX1.out.below hb2 (by omega); clear hO2 hI2 hd2 hb2 hcL x0 x1 x2)
      | (have hBA := BR2; refine gate_st 62 (.tmp 6) _ rfl ?_; clear hBA; have BR3 : Hid (Blk (w2.alloc (.cells #[.int .i64 n, .slice va 0 vc, .slice ua ws.length uc] 29)) (w.heap.size + 1) #[.int .i64 0, .int .i64 0, .int .i64 0, .int .i64 0, .int .i64 0, .slice none 0 0, .int .i64 0, .slice none 0 0, .slice none 0 0] 62) := BR2.out.alloc _; refine wpl_store_blk rfl 62 (.tmp 6) _ rfl (w.heap.size + 1) rfl rfl BR3.out infoTk rfl rfl (by simp [Value.oneCell']) ?_))
    refine bodyPost_ret (results_blk Try.results31 rfl (BR3.out.row _) Try.underlying62 rfl infoTk rfl) rfl ⟨none, 0, va, vc, ua, uc, L0, by rw [HLL.out]; rfl, HCL.out, ⟨w1.heap.size, w2.heap.size, w2.heap.size, w2.heap.size, by omega, hz2, ?_, by omega, ?_, .inl (Nat.le_refl _), ?_, BytesN.nil _ _ _⟩, below_row ((HB1.out.trans (HB2.out.mono (by omega))).alloc (by omega) _) (by omega) _⟩
    · simp [World.setRow]
    · simp [World.setRow]
    · have hb := BagR.own HO2.out HI2.out HD2.out (by rw [HLL.out]; unfold maxLen; omega) (by unfold maxLen; omega)
      rw [HLL.out] at hb ⊢
      exact hb.keep fun k h1 h2 => by rw [setRow_other _ _ _ _ (by omega), Below.heap_alloc w2 _ k h2]
  · have HPOS : Hid (0 < l.length) := by show 0 < _; omega
    obtain ⟨hi', hmod⟩ := takeAt_lt (cont l) pick (by rw [cont_len]; omega)
    rw [cont_len] at hi' hmod
    obtain ⟨i, hi0⟩ : ∃ i, i = takeAt (cont l) pick := ⟨_, rfl⟩
    rw [← hi0] at hi' hmod
    obtain ⟨pk, hpk⟩ : ∃ pk, (cont l)[i]? = some pk := ⟨_, List.getElem?_eq_getElem (by rw [cont_len]; exact hi')⟩
    have hmem : pk ∈ cont l := List.mem_of_getElem? hpk
    have HPS : Hid ((0 ≤ pk.fr ∧ pk.fr ≤ 1000) ∧ (0 ≤ pk.tq ∧ pk.tq ≤ 1000)) := pkt_small hbag pk hmem
    have hpl : pk.bs.length ≤ 1048576 := by have := bulk_mem hmem; omega
    obtain ⟨kp, hkp⟩ : ∃ kp, kp = (keep != 0) := ⟨_, rfl⟩
    obtain ⟨PL, hPL⟩ : ∃ PL, (if kp = true then cont l else (cont l).eraseIdx i) = PL := ⟨_, rfl⟩
    have hif : (if keep = 0 then (cont l).eraseIdx i else cont l) = PL := by
      rw [← hPL, hkp]
      by_cases h : keep = 0 <;> simp [h]
    have HU : Hid (∀ w', Below w.heap.size w w' → Calls Try.prog 76 #[.slice a2 ws.length cap2] w' fun e w'' => e = .returned (.map (some w'.heap.size)) ∧ SetAt w'' w'.heap.size ws ∧ Below w'.heap.size w' w'') := fun w' hb => wallsOf_any _ ws w' (hu.below hb) HR.out hw
    rw [show takeAns n (cont l) ws pick keep = ⟨0, if (ws.contains pk.fr || ws.contains pk.tq) = true then 1 else 0, pk, n, PL, ws⟩ by
      simp only [takeAns, hbag, Bool.true_eq_false, if_false, cont_len, hl0, ← hi0, List.getD_eq_getElem?_getD, hpk, Option.getD_some, hif]]
    have HMOD : Hid (modI pick l.length = (i : Int)) := hmod
    have HPK : Hid ((cont l)[i]? = some pk) := hpk
    have HPL : Hid ((if kp = true then cont l else (cont l).eraseIdx i) = PL) := hPL
    clear hbag hrng hv hu hl0 hi0 hmod hpk hmem hPL hif
    have hkp' : (keep != 0) = kp := hkp.symm
    clear hkp
    cases hlo : (ws.contains pk.fr || ws.contains pk.tq)
    · have HL : Hid (∀ (u : World) (b : Nat), SetAt u b ws → Calls Try.prog 77 #[.map (some b), .int .i64 pk.fr, .int .i64 pk.tq] u fun e w' => e = .returned (.bool false) ∧ Below u.heap.size u w') := fun u b h => by rw [← hlo]; exact lose_any b ws _ _ u h HPS.out.1 HPS.out.2
      clear hlo
      rw [if_neg (by simp)]
      go_enter Try.func31, Try.ntmps31
      go_wp2_with (first
        | (go_at_call 46; refine (HF.out _ hb0.out).mono ?_; rintro e w1 ⟨rfl, hb1⟩; have HB1 : Hid (Below w.heap.size w w1) := hb0.out.trans (hb1.mono (by simp; omega)); have BX1 : Hid (Blk w1 w.heap.size #[.int .i64 n, .slice a l.length cap, .slice a2 ws.length cap2] 29) := ((Blk.new w _ _).alloc _).below hb1 (by simp; omega); have BR1 : Hid (Blk w1 (w.heap.size + 1) #[.int .i64 0, .int .i64 0, .int .i64 0, .int .i64 0, .int .i64 0, .slice none 0 0, .int .i64 0, .slice none 0 0, .slice none 0 0] 62) := (Blk.new' (w.alloc _) _ _ (by simp)).below hb1 (by simp); have hz1 : w.heap.size + 2 ≤ w1.heap.size := (by have := hb1.size; simp at this; omega); have x0 : w1.cell? ⟨w.heap.size, 0, none⟩ = some (.int .i64 n) := BX1.out.cell 0; have x1 : w1.cell? ⟨w.heap.size, 1, none⟩ = some (.slice a l.length cap) := BX1.out.cell 1; have x2 : w1.cell? ⟨w.heap.size, 2, none⟩ = some (.slice a2 ws.length cap2) := BX1.out.cell 2; clear hb1)
        | (go_at_call 47; refine (HCB.out _ HB1.out).mono ?_; rintro e w2 ⟨v, u, L0, rfl, hcL, hO2, hI2, hd2, hb2⟩; obtain ⟨ua, uc, rfl⟩ := hI2.shape; obtain ⟨g, vc, rfl⟩ := hO2.shape' (by rw [← cont_len L0, hcL, cont_len]; exact HPOS.out); have HLL : Hid (L0.length = l.length) := (by show _ = _; rw [← cont_len L0, hcL, cont_len]); have HL1 : Hid (¬ L0.length = 0) := (by show ¬ _; rw [HLL.out]; have := HPOS.out; omega); have hl1 : ¬ L0.length = 0 := HL1.out; have HGL : Hid (g < w2.heap.size) := hO2.lts.1 g rfl; have HO2 : Hid (OwnP w2 w1.heap.size (Value.slice (some ⟨g, 0, none⟩) L0.length vc) L0) := hO2; have HI2 : Hid (OwnI w2 w1.heap.size (.slice ua ws.length uc) ws) := hI2; have HD2 : Hid (∀ k, (Value.slice ua ws.length uc).ownBlock = some k → (Value.slice (some ⟨g, 0, none⟩) L0.length vc).ownBlock ≠ some k ∧ ∀ p ∈ L0, p.2.ownBlock ≠ some k) := hd2; have HB2 : Hid (Below w1.heap.size w1 w2) := hb2; have HCL : Hid (cont L0 = cont l) := hcL; have hz2 := hb2.size; have BR2 : Hid (Blk w2 (w.heap.size + 1) #[.int .i64 0, .int .i64 0, .int .i64 0, .int .i64 0, .int .i64 0, .slice none 0 0, .int .i64 0, .slice none 0 0, .slice none 0 0] 62) := BR1.out.below hb2 (by omega); have BX2 : Hid (Blk w2 w.heap.size #[.int .i64 n, .slice a l.length cap, .slice a2 ws.length cap2] 29) := BX1.out.below hb2 (by omega); clear hO2 hI2 hd2 hb2 hcL x0 x1 x2)
        | (go_at_call 75; clear hl1; refine (take_u w2.heap.size n g vc L0 ua ws.length uc pick kp _ w1.heap.size (Blk.new w2 _ _) (HO2.out.below ((Below.refl _ _).alloc (Nat.le_refl _) _)) ⟨HGL.out, HO2.out.lts.2⟩ (by have := HLL.out; omega) hx hX i (by have := HLL.out; omega) (by rw [HLL.out]; exact HMOD.out) pk (by rw [HCL.out]; exact HPK.out)).mono ?_; rintro e w4 ⟨a4, c4, L', rfl, hcL', hsub', hQ4, hR4, hS4, hT4⟩; rw [HCL.out, HPL.out] at hcL'; have hs4 : w2.heap.size + 1 ≤ w4.heap.size := (by have := hT4.size; simpa using this); have HCL' : Hid (cont L' = PL) := hcL'; have HSB : Hid (∀ p ∈ L', p ∈ L0) := hsub'; have HQ4 : Hid (Blk w4 w2.heap.size #[.int .i64 n, .slice (some ⟨g, 0, none⟩) L'.length vc, .slice ua ws.length uc] 29) := hQ4; have HR4 : Hid (PksR w1.heap.size w2.heap.size w4 (.slice (some ⟨g, 0, none⟩) L'.length vc) L') := hR4; have HS4 : Hid (Bs w4 (.slice a4 pk.bs.length c4) pk.bs) := hS4; have HT4 : Hid (Touched (fun k => k = w2.heap.size ∨ k = g) _ w4) := hT4; have BX4 : Hid (Blk w4 w.heap.size #[.int .i64 n, .slice a l.length cap, .slice a2 ws.length cap2] 29) := (BX2.out.alloc _).keep (hT4.block _ (by simp; omega) (by have := (World.ownsRow.lt HO2.out.row g rfl).1; omega)); have BR4 : Hid (Blk w4 (w.heap.size + 1) #[.int .i64 0, .int .i64 0, .int .i64 0, .int .i64 0, .int .i64 0, .slice none 0 0, .int .i64 0, .slice none 0 0, .slice none 0 0] 62) := (BR2.out.alloc _).keep (hT4.block _ (by simp; omega) (by have := (World.ownsRow.lt HO2.out.row g rfl).1; omega)); clear hcL' hsub' hQ4 hR4 hS4 hT4))
      obtain ⟨W5, hW5⟩ : ∃ W5, W5 = w4.alloc (.cells #[.int .i64 pk.id, .int .i64 pk.fr, .int .i64 pk.tq, .slice a4 pk.bs.length c4] 60) := ⟨_, rfl⟩
      rw [← hW5]
      have BP5 : Blk W5 w4.heap.size #[.int .i64 pk.id, .int .i64 pk.fr, .int .i64 pk.tq, .slice a4 pk.bs.length c4] 60 := by rw [hW5]; exact Blk.new _ _ _
      have BQ5 : Blk W5 w2.heap.size #[.int .i64 n, .slice (some ⟨g, 0, none⟩) L'.length vc, .slice ua ws.length uc] 29 := by rw [hW5]; exact HQ4.out.alloc _
      have BX5 : Hid (Blk W5 w.heap.size #[.int .i64 n, .slice a l.length cap, .slice a2 ws.length cap2] 29) := by show Blk _ _ _ _; rw [hW5]; exact BX4.out.alloc _
      have BR5 : Hid (Blk W5 (w.heap.size + 1) #[.int .i64 0, .int .i64 0, .int .i64 0, .int .i64 0, .int .i64 0, .slice none 0 0, .int .i64 0, .slice none 0 0, .slice none 0 0] 62) := by show Blk _ _ _ _; rw [hW5]; exact BR4.out.alloc _
      have HS5 : Hid (Bs W5 (.slice a4 pk.bs.length c4) pk.bs) := by show Bs _ _ _; rw [hW5]; exact HS4.out.below ((Below.refl _ _).alloc (Nat.le_refl _) _)
      have hz5 : W5.heap.size = w4.heap.size + 1 := by rw [hW5]; simp
      have HB5 : Hid (Below w4.heap.size w4 W5) := by show Below _ _ _; rw [hW5]; exact (Below.refl _ _).alloc (Nat.le_refl _) _
      clear hW5
      refine wp_named ?_
      intro a0 ha0
      have hsz0 : a0.tmps.size = 40 := by rw [ha0]; rfl
      have e7 : a0.eval (.tmp 7) = .pointer (some ⟨w2.heap.size, 0, none⟩) := by rw [ha0]; rfl
      have e8 : a0.eval (.tmp 8) = .pointer (some ⟨w4.heap.size, 0, none⟩) := by rw [ha0]; rfl
      have HA0 : Hid (a0 = _) := ha0
      clear ha0
      refine wp_region_inv (by kernel_rfl) (fun L aF w' => ∃ x : Nat → Value, aF = frame a0 [26, 27, 28, 29, 9] x ∧ Below W5.heap.size W5 w' ∧ (L.getD 0 false = true → x 26 = .agg #[.int .i64 pk.id, .int .i64 pk.fr, .int .i64 pk.tq, .slice a4 pk.bs.length c4]) ∧ (L.getD 1 false = true → ∃ a7 c7, x 27 = .agg #[.int .i64 pk.id, .int .i64 pk.fr, .int .i64 pk.tq, .slice a7 pk.bs.length c7] ∧ Own w' W5.heap.size (.slice a7 pk.bs.length c7) pk.bs) ∧ (L.getD 2 false = true → x 28 = .agg #[.int .i64 n, .slice (some ⟨g, 0, none⟩) L'.length vc, .slice ua ws.length uc]) ∧ (L.getD 3 false = true → ∃ a7 c7, x 29 = .agg #[.int .i64 0, .int .i64 0, .int .i64 pk.id, .int .i64 pk.fr, .int .i64 pk.tq, .slice a7 pk.bs.length c7, .int .i64 n, .slice (some ⟨g, 0, none⟩) L'.length vc, .slice ua ws.length uc] ∧ Own w' W5.heap.size (.slice a7 pk.bs.length c7) pk.bs) ∧ (L.getD 4 false = true → ∃ p C, x 9 = .pointer (some ⟨p, 0, none⟩) ∧ W5.heap.size ≤ p ∧ Blk w' p C 62 ∧ C.size = 9 ∧ (L.getD 5 false = true → ∃ a7 c7, C = #[.int .i64 0, .int .i64 0, .int .i64 pk.id, .int .i64 pk.fr, .int .i64 pk.tq, .slice a7 pk.bs.length c7, .int .i64 n, .slice (some ⟨g, 0, none⟩) L'.length vc, .slice ua ws.length uc] ∧ Own w' W5.heap.size (.slice a7 pk.bs.length c7) pk.bs)) ∧ (L.getD 5 false = true → L.getD 4 false = true)) ?_ ?_ ?_
      · exact ⟨_, frame_self a0 [26, 27, 28, 29, 9], (Below.refl _ _).drew, fun h => (noBit h).elim, fun h => (noBit h).elim, fun h => (noBit h).elim, fun h => (noBit h).elim, fun h => (noBit h).elim, fun h => (noBit h).elim⟩
      · rintro L a w' i hsL hi ⟨x, rfl, hB, h0, h1, h2, h3, h4, h5⟩
        have hiL : i < 6 := (ready_mem hsL hi).1
        have hL : L.size = 6 := hsL
        have hw' : W5.heap.size ≤ w'.heap.size := hB.size
        rcases (show i = 0 ∨ i = 1 ∨ i = 2 ∨ i = 3 ∨ i = 4 ∨ i = 5 by omega) with rfl | rfl | rfl | rfl | rfl | rfl
        · skip
          refine wpOp_plain rfl rfl (wp_load_blk 60 (.tmp 8) rfl (w4.heap.size) ((frame_eval _ _ _ 8 rfl).trans e8) (BP5.below hB BP5.lt) Try.underlying60 rfl infoPkS rfl ?_)
          exact ⟨_, frame_put _ _ _ 26 _ rfl, hB, fun h => upd_same _ _ _, fun h => by rw [upd_ne _ _ _ _ (by decide)]; exact (h1 (keepBit h (by omega) (by decide))), fun h => by rw [upd_ne _ _ _ _ (by decide)]; exact (h2 (keepBit h (by omega) (by decide))), fun h => by rw [upd_ne _ _ _ _ (by decide)]; exact (h3 (keepBit h (by omega) (by decide))), fun h => by obtain ⟨p, C, ep, hp, hP, hC, hR⟩ := h4 (keepBit h (by omega) (by decide)); exact ⟨p, C, (upd_ne _ _ _ _ (by decide)).trans ep, hp, hP, hC, fun hq6 => (hR (keepBit hq6 (by omega) (by decide)))⟩, fun h => setBit (h5 (keepBit h (by omega) (by decide))) (by omega)⟩
        · have d0 := h0 (ready_needs hi (by decide))
          have ev26 := (frame_eval_in a0 [26, 27, 28, 29, 9] x 26 rfl (by omega)).trans d0
          refine wpOp_plain rfl rfl (wp_call_go (N := 59) rfl (fun _ _ => by go_simp) #[.agg #[.int .i64 pk.id, .int .i64 pk.fr, .int .i64 pk.tq, .slice a4 pk.bs.length c4]] (by simp only [List.map_toArray, List.map_cons, List.map_nil, ev26]) ?_)
          refine Calls.mono (copyPacket_any _ _ _ _ pk.bs _ (HS5.out.below hB) hpl) ?_
          rintro e w2 ⟨a7, c7, rfl, ho, hb⟩
          refine ⟨_, rfl, ?_⟩
          exact ⟨_, frame_put _ _ _ 27 _ rfl, hB.trans (hb.mono hw'), fun h => by rw [upd_ne _ _ _ _ (by decide)]; exact (h0 (keepBit h (by omega) (by decide))), fun h => ⟨a7, c7, upd_same _ _ _, ho.le hw'⟩, fun h => by rw [upd_ne _ _ _ _ (by decide)]; exact (h2 (keepBit h (by omega) (by decide))), fun h => by rw [upd_ne _ _ _ _ (by decide)]; exact (by obtain ⟨a7, c7, ey, ho⟩ := (h3 (keepBit h (by omega) (by decide))); exact ⟨a7, c7, ey, ho.below hb⟩), fun h => by obtain ⟨p, C, ep, hp, hP, hC, hR⟩ := h4 (keepBit h (by omega) (by decide)); exact ⟨p, C, (upd_ne _ _ _ _ (by decide)).trans ep, hp, hP.below hb hP.lt, hC, fun hq6 => (by obtain ⟨a7, c7, ey, ho⟩ := (hR (keepBit hq6 (by omega) (by decide))); exact ⟨a7, c7, ey, ho.below hb⟩)⟩, fun h => setBit (h5 (keepBit h (by omega) (by decide))) (by omega)⟩
        · skip
          refine wpOp_plain rfl rfl (wp_load_blk 29 (.tmp 7) rfl (w2.heap.size) ((frame_eval _ _ _ 7 rfl).trans e7) (BQ5.below hB BQ5.lt) Try.underlying29 rfl infoBagS rfl ?_)
          exact ⟨_, frame_put _ _ _ 28 _ rfl, hB, fun h => by rw [upd_ne _ _ _ _ (by decide)]; exact (h0 (keepBit h (by omega) (by decide))), fun h => by rw [upd_ne _ _ _ _ (by decide)]; exact (h1 (keepBit h (by omega) (by decide))), fun h => upd_same _ _ _, fun h => by rw [upd_ne _ _ _ _ (by decide)]; exact (h3 (keepBit h (by omega) (by decide))), fun h => by obtain ⟨p, C, ep, hp, hP, hC, hR⟩ := h4 (keepBit h (by omega) (by decide)); exact ⟨p, C, (upd_ne _ _ _ _ (by decide)).trans ep, hp, hP, hC, fun hq6 => (hR (keepBit hq6 (by omega) (by decide)))⟩, fun h => setBit (h5 (keepBit h (by omega) (by decide))) (by omega)⟩
        · have d1 := h1 (ready_needs hi (by decide))
          have d2 := h2 (ready_needs hi (by decide))
          obtain ⟨a7, c7, ey, ho7⟩ := d1
          have ev27 : (frame a0 [26, 27, 28, 29, 9] x).tmps[27]?.getD undef = .agg #[.int .i64 pk.id, .int .i64 pk.fr, .int .i64 pk.tq, .slice a7 pk.bs.length c7] := by have h := (frame_eval_in a0 [26, 27, 28, 29, 9] x 27 rfl (by omega)).trans ey; simpa [Act.eval] using h
          have ev28 : (frame a0 [26, 27, 28, 29, 9] x).tmps[28]?.getD undef = .agg #[.int .i64 n, .slice (some ⟨g, 0, none⟩) L'.length vc, .slice ua ws.length uc] := by have h := (frame_eval_in a0 [26, 27, 28, 29, 9] x 28 rfl (by omega)).trans d2; simpa [Act.eval] using h
          refine wpOp_plain rfl rfl (wp_value_go (v := .agg #[.int .i64 0, .int .i64 0, .int .i64 pk.id, .int .i64 pk.fr, .int .i64 pk.tq, .slice a7 pk.bs.length c7, .int .i64 n, .slice (some ⟨g, 0, none⟩) L'.length vc, .slice ua ws.length uc]) ?_ ?_)
          · obtain ⟨aa, haa⟩ : ∃ aa, aa = frame a0 [26, 27, 28, 29, 9] x := ⟨_, rfl⟩
            rw [← haa] at ev27 ev28 ⊢
            clear haa HA0
            go_simp
          exact ⟨_, frame_put _ _ _ 29 _ rfl, hB, fun h => by rw [upd_ne _ _ _ _ (by decide)]; exact (h0 (keepBit h (by omega) (by decide))), fun h => by rw [upd_ne _ _ _ _ (by decide)]; exact (h1 (keepBit h (by omega) (by decide))), fun h => by rw [upd_ne _ _ _ _ (by decide)]; exact (h2 (keepBit h (by omega) (by decide))), fun h => ⟨a7, c7, upd_same _ _ _, ho7⟩, fun h => by obtain ⟨p, C, ep, hp, hP, hC, hR⟩ := h4 (keepBit h (by omega) (by decide)); exact ⟨p, C, (upd_ne _ _ _ _ (by decide)).trans ep, hp, hP, hC, fun hq6 => (hR (keepBit hq6 (by omega) (by decide)))⟩, fun h => setBit (h5 (keepBit h (by omega) (by decide))) (by omega)⟩
        · skip
          refine wpOp_plain rfl rfl (wp_alloc_go 62 #[.int .i64 0, .int .i64 0, .int .i64 0, .int .i64 0, .int .i64 0, .slice none 0 0, .int .i64 0, .slice none 0 0, .slice none 0 0] rfl (fun _ => by go_simp) ?_)
          have hb : Below w'.heap.size w' (w'.alloc (.cells #[.int .i64 0, .int .i64 0, .int .i64 0, .int .i64 0, .int .i64 0, .slice none 0 0, .int .i64 0, .slice none 0 0, .slice none 0 0] 62)) := (Below.refl _ _).alloc (Nat.le_refl _) _
          exact ⟨_, frame_put _ _ _ 9 _ rfl, hB.alloc hw' _, fun h => by rw [upd_ne _ _ _ _ (by decide)]; exact (h0 (keepBit h (by omega) (by decide))), fun h => by rw [upd_ne _ _ _ _ (by decide)]; exact (by obtain ⟨a7, c7, ey, ho⟩ := (h1 (keepBit h (by omega) (by decide))); exact ⟨a7, c7, ey, ho.below hb⟩), fun h => by rw [upd_ne _ _ _ _ (by decide)]; exact (h2 (keepBit h (by omega) (by decide))), fun h => by rw [upd_ne _ _ _ _ (by decide)]; exact (by obtain ⟨a7, c7, ey, ho⟩ := (h3 (keepBit h (by omega) (by decide))); exact ⟨a7, c7, ey, ho.below hb⟩), fun h => ⟨_, _, upd_same _ _ _, hw', Blk.new _ _ _, rfl, fun hq6 => (readyBit hsL hi (h5 (keepBit hq6 (by omega) (by decide)))).elim⟩, fun h => setSelf (by omega)⟩
        · have d3 := h3 (ready_needs hi (by decide))
          have d4 := h4 (ready_needs hi (by decide))
          obtain ⟨p, C, ep, hp, hP, hC, hR⟩ := d4
          obtain ⟨a7, c7, ey, ho7⟩ := d3
          have evp := (frame_eval_in a0 [26, 27, 28, 29, 9] x 9 rfl (by omega)).trans ep
          have evs := (frame_eval_in a0 [26, 27, 28, 29, 9] x 29 rfl (by omega)).trans ey
          refine wpOp_plain rfl rfl (wp_store_blk 62 (.tmp 9) (.tmp 29) rfl p evp evs hP infoTk rfl hC (by simp [Value.oneCell']) ?_)
          exact ⟨_, rfl, below_row hB hp _, fun h => (h0 (keepBit h (by omega) (by decide))), fun h => (by obtain ⟨a7, c7, ey, ho⟩ := (h1 (keepBit h (by omega) (by decide))); exact ⟨a7, c7, ey, ho.block fun k hk => setRow_other _ _ _ _ (ho.ne_blk hP (by decide) k hk)⟩), fun h => (h2 (keepBit h (by omega) (by decide))), fun h => (by obtain ⟨a7, c7, ey, ho⟩ := (h3 (keepBit h (by omega) (by decide))); exact ⟨a7, c7, ey, ho.block fun k hk => setRow_other _ _ _ _ (ho.ne_blk hP (by decide) k hk)⟩), fun h => ⟨p, _, ep, hp, hP.row _, rfl, fun _ => ⟨a7, c7, rfl, ho7.block fun k hk => setRow_other _ _ _ _ (ho7.ne_blk hP (by decide) k hk)⟩⟩, fun h => setBit (ready_needs hi (by decide)) (by omega)⟩
      · rintro L a w' hsL hr ⟨x, rfl, hB, h0, h1, h2, h3, h4, h5⟩
        have hall := ready_nil hsL hr (by decide)
        replace h0 := h0 (hall 0 (by decide))
        replace h1 := h1 (hall 1 (by decide))
        replace h2 := h2 (hall 2 (by decide))
        replace h3 := h3 (hall 3 (by decide))
        replace h4 := h4 (hall 4 (by decide))
        replace h5 := h5 (hall 5 (by decide))
        obtain ⟨p, C, ep, hp, hP, hC, hR⟩ := h4
        replace hR := hR (hall 5 (by decide))
        rw [HA0.out]
        simp only [frame, List.zipIdx_cons, List.zipIdx_nil, List.map_cons, List.map_nil, List.contains_cons, List.contains_nil, Nat.reduceBEq, Nat.reduceAdd, Bool.or_false, Bool.false_or, Bool.or_true, Bool.true_or, Bool.false_eq_true, if_false, if_true, h0, h2, ep]
        obtain ⟨a7, c7, rfl, ho7⟩ := hR
        have HO7 : Hid (Own w' W5.heap.size (.slice a7 pk.bs.length c7) pk.bs) := ho7
        have HPP : Hid (Blk w' p #[.int .i64 0, .int .i64 0, .int .i64 pk.id, .int .i64 pk.fr, .int .i64 pk.tq, .slice a7 pk.bs.length c7, .int .i64 n, .slice (some ⟨g, 0, none⟩) L'.length vc, .slice ua ws.length uc] 62) := hP
        have HBX : Hid (Blk w' w.heap.size #[.int .i64 n, .slice a l.length cap, .slice a2 ws.length cap2] 29) := BX5.out.below hB BX5.out.lt
        have HBR : Hid (Blk w' (w.heap.size + 1) #[.int .i64 0, .int .i64 0, .int .i64 0, .int .i64 0, .int .i64 0, .slice none 0 0, .int .i64 0, .slice none 0 0, .slice none 0 0] 62) := BR5.out.below hB BR5.out.lt
        have HBP : Hid (Blk w' w4.heap.size #[.int .i64 pk.id, .int .i64 pk.fr, .int .i64 pk.tq, .slice a4 pk.bs.length c4] 60) := BP5.below hB BP5.lt
        have HBB : Hid (Below W5.heap.size W5 w') := hB
        have hz7 := hB.size
        have HBW : Hid (Below w.heap.size w w') := by
          have h45 : Below w.heap.size w4 w' := (HB5.out.mono (by omega)).trans (hB.mono (by omega))
          have h24 : Below w.heap.size (w2.alloc (.cells #[.int .i64 n, Value.slice (some ⟨g, 0, none⟩) L0.length vc, .slice ua ws.length uc] 29)) w4 := ⟨HT4.out.os, HT4.out.tape, HT4.out.output, HT4.out.size, fun k hk => HT4.out.block k (by simp; omega) (by have := (World.ownsRow.lt HO2.out.row g rfl).1; omega)⟩
          exact (((HB1.out.trans (HB2.out.mono (by omega))).alloc (by omega) _).trans h24).trans h45
        have HBG : Hid (BagR w1.heap.size w2.heap.size w' (.slice (some ⟨g, 0, none⟩) L'.length vc) (.slice ua ws.length uc) L' ws) := by
          have h4 : BagR w1.heap.size w2.heap.size w4 (.slice (some ⟨g, 0, none⟩) L'.length vc) (.slice ua ws.length uc) L' ws := ⟨HR4.out, (HI2.out.r (by unfold maxLen; omega)).block' fun k e => by
            have hk := World.ownsRow.lt HI2.out k e
            have hd := (HD2.out k e).1
            rw [HT4.out.block k (by simp; omega) (by rintro (h | h); omega; exact hd (by rw [h]; rfl)), Below.heap_alloc w2 _ k hk.2], fun _ k e hk => by
            rcases hk with ⟨_, e'⟩ | ⟨p, hp, e'⟩
            · exact (HD2.out k e).1 e'
            · exact (HD2.out k e).2 p (HSB.out p hp) e'⟩
          exact h4.keep fun k h1 h2 => by rw [hB.block k (by omega), HB5.out.block k (by omega)]
        have HYN : Hid (BytesN W5.heap.size w'.heap.size w' (.slice a7 pk.bs.length c7) pk.bs) := ⟨ho7, fun k e => ho7.2.lt k e⟩
        have x2 : w'.cell? ⟨w.heap.size, 2, none⟩ = some (.slice a2 ws.length cap2) := HBX.out.cell 2
        have y1 : w'.cell? ⟨w4.heap.size, 1, none⟩ = some (.int .i64 pk.fr) := HBP.out.cell 1
        have y2 : w'.cell? ⟨w4.heap.size, 2, none⟩ = some (.int .i64 pk.tq) := HBP.out.cell 2
        have hpw := hP.lt
        clear ho7 hP hC h0 h1 h2 h3 h5 hall hr hsL HA0 hsz0 e7 e8 hB BP5 BQ5 ep
        go_wp2_with (fail)
        go_region_held3 (fun u => u.cell? ⟨w.heap.size, 2, none⟩ = some (.slice a2 ws.length cap2) ∧ u.cell? ⟨w4.heap.size, 1, none⟩ = some (.int .i64 pk.fr) ∧ u.cell? ⟨w4.heap.size, 2, none⟩ = some (.int .i64 pk.tq)) (simp [*, go_sem])
          (first
            | (go_at_call 76; refine (HU.out _ (HBW.out.drew)).mono ?_; rintro r w8 ⟨rfl, hs8, hb8⟩; have hz8 : w'.heap.size ≤ w8.heap.size := (by have := hb8.size; simpa using this); have ax2 : w8.cell? ⟨w.heap.size, 2, none⟩ = some (.slice a2 ws.length cap2) := (hb8.cell (p := ⟨w.heap.size, 2, none⟩) (by simp <;> omega)).trans (by simp [go_sem, *]); have ay1 : w8.cell? ⟨w4.heap.size, 1, none⟩ = some (.int .i64 pk.fr) := (hb8.cell (p := ⟨w4.heap.size, 1, none⟩) (by simp <;> omega)).trans (by simp [go_sem, *]); have ay2 : w8.cell? ⟨w4.heap.size, 2, none⟩ = some (.int .i64 pk.tq) := (hb8.cell (p := ⟨w4.heap.size, 2, none⟩) (by simp <;> omega)).trans (by simp [go_sem, *]); have HS8 : Hid (SetAt w8 _ ws) := hs8; have HB8 : Hid (Below w'.heap.size w' w8) := (Below.refl _ _).drew.trans hb8; clear hs8 hb8)
            | (go_at_call 77; refine (HL.out _ _ HS8.out).mono ?_; rintro r w9 ⟨rfl, hb9⟩; have hz9 := hb9.size; have bx2 : w9.cell? ⟨w.heap.size, 2, none⟩ = some (.slice a2 ws.length cap2) := (hb9.cell (p := ⟨w.heap.size, 2, none⟩) (by simp <;> omega)).trans (by simp [go_sem, *]); have by1 : w9.cell? ⟨w4.heap.size, 1, none⟩ = some (.int .i64 pk.fr) := (hb9.cell (p := ⟨w4.heap.size, 1, none⟩) (by simp <;> omega)).trans (by simp [go_sem, *]); have by2 : w9.cell? ⟨w4.heap.size, 2, none⟩ = some (.int .i64 pk.tq) := (hb9.cell (p := ⟨w4.heap.size, 2, none⟩) (by simp <;> omega)).trans (by simp [go_sem, *]); have HB9 : Hid (Below w'.heap.size w' w9) := HB8.out.trans (hb9.mono (by omega)); clear hb9))
        all_goals
          have HPP9 : Hid (Blk w9 p #[.int .i64 0, .int .i64 0, .int .i64 pk.id, .int .i64 pk.fr, .int .i64 pk.tq, .slice a7 pk.bs.length c7, .int .i64 n, .slice (some ⟨g, 0, none⟩) L'.length vc, .slice ua ws.length uc] 62) := HPP.out.below HB9.out hpw
        all_goals
          have HBR9 : Hid (Blk w9 (w.heap.size + 1) #[.int .i64 0, .int .i64 0, .int .i64 0, .int .i64 0, .int .i64 0, .slice none 0 0, .int .i64 0, .slice none 0 0, .slice none 0 0] 62) := HBR.out.below HB9.out (by omega)

        all_goals go_wp2_with (first
          | (have hBA := HPP9; refine gate_ld 62 (.tmp 9) rfl ?_; clear hBA; have BL : Blk w9 p #[.int .i64 0, .int .i64 0, .int .i64 pk.id, .int .i64 pk.fr, .int .i64 pk.tq, .slice a7 pk.bs.length c7, .int .i64 n, .slice (some ⟨g, 0, none⟩) L'.length vc, .slice ua ws.length uc] 62 := HPP9.out; refine wpl_load_blk rfl 62 (.tmp 9) rfl p rfl BL Try.underlying62 rfl infoTk rfl ?_; clear BL)
          | (have hBA := HBR9; refine gate_st 62 (.tmp 6) _ rfl ?_; clear hBA; have BS : Blk w9 (w.heap.size + 1) #[.int .i64 0, .int .i64 0, .int .i64 0, .int .i64 0, .int .i64 0, .slice none 0 0, .int .i64 0, .slice none 0 0, .slice none 0 0] 62 := HBR9.out; refine wpl_store_blk rfl 62 (.tmp 6) _ rfl (w.heap.size + 1) rfl rfl BS infoTk rfl rfl (by simp [Value.oneCell']) ?_))
        all_goals
          refine bodyPost_ret (results_blk Try.results31 rfl (BS.row _) Try.underlying62 rfl infoTk rfl) rfl ⟨a7, c7, some ⟨g, 0, none⟩, vc, ua, uc, L', rfl, HCL'.out, ⟨w1.heap.size, w2.heap.size, W5.heap.size, w'.heap.size, by omega, hz2, ?_, by omega, ?_, .inl (by omega), ?_, ?_⟩, ?_⟩
        all_goals first
          | (simp [World.setRow, World.setCell]; have := HB9.out.size; omega)
          | exact HBG.out.keep fun k h1 h2 => by rw [setRow_other _ _ _ _ (by omega), HB9.out.block k (by omega)]
          | exact ⟨HYN.out.own.block fun k e => by have h3 := HYN.out.lt k e; have h4 := HYN.out.own.ne_blk HPP.out (by decide) k e; rw [setRow_other _ _ _ _ (by omega), HB9.out.block k (by omega)], HYN.out.lt⟩
          | exact below_row (HBW.out.trans (HB9.out.mono (by omega))) (by omega) _
    · have HL : Hid (∀ (u : World) (b : Nat), SetAt u b ws → Calls Try.prog 77 #[.map (some b), .int .i64 pk.fr, .int .i64 pk.tq] u fun e w' => e = .returned (.bool true) ∧ Below u.heap.size u w') := fun u b h => by rw [← hlo]; exact lose_any b ws _ _ u h HPS.out.1 HPS.out.2
      clear hlo
      rw [if_pos rfl]
      go_enter Try.func31, Try.ntmps31
      go_wp2_with (first
        | (go_at_call 46; refine (HF.out _ hb0.out).mono ?_; rintro e w1 ⟨rfl, hb1⟩; have HB1 : Hid (Below w.heap.size w w1) := hb0.out.trans (hb1.mono (by simp; omega)); have BX1 : Hid (Blk w1 w.heap.size #[.int .i64 n, .slice a l.length cap, .slice a2 ws.length cap2] 29) := ((Blk.new w _ _).alloc _).below hb1 (by simp; omega); have BR1 : Hid (Blk w1 (w.heap.size + 1) #[.int .i64 0, .int .i64 0, .int .i64 0, .int .i64 0, .int .i64 0, .slice none 0 0, .int .i64 0, .slice none 0 0, .slice none 0 0] 62) := (Blk.new' (w.alloc _) _ _ (by simp)).below hb1 (by simp); have hz1 : w.heap.size + 2 ≤ w1.heap.size := (by have := hb1.size; simp at this; omega); have x0 : w1.cell? ⟨w.heap.size, 0, none⟩ = some (.int .i64 n) := BX1.out.cell 0; have x1 : w1.cell? ⟨w.heap.size, 1, none⟩ = some (.slice a l.length cap) := BX1.out.cell 1; have x2 : w1.cell? ⟨w.heap.size, 2, none⟩ = some (.slice a2 ws.length cap2) := BX1.out.cell 2; clear hb1)
        | (go_at_call 47; refine (HCB.out _ HB1.out).mono ?_; rintro e w2 ⟨v, u, L0, rfl, hcL, hO2, hI2, hd2, hb2⟩; obtain ⟨ua, uc, rfl⟩ := hI2.shape; obtain ⟨g, vc, rfl⟩ := hO2.shape' (by rw [← cont_len L0, hcL, cont_len]; exact HPOS.out); have HLL : Hid (L0.length = l.length) := (by show _ = _; rw [← cont_len L0, hcL, cont_len]); have HL1 : Hid (¬ L0.length = 0) := (by show ¬ _; rw [HLL.out]; have := HPOS.out; omega); have hl1 : ¬ L0.length = 0 := HL1.out; have HGL : Hid (g < w2.heap.size) := hO2.lts.1 g rfl; have HO2 : Hid (OwnP w2 w1.heap.size (Value.slice (some ⟨g, 0, none⟩) L0.length vc) L0) := hO2; have HI2 : Hid (OwnI w2 w1.heap.size (.slice ua ws.length uc) ws) := hI2; have HD2 : Hid (∀ k, (Value.slice ua ws.length uc).ownBlock = some k → (Value.slice (some ⟨g, 0, none⟩) L0.length vc).ownBlock ≠ some k ∧ ∀ p ∈ L0, p.2.ownBlock ≠ some k) := hd2; have HB2 : Hid (Below w1.heap.size w1 w2) := hb2; have HCL : Hid (cont L0 = cont l) := hcL; have hz2 := hb2.size; have BR2 : Hid (Blk w2 (w.heap.size + 1) #[.int .i64 0, .int .i64 0, .int .i64 0, .int .i64 0, .int .i64 0, .slice none 0 0, .int .i64 0, .slice none 0 0, .slice none 0 0] 62) := BR1.out.below hb2 (by omega); have BX2 : Hid (Blk w2 w.heap.size #[.int .i64 n, .slice a l.length cap, .slice a2 ws.length cap2] 29) := BX1.out.below hb2 (by omega); clear hO2 hI2 hd2 hb2 hcL x0 x1 x2)
        | (go_at_call 75; clear hl1; refine (take_u w2.heap.size n g vc L0 ua ws.length uc pick kp _ w1.heap.size (Blk.new w2 _ _) (HO2.out.below ((Below.refl _ _).alloc (Nat.le_refl _) _)) ⟨HGL.out, HO2.out.lts.2⟩ (by have := HLL.out; omega) hx hX i (by have := HLL.out; omega) (by rw [HLL.out]; exact HMOD.out) pk (by rw [HCL.out]; exact HPK.out)).mono ?_; rintro e w4 ⟨a4, c4, L', rfl, hcL', hsub', hQ4, hR4, hS4, hT4⟩; rw [HCL.out, HPL.out] at hcL'; have hs4 : w2.heap.size + 1 ≤ w4.heap.size := (by have := hT4.size; simpa using this); have HCL' : Hid (cont L' = PL) := hcL'; have HSB : Hid (∀ p ∈ L', p ∈ L0) := hsub'; have HQ4 : Hid (Blk w4 w2.heap.size #[.int .i64 n, .slice (some ⟨g, 0, none⟩) L'.length vc, .slice ua ws.length uc] 29) := hQ4; have HR4 : Hid (PksR w1.heap.size w2.heap.size w4 (.slice (some ⟨g, 0, none⟩) L'.length vc) L') := hR4; have HS4 : Hid (Bs w4 (.slice a4 pk.bs.length c4) pk.bs) := hS4; have HT4 : Hid (Touched (fun k => k = w2.heap.size ∨ k = g) _ w4) := hT4; have BX4 : Hid (Blk w4 w.heap.size #[.int .i64 n, .slice a l.length cap, .slice a2 ws.length cap2] 29) := (BX2.out.alloc _).keep (hT4.block _ (by simp; omega) (by have := (World.ownsRow.lt HO2.out.row g rfl).1; omega)); have BR4 : Hid (Blk w4 (w.heap.size + 1) #[.int .i64 0, .int .i64 0, .int .i64 0, .int .i64 0, .int .i64 0, .slice none 0 0, .int .i64 0, .slice none 0 0, .slice none 0 0] 62) := (BR2.out.alloc _).keep (hT4.block _ (by simp; omega) (by have := (World.ownsRow.lt HO2.out.row g rfl).1; omega)); clear hcL' hsub' hQ4 hR4 hS4 hT4))
      obtain ⟨W5, hW5⟩ : ∃ W5, W5 = w4.alloc (.cells #[.int .i64 pk.id, .int .i64 pk.fr, .int .i64 pk.tq, .slice a4 pk.bs.length c4] 60) := ⟨_, rfl⟩
      rw [← hW5]
      have BP5 : Blk W5 w4.heap.size #[.int .i64 pk.id, .int .i64 pk.fr, .int .i64 pk.tq, .slice a4 pk.bs.length c4] 60 := by rw [hW5]; exact Blk.new _ _ _
      have BQ5 : Blk W5 w2.heap.size #[.int .i64 n, .slice (some ⟨g, 0, none⟩) L'.length vc, .slice ua ws.length uc] 29 := by rw [hW5]; exact HQ4.out.alloc _
      have BX5 : Hid (Blk W5 w.heap.size #[.int .i64 n, .slice a l.length cap, .slice a2 ws.length cap2] 29) := by show Blk _ _ _ _; rw [hW5]; exact BX4.out.alloc _
      have BR5 : Hid (Blk W5 (w.heap.size + 1) #[.int .i64 0, .int .i64 0, .int .i64 0, .int .i64 0, .int .i64 0, .slice none 0 0, .int .i64 0, .slice none 0 0, .slice none 0 0] 62) := by show Blk _ _ _ _; rw [hW5]; exact BR4.out.alloc _
      have HS5 : Hid (Bs W5 (.slice a4 pk.bs.length c4) pk.bs) := by show Bs _ _ _; rw [hW5]; exact HS4.out.below ((Below.refl _ _).alloc (Nat.le_refl _) _)
      have hz5 : W5.heap.size = w4.heap.size + 1 := by rw [hW5]; simp
      have HB5 : Hid (Below w4.heap.size w4 W5) := by show Below _ _ _; rw [hW5]; exact (Below.refl _ _).alloc (Nat.le_refl _) _
      clear hW5
      refine wp_named ?_
      intro a0 ha0
      have hsz0 : a0.tmps.size = 40 := by rw [ha0]; rfl
      have e7 : a0.eval (.tmp 7) = .pointer (some ⟨w2.heap.size, 0, none⟩) := by rw [ha0]; rfl
      have e8 : a0.eval (.tmp 8) = .pointer (some ⟨w4.heap.size, 0, none⟩) := by rw [ha0]; rfl
      have HA0 : Hid (a0 = _) := ha0
      clear ha0
      refine wp_region_inv (by kernel_rfl) (fun L aF w' => ∃ x : Nat → Value, aF = frame a0 [26, 27, 28, 29, 9] x ∧ Below W5.heap.size W5 w' ∧ (L.getD 0 false = true → x 26 = .agg #[.int .i64 pk.id, .int .i64 pk.fr, .int .i64 pk.tq, .slice a4 pk.bs.length c4]) ∧ (L.getD 1 false = true → ∃ a7 c7, x 27 = .agg #[.int .i64 pk.id, .int .i64 pk.fr, .int .i64 pk.tq, .slice a7 pk.bs.length c7] ∧ Own w' W5.heap.size (.slice a7 pk.bs.length c7) pk.bs) ∧ (L.getD 2 false = true → x 28 = .agg #[.int .i64 n, .slice (some ⟨g, 0, none⟩) L'.length vc, .slice ua ws.length uc]) ∧ (L.getD 3 false = true → ∃ a7 c7, x 29 = .agg #[.int .i64 0, .int .i64 0, .int .i64 pk.id, .int .i64 pk.fr, .int .i64 pk.tq, .slice a7 pk.bs.length c7, .int .i64 n, .slice (some ⟨g, 0, none⟩) L'.length vc, .slice ua ws.length uc] ∧ Own w' W5.heap.size (.slice a7 pk.bs.length c7) pk.bs) ∧ (L.getD 4 false = true → ∃ p C, x 9 = .pointer (some ⟨p, 0, none⟩) ∧ W5.heap.size ≤ p ∧ Blk w' p C 62 ∧ C.size = 9 ∧ (L.getD 5 false = true → ∃ a7 c7, C = #[.int .i64 0, .int .i64 0, .int .i64 pk.id, .int .i64 pk.fr, .int .i64 pk.tq, .slice a7 pk.bs.length c7, .int .i64 n, .slice (some ⟨g, 0, none⟩) L'.length vc, .slice ua ws.length uc] ∧ Own w' W5.heap.size (.slice a7 pk.bs.length c7) pk.bs)) ∧ (L.getD 5 false = true → L.getD 4 false = true)) ?_ ?_ ?_
      · exact ⟨_, frame_self a0 [26, 27, 28, 29, 9], (Below.refl _ _).drew, fun h => (noBit h).elim, fun h => (noBit h).elim, fun h => (noBit h).elim, fun h => (noBit h).elim, fun h => (noBit h).elim, fun h => (noBit h).elim⟩
      · rintro L a w' i hsL hi ⟨x, rfl, hB, h0, h1, h2, h3, h4, h5⟩
        have hiL : i < 6 := (ready_mem hsL hi).1
        have hL : L.size = 6 := hsL
        have hw' : W5.heap.size ≤ w'.heap.size := hB.size
        rcases (show i = 0 ∨ i = 1 ∨ i = 2 ∨ i = 3 ∨ i = 4 ∨ i = 5 by omega) with rfl | rfl | rfl | rfl | rfl | rfl
        · skip
          refine wpOp_plain rfl rfl (wp_load_blk 60 (.tmp 8) rfl (w4.heap.size) ((frame_eval _ _ _ 8 rfl).trans e8) (BP5.below hB BP5.lt) Try.underlying60 rfl infoPkS rfl ?_)
          exact ⟨_, frame_put _ _ _ 26 _ rfl, hB, fun h => upd_same _ _ _, fun h => by rw [upd_ne _ _ _ _ (by decide)]; exact (h1 (keepBit h (by omega) (by decide))), fun h => by rw [upd_ne _ _ _ _ (by decide)]; exact (h2 (keepBit h (by omega) (by decide))), fun h => by rw [upd_ne _ _ _ _ (by decide)]; exact (h3 (keepBit h (by omega) (by decide))), fun h => by obtain ⟨p, C, ep, hp, hP, hC, hR⟩ := h4 (keepBit h (by omega) (by decide)); exact ⟨p, C, (upd_ne _ _ _ _ (by decide)).trans ep, hp, hP, hC, fun hq6 => (hR (keepBit hq6 (by omega) (by decide)))⟩, fun h => setBit (h5 (keepBit h (by omega) (by decide))) (by omega)⟩
        · have d0 := h0 (ready_needs hi (by decide))
          have ev26 := (frame_eval_in a0 [26, 27, 28, 29, 9] x 26 rfl (by omega)).trans d0
          refine wpOp_plain rfl rfl (wp_call_go (N := 59) rfl (fun _ _ => by go_simp) #[.agg #[.int .i64 pk.id, .int .i64 pk.fr, .int .i64 pk.tq, .slice a4 pk.bs.length c4]] (by simp only [List.map_toArray, List.map_cons, List.map_nil, ev26]) ?_)
          refine Calls.mono (copyPacket_any _ _ _ _ pk.bs _ (HS5.out.below hB) hpl) ?_
          rintro e w2 ⟨a7, c7, rfl, ho, hb⟩
          refine ⟨_, rfl, ?_⟩
          exact ⟨_, frame_put _ _ _ 27 _ rfl, hB.trans (hb.mono hw'), fun h => by rw [upd_ne _ _ _ _ (by decide)]; exact (h0 (keepBit h (by omega) (by decide))), fun h => ⟨a7, c7, upd_same _ _ _, ho.le hw'⟩, fun h => by rw [upd_ne _ _ _ _ (by decide)]; exact (h2 (keepBit h (by omega) (by decide))), fun h => by rw [upd_ne _ _ _ _ (by decide)]; exact (by obtain ⟨a7, c7, ey, ho⟩ := (h3 (keepBit h (by omega) (by decide))); exact ⟨a7, c7, ey, ho.below hb⟩), fun h => by obtain ⟨p, C, ep, hp, hP, hC, hR⟩ := h4 (keepBit h (by omega) (by decide)); exact ⟨p, C, (upd_ne _ _ _ _ (by decide)).trans ep, hp, hP.below hb hP.lt, hC, fun hq6 => (by obtain ⟨a7, c7, ey, ho⟩ := (hR (keepBit hq6 (by omega) (by decide))); exact ⟨a7, c7, ey, ho.below hb⟩)⟩, fun h => setBit (h5 (keepBit h (by omega) (by decide))) (by omega)⟩
        · skip
          refine wpOp_plain rfl rfl (wp_load_blk 29 (.tmp 7) rfl (w2.heap.size) ((frame_eval _ _ _ 7 rfl).trans e7) (BQ5.below hB BQ5.lt) Try.underlying29 rfl infoBagS rfl ?_)
          exact ⟨_, frame_put _ _ _ 28 _ rfl, hB, fun h => by rw [upd_ne _ _ _ _ (by decide)]; exact (h0 (keepBit h (by omega) (by decide))), fun h => by rw [upd_ne _ _ _ _ (by decide)]; exact (h1 (keepBit h (by omega) (by decide))), fun h => upd_same _ _ _, fun h => by rw [upd_ne _ _ _ _ (by decide)]; exact (h3 (keepBit h (by omega) (by decide))), fun h => by obtain ⟨p, C, ep, hp, hP, hC, hR⟩ := h4 (keepBit h (by omega) (by decide)); exact ⟨p, C, (upd_ne _ _ _ _ (by decide)).trans ep, hp, hP, hC, fun hq6 => (hR (keepBit hq6 (by omega) (by decide)))⟩, fun h => setBit (h5 (keepBit h (by omega) (by decide))) (by omega)⟩
        · have d1 := h1 (ready_needs hi (by decide))
          have d2 := h2 (ready_needs hi (by decide))
          obtain ⟨a7, c7, ey, ho7⟩ := d1
          have ev27 : (frame a0 [26, 27, 28, 29, 9] x).tmps[27]?.getD undef = .agg #[.int .i64 pk.id, .int .i64 pk.fr, .int .i64 pk.tq, .slice a7 pk.bs.length c7] := by have h := (frame_eval_in a0 [26, 27, 28, 29, 9] x 27 rfl (by omega)).trans ey; simpa [Act.eval] using h
          have ev28 : (frame a0 [26, 27, 28, 29, 9] x).tmps[28]?.getD undef = .agg #[.int .i64 n, .slice (some ⟨g, 0, none⟩) L'.length vc, .slice ua ws.length uc] := by have h := (frame_eval_in a0 [26, 27, 28, 29, 9] x 28 rfl (by omega)).trans d2; simpa [Act.eval] using h
          refine wpOp_plain rfl rfl (wp_value_go (v := .agg #[.int .i64 0, .int .i64 0, .int .i64 pk.id, .int .i64 pk.fr, .int .i64 pk.tq, .slice a7 pk.bs.length c7, .int .i64 n, .slice (some ⟨g, 0, none⟩) L'.length vc, .slice ua ws.length uc]) ?_ ?_)
          · obtain ⟨aa, haa⟩ : ∃ aa, aa = frame a0 [26, 27, 28, 29, 9] x := ⟨_, rfl⟩
            rw [← haa] at ev27 ev28 ⊢
            clear haa HA0
            go_simp
          exact ⟨_, frame_put _ _ _ 29 _ rfl, hB, fun h => by rw [upd_ne _ _ _ _ (by decide)]; exact (h0 (keepBit h (by omega) (by decide))), fun h => by rw [upd_ne _ _ _ _ (by decide)]; exact (h1 (keepBit h (by omega) (by decide))), fun h => by rw [upd_ne _ _ _ _ (by decide)]; exact (h2 (keepBit h (by omega) (by decide))), fun h => ⟨a7, c7, upd_same _ _ _, ho7⟩, fun h => by obtain ⟨p, C, ep, hp, hP, hC, hR⟩ := h4 (keepBit h (by omega) (by decide)); exact ⟨p, C, (upd_ne _ _ _ _ (by decide)).trans ep, hp, hP, hC, fun hq6 => (hR (keepBit hq6 (by omega) (by decide)))⟩, fun h => setBit (h5 (keepBit h (by omega) (by decide))) (by omega)⟩
        · skip
          refine wpOp_plain rfl rfl (wp_alloc_go 62 #[.int .i64 0, .int .i64 0, .int .i64 0, .int .i64 0, .int .i64 0, .slice none 0 0, .int .i64 0, .slice none 0 0, .slice none 0 0] rfl (fun _ => by go_simp) ?_)
          have hb : Below w'.heap.size w' (w'.alloc (.cells #[.int .i64 0, .int .i64 0, .int .i64 0, .int .i64 0, .int .i64 0, .slice none 0 0, .int .i64 0, .slice none 0 0, .slice none 0 0] 62)) := (Below.refl _ _).alloc (Nat.le_refl _) _
          exact ⟨_, frame_put _ _ _ 9 _ rfl, hB.alloc hw' _, fun h => by rw [upd_ne _ _ _ _ (by decide)]; exact (h0 (keepBit h (by omega) (by decide))), fun h => by rw [upd_ne _ _ _ _ (by decide)]; exact (by obtain ⟨a7, c7, ey, ho⟩ := (h1 (keepBit h (by omega) (by decide))); exact ⟨a7, c7, ey, ho.below hb⟩), fun h => by rw [upd_ne _ _ _ _ (by decide)]; exact (h2 (keepBit h (by omega) (by decide))), fun h => by rw [upd_ne _ _ _ _ (by decide)]; exact (by obtain ⟨a7, c7, ey, ho⟩ := (h3 (keepBit h (by omega) (by decide))); exact ⟨a7, c7, ey, ho.below hb⟩), fun h => ⟨_, _, upd_same _ _ _, hw', Blk.new _ _ _, rfl, fun hq6 => (readyBit hsL hi (h5 (keepBit hq6 (by omega) (by decide)))).elim⟩, fun h => setSelf (by omega)⟩
        · have d3 := h3 (ready_needs hi (by decide))
          have d4 := h4 (ready_needs hi (by decide))
          obtain ⟨p, C, ep, hp, hP, hC, hR⟩ := d4
          obtain ⟨a7, c7, ey, ho7⟩ := d3
          have evp := (frame_eval_in a0 [26, 27, 28, 29, 9] x 9 rfl (by omega)).trans ep
          have evs := (frame_eval_in a0 [26, 27, 28, 29, 9] x 29 rfl (by omega)).trans ey
          refine wpOp_plain rfl rfl (wp_store_blk 62 (.tmp 9) (.tmp 29) rfl p evp evs hP infoTk rfl hC (by simp [Value.oneCell']) ?_)
          exact ⟨_, rfl, below_row hB hp _, fun h => (h0 (keepBit h (by omega) (by decide))), fun h => (by obtain ⟨a7, c7, ey, ho⟩ := (h1 (keepBit h (by omega) (by decide))); exact ⟨a7, c7, ey, ho.block fun k hk => setRow_other _ _ _ _ (ho.ne_blk hP (by decide) k hk)⟩), fun h => (h2 (keepBit h (by omega) (by decide))), fun h => (by obtain ⟨a7, c7, ey, ho⟩ := (h3 (keepBit h (by omega) (by decide))); exact ⟨a7, c7, ey, ho.block fun k hk => setRow_other _ _ _ _ (ho.ne_blk hP (by decide) k hk)⟩), fun h => ⟨p, _, ep, hp, hP.row _, rfl, fun _ => ⟨a7, c7, rfl, ho7.block fun k hk => setRow_other _ _ _ _ (ho7.ne_blk hP (by decide) k hk)⟩⟩, fun h => setBit (ready_needs hi (by decide)) (by omega)⟩
      · rintro L a w' hsL hr ⟨x, rfl, hB, h0, h1, h2, h3, h4, h5⟩
        have hall := ready_nil hsL hr (by decide)
        replace h0 := h0 (hall 0 (by decide))
        replace h1 := h1 (hall 1 (by decide))
        replace h2 := h2 (hall 2 (by decide))
        replace h3 := h3 (hall 3 (by decide))
        replace h4 := h4 (hall 4 (by decide))
        replace h5 := h5 (hall 5 (by decide))
        obtain ⟨p, C, ep, hp, hP, hC, hR⟩ := h4
        replace hR := hR (hall 5 (by decide))
        rw [HA0.out]
        simp only [frame, List.zipIdx_cons, List.zipIdx_nil, List.map_cons, List.map_nil, List.contains_cons, List.contains_nil, Nat.reduceBEq, Nat.reduceAdd, Bool.or_false, Bool.false_or, Bool.or_true, Bool.true_or, Bool.false_eq_true, if_false, if_true, h0, h2, ep]
        obtain ⟨a7, c7, rfl, ho7⟩ := hR
        have HO7 : Hid (Own w' W5.heap.size (.slice a7 pk.bs.length c7) pk.bs) := ho7
        have HPP : Hid (Blk w' p #[.int .i64 0, .int .i64 0, .int .i64 pk.id, .int .i64 pk.fr, .int .i64 pk.tq, .slice a7 pk.bs.length c7, .int .i64 n, .slice (some ⟨g, 0, none⟩) L'.length vc, .slice ua ws.length uc] 62) := hP
        have HBX : Hid (Blk w' w.heap.size #[.int .i64 n, .slice a l.length cap, .slice a2 ws.length cap2] 29) := BX5.out.below hB BX5.out.lt
        have HBR : Hid (Blk w' (w.heap.size + 1) #[.int .i64 0, .int .i64 0, .int .i64 0, .int .i64 0, .int .i64 0, .slice none 0 0, .int .i64 0, .slice none 0 0, .slice none 0 0] 62) := BR5.out.below hB BR5.out.lt
        have HBP : Hid (Blk w' w4.heap.size #[.int .i64 pk.id, .int .i64 pk.fr, .int .i64 pk.tq, .slice a4 pk.bs.length c4] 60) := BP5.below hB BP5.lt
        have HBB : Hid (Below W5.heap.size W5 w') := hB
        have hz7 := hB.size
        have HBW : Hid (Below w.heap.size w w') := by
          have h45 : Below w.heap.size w4 w' := (HB5.out.mono (by omega)).trans (hB.mono (by omega))
          have h24 : Below w.heap.size (w2.alloc (.cells #[.int .i64 n, Value.slice (some ⟨g, 0, none⟩) L0.length vc, .slice ua ws.length uc] 29)) w4 := ⟨HT4.out.os, HT4.out.tape, HT4.out.output, HT4.out.size, fun k hk => HT4.out.block k (by simp; omega) (by have := (World.ownsRow.lt HO2.out.row g rfl).1; omega)⟩
          exact (((HB1.out.trans (HB2.out.mono (by omega))).alloc (by omega) _).trans h24).trans h45
        have HBG : Hid (BagR w1.heap.size w2.heap.size w' (.slice (some ⟨g, 0, none⟩) L'.length vc) (.slice ua ws.length uc) L' ws) := by
          have h4 : BagR w1.heap.size w2.heap.size w4 (.slice (some ⟨g, 0, none⟩) L'.length vc) (.slice ua ws.length uc) L' ws := ⟨HR4.out, (HI2.out.r (by unfold maxLen; omega)).block' fun k e => by
            have hk := World.ownsRow.lt HI2.out k e
            have hd := (HD2.out k e).1
            rw [HT4.out.block k (by simp; omega) (by rintro (h | h); omega; exact hd (by rw [h]; rfl)), Below.heap_alloc w2 _ k hk.2], fun _ k e hk => by
            rcases hk with ⟨_, e'⟩ | ⟨p, hp, e'⟩
            · exact (HD2.out k e).1 e'
            · exact (HD2.out k e).2 p (HSB.out p hp) e'⟩
          exact h4.keep fun k h1 h2 => by rw [hB.block k (by omega), HB5.out.block k (by omega)]
        have HYN : Hid (BytesN W5.heap.size w'.heap.size w' (.slice a7 pk.bs.length c7) pk.bs) := ⟨ho7, fun k e => ho7.2.lt k e⟩
        have x2 : w'.cell? ⟨w.heap.size, 2, none⟩ = some (.slice a2 ws.length cap2) := HBX.out.cell 2
        have y1 : w'.cell? ⟨w4.heap.size, 1, none⟩ = some (.int .i64 pk.fr) := HBP.out.cell 1
        have y2 : w'.cell? ⟨w4.heap.size, 2, none⟩ = some (.int .i64 pk.tq) := HBP.out.cell 2
        have hpw := hP.lt
        clear ho7 hP hC h0 h1 h2 h3 h5 hall hr hsL HA0 hsz0 e7 e8 hB BP5 BQ5 ep
        go_wp2_with (fail)
        go_region_held3 (fun u => u.cell? ⟨w.heap.size, 2, none⟩ = some (.slice a2 ws.length cap2) ∧ u.cell? ⟨w4.heap.size, 1, none⟩ = some (.int .i64 pk.fr) ∧ u.cell? ⟨w4.heap.size, 2, none⟩ = some (.int .i64 pk.tq)) (simp [*, go_sem])
          (first
            | (go_at_call 76; refine (HU.out _ (HBW.out.drew)).mono ?_; rintro r w8 ⟨rfl, hs8, hb8⟩; have hz8 : w'.heap.size ≤ w8.heap.size := (by have := hb8.size; simpa using this); have ax2 : w8.cell? ⟨w.heap.size, 2, none⟩ = some (.slice a2 ws.length cap2) := (hb8.cell (p := ⟨w.heap.size, 2, none⟩) (by simp <;> omega)).trans (by simp [go_sem, *]); have ay1 : w8.cell? ⟨w4.heap.size, 1, none⟩ = some (.int .i64 pk.fr) := (hb8.cell (p := ⟨w4.heap.size, 1, none⟩) (by simp <;> omega)).trans (by simp [go_sem, *]); have ay2 : w8.cell? ⟨w4.heap.size, 2, none⟩ = some (.int .i64 pk.tq) := (hb8.cell (p := ⟨w4.heap.size, 2, none⟩) (by simp <;> omega)).trans (by simp [go_sem, *]); have HS8 : Hid (SetAt w8 _ ws) := hs8; have HB8 : Hid (Below w'.heap.size w' w8) := (Below.refl _ _).drew.trans hb8; clear hs8 hb8)
            | (go_at_call 77; refine (HL.out _ _ HS8.out).mono ?_; rintro r w9 ⟨rfl, hb9⟩; have hz9 := hb9.size; have bx2 : w9.cell? ⟨w.heap.size, 2, none⟩ = some (.slice a2 ws.length cap2) := (hb9.cell (p := ⟨w.heap.size, 2, none⟩) (by simp <;> omega)).trans (by simp [go_sem, *]); have by1 : w9.cell? ⟨w4.heap.size, 1, none⟩ = some (.int .i64 pk.fr) := (hb9.cell (p := ⟨w4.heap.size, 1, none⟩) (by simp <;> omega)).trans (by simp [go_sem, *]); have by2 : w9.cell? ⟨w4.heap.size, 2, none⟩ = some (.int .i64 pk.tq) := (hb9.cell (p := ⟨w4.heap.size, 2, none⟩) (by simp <;> omega)).trans (by simp [go_sem, *]); have HB9 : Hid (Below w'.heap.size w' w9) := HB8.out.trans (hb9.mono (by omega)); clear hb9))
        all_goals
          have HPP9 : Hid (Blk w9 p #[.int .i64 0, .int .i64 0, .int .i64 pk.id, .int .i64 pk.fr, .int .i64 pk.tq, .slice a7 pk.bs.length c7, .int .i64 n, .slice (some ⟨g, 0, none⟩) L'.length vc, .slice ua ws.length uc] 62) := HPP.out.below HB9.out hpw
        all_goals
          have HBR9 : Hid (Blk w9 (w.heap.size + 1) #[.int .i64 0, .int .i64 0, .int .i64 0, .int .i64 0, .int .i64 0, .slice none 0 0, .int .i64 0, .slice none 0 0, .slice none 0 0] 62) := HBR.out.below HB9.out (by omega)

        all_goals
          have cp1 : w9.cell? ⟨p, 1, none⟩ = some (.int .i64 0) := HPP9.out.cell 1
        all_goals
          have fp := HPP9.out.free
        all_goals go_wp2_with (first
          | (have hBA := HPP9; refine gate_ld 62 (.tmp 9) rfl ?_; clear hBA; have BL : Blk (w9.setCell ⟨p, 1, none⟩ (.int .i64 1)) p #[.int .i64 0, .int .i64 1, .int .i64 pk.id, .int .i64 pk.fr, .int .i64 pk.tq, .slice a7 pk.bs.length c7, .int .i64 n, .slice (some ⟨g, 0, none⟩) L'.length vc, .slice ua ws.length uc] 62 := (by simpa using HPP9.out.set 1 (.int .i64 1)); refine wpl_load_blk rfl 62 (.tmp 9) rfl p rfl BL Try.underlying62 rfl infoTk rfl ?_; clear BL)
          | (have hBA := HBR9; refine gate_st 62 (.tmp 6) _ rfl ?_; clear hBA; have BS : Blk (w9.setCell ⟨p, 1, none⟩ (.int .i64 1)) (w.heap.size + 1) #[.int .i64 0, .int .i64 0, .int .i64 0, .int .i64 0, .int .i64 0, .slice none 0 0, .int .i64 0, .slice none 0 0, .slice none 0 0] 62 := (HBR9.out.set_other _ (by simp only []; omega)); refine wpl_store_blk rfl 62 (.tmp 6) _ rfl (w.heap.size + 1) rfl rfl BS infoTk rfl rfl (by simp [Value.oneCell']) ?_))
        all_goals
          refine bodyPost_ret (results_blk Try.results31 rfl (BS.row _) Try.underlying62 rfl infoTk rfl) rfl ⟨a7, c7, some ⟨g, 0, none⟩, vc, ua, uc, L', rfl, HCL'.out, ⟨w1.heap.size, w2.heap.size, W5.heap.size, w'.heap.size, by omega, hz2, ?_, by omega, ?_, .inl (by omega), ?_, ?_⟩, ?_⟩
        all_goals first
          | (simp [World.setRow, World.setCell]; have := HB9.out.size; omega)
          | exact HBG.out.keep fun k h1 h2 => by rw [setRow_other _ _ _ _ (by omega), Below.heap_setCell _ _ _ _ (by simp only []; omega), HB9.out.block k (by omega)]
          | exact ⟨HYN.out.own.block fun k e => by have h3 := HYN.out.lt k e; have h4 := HYN.out.own.ne_blk HPP.out (by decide) k e; rw [setRow_other _ _ _ _ (by omega), Below.heap_setCell _ _ _ _ (by simp only []; omega), HB9.out.block k (by omega)], HYN.out.lt⟩
          | exact below_row ((HBW.out.trans (HB9.out.mono (by omega))).setCell (by show w.heap.size ≤ p; omega) _) (by omega) _
end Go.Proofs.Ytfcmffdljfljkaa

/-
  maps.Keys, slices.Sorted, slices.Sort at this program: laid (layiter.py).
-/
namespace Go.Proofs.Ytfcmffdljfljkaa
open Go.Shelf
def laidKeys_ren : Go.Shelf.Ren := ⟨fun | 7 => 89 | 10 => 109 | n => n, fun | 23 => 108 | 26 => 3 | 3 => 118 | 28 => 121 | 0 => 0 | 27 => 120 | 33 => 81 | 4 => 4 | n => n, fun | n => n⟩
theorem laidKeys : Go.Proofs.SlLaysZI.n7 Try.prog laidKeys_ren := {
  mixed := by kernel_rfl
  f7 := ⟨Try.f89.name, by decide, Try.func89.trans (congrArg some (by kernel_rfl))⟩
  f10 := ⟨Try.f109.name, by decide, Try.func109.trans (congrArg some (by kernel_rfl))⟩
  t0 := Try.underlying0
  a0 := Try.isAgg0
  z0 := Try.sizeOf0
  v0 := Try.zeroValue0
  t4 := Try.underlying4
  a4 := Try.isAgg4
  z4 := Try.sizeOf4
  v4 := Try.zeroValue4
  t23 := Try.underlying108
  a23 := Try.isAgg108
  z23 := Try.sizeOf108
  v23 := Try.zeroValue108
  t26 := Try.underlying3
  a26 := Try.isAgg3
  z26 := Try.sizeOf3
  v26 := Try.zeroValue3
  t27 := Try.underlying120
  a27 := Try.isAgg120
  z27 := Try.sizeOf120
  v27 := Try.zeroValue120
  t28 := Try.underlying121
  a28 := Try.isAgg121
  z28 := Try.sizeOf121
  v28 := Try.zeroValue121
  t33 := Try.underlying81
  a33 := Try.isAgg81
  z33 := Try.sizeOf81
  v33 := Try.zeroValue81 }
def laidSorted_ren : Go.Shelf.Ren := ⟨fun | 6 => 88 | 8 => 107 | 9 => 108 | 11 => 120 | 13 => 122 | 12 => 121 | 23 => 134 | 24 => 135 | 14 => 125 | 15 => 126 | 16 => 127 | 17 => 128 | 18 => 129 | 19 => 130 | 20 => 131 | 21 => 132 | 22 => 133 | 25 => 137 | 26 => 138 | 27 => 139 | 28 => 140 | 29 => 141 | 30 => 142 | 31 => 143 | n => n, fun | 26 => 3 | 28 => 121 | 24 => 23 | 0 => 0 | 3 => 3 | 37 => 147 | 48 => 131 | 50 => 167 | 4 => 4 | 40 => 159 | 39 => 158 | 45 => 163 | 5 => 5 | 9 => 9 | 51 => 169 | 55 => 173 | 57 => 175 | 58 => 176 | 33 => 81 | n => n, fun | n => n⟩
theorem laidSorted : Go.Proofs.SlLaysZI.n6 Try.prog laidSorted_ren := {
  mixed := by kernel_rfl
  f6 := ⟨Try.f88.name, by decide, Try.func88.trans (congrArg some (by kernel_rfl))⟩
  f8 := ⟨Try.f107.name, by decide, Try.func107.trans (congrArg some (by kernel_rfl))⟩
  f11 := ⟨Try.f120.name, by decide, Try.func120.trans (congrArg some (by kernel_rfl))⟩
  t0 := Try.underlying0
  a0 := Try.isAgg0
  z0 := Try.sizeOf0
  v0 := Try.zeroValue0
  t24 := Try.underlying23
  a24 := Try.isAgg23
  z24 := Try.sizeOf23
  v24 := Try.zeroValue23
  t26 := Try.underlying3
  a26 := Try.isAgg3
  z26 := Try.sizeOf3
  v26 := Try.zeroValue3
  t28 := Try.underlying121
  a28 := Try.isAgg121
  z28 := Try.sizeOf121
  v28 := Try.zeroValue121
  i26 := by kernel_rfl }
def laidSort_ren : Go.Shelf.Ren := ⟨fun | 5 => 108 | 8 => 122 | 7 => 121 | 19 => 134 | 20 => 135 | 10 => 125 | 11 => 126 | 12 => 127 | 13 => 128 | 14 => 129 | 15 => 130 | 16 => 131 | 17 => 132 | 18 => 133 | 30 => 137 | 31 => 138 | 32 => 139 | 33 => 140 | 34 => 141 | 35 => 142 | 40 => 143 | n => n, fun | 23 => 23 | 25 => 3 | 3 => 3 | 32 => 147 | 22 => 23 | 0 => 0 | 44 => 131 | 46 => 167 | 4 => 4 | 36 => 159 | 35 => 158 | 41 => 163 | 5 => 5 | 9 => 9 | 53 => 169 | 57 => 173 | 63 => 175 | 64 => 176 | n => n, fun | n => n⟩
theorem laidSort : Go.Proofs.SlLaysM.n5 Try.prog laidSort_ren := {
  mixed := by kernel_rfl
  f5 := ⟨Try.f108.name, by decide, Try.func108.trans (congrArg some (by kernel_rfl))⟩
  f7 := ⟨Try.f121.name, by decide, Try.func121.trans (congrArg some (by kernel_rfl))⟩
  f8 := Try.func122.trans (congrArg some (by kernel_rfl))
  f10 := ⟨Try.f125.name, by decide, Try.func125.trans (congrArg some (by kernel_rfl))⟩
  f11 := ⟨Try.f126.name, by decide, Try.func126.trans (congrArg some (by kernel_rfl))⟩
  f12 := ⟨Try.f127.name, by decide, Try.func127.trans (congrArg some (by kernel_rfl))⟩
  f13 := ⟨Try.f128.name, by decide, Try.func128.trans (congrArg some (by kernel_rfl))⟩
  f14 := ⟨Try.f129.name, by decide, Try.func129.trans (congrArg some (by kernel_rfl))⟩
  f15 := ⟨Try.f130.name, by decide, Try.func130.trans (congrArg some (by kernel_rfl))⟩
  f16 := ⟨Try.f131.name, by decide, Try.func131.trans (congrArg some (by kernel_rfl))⟩
  f17 := ⟨Try.f132.name, by decide, Try.func132.trans (congrArg some (by kernel_rfl))⟩
  f18 := ⟨Try.f133.name, by decide, Try.func133.trans (congrArg some (by kernel_rfl))⟩
  f19 := Try.func134.trans (congrArg some (by kernel_rfl))
  f20 := Try.func135.trans (congrArg some (by kernel_rfl))
  f30 := ⟨Try.f137.name, by decide, Try.func137.trans (congrArg some (by kernel_rfl))⟩
  f31 := Try.func138.trans (congrArg some (by kernel_rfl))
  f32 := Try.func139.trans (congrArg some (by kernel_rfl))
  f33 := ⟨Try.f140.name, by decide, Try.func140.trans (congrArg some (by kernel_rfl))⟩
  f34 := ⟨Try.f141.name, by decide, Try.func141.trans (congrArg some (by kernel_rfl))⟩
  f35 := ⟨Try.f142.name, by decide, Try.func142.trans (congrArg some (by kernel_rfl))⟩
  f40 := ⟨Try.f143.name, by decide, Try.func143.trans (congrArg some (by kernel_rfl))⟩
  t0 := Try.underlying0
  a0 := Try.isAgg0
  z0 := Try.sizeOf0
  v0 := Try.zeroValue0
  t3 := Try.underlying3
  a3 := Try.isAgg3
  z3 := Try.sizeOf3
  v3 := Try.zeroValue3
  t4 := Try.underlying4
  a4 := Try.isAgg4
  z4 := Try.sizeOf4
  v4 := Try.zeroValue4
  t5 := Try.underlying5
  a5 := Try.isAgg5
  z5 := Try.sizeOf5
  v5 := Try.zeroValue5
  t9 := Try.underlying9
  a9 := Try.isAgg9
  z9 := Try.sizeOf9
  v9 := Try.zeroValue9
  t22 := Try.underlying23
  a22 := Try.isAgg23
  z22 := Try.sizeOf23
  v22 := Try.zeroValue23
  t23 := Try.underlying23
  a23 := Try.isAgg23
  z23 := Try.sizeOf23
  v23 := Try.zeroValue23
  t25 := Try.underlying3
  a25 := Try.isAgg3
  z25 := Try.sizeOf3
  v25 := Try.zeroValue3
  t32 := Try.underlying147
  a32 := Try.isAgg147
  z32 := Try.sizeOf147
  v32 := Try.zeroValue147
  t35 := Try.underlying158
  a35 := Try.isAgg158
  z35 := Try.sizeOf158
  v35 := Try.zeroValue158
  t36 := Try.underlying159
  a36 := Try.isAgg159
  z36 := Try.sizeOf159
  v36 := Try.zeroValue159
  t41 := Try.underlying163
  a41 := Try.isAgg163
  z41 := Try.sizeOf163
  v41 := Try.zeroValue163
  t44 := Try.underlying131
  a44 := Try.isAgg131
  z44 := Try.sizeOf131
  v44 := Try.zeroValue131
  t46 := Try.underlying167
  a46 := Try.isAgg167
  z46 := Try.sizeOf167
  v46 := Try.zeroValue167
  t53 := Try.underlying169
  a53 := Try.isAgg169
  z53 := Try.sizeOf169
  v53 := Try.zeroValue169
  t57 := Try.underlying173
  a57 := Try.isAgg173
  z57 := Try.sizeOf173
  v57 := Try.zeroValue173
  t63 := Try.underlying175
  a63 := Try.isAgg175
  z63 := Try.sizeOf175
  v63 := Try.zeroValue175
  t64 := Try.underlying176
  a64 := Try.isAgg176
  z64 := Try.sizeOf176
  v64 := Try.zeroValue176 }
end Go.Proofs.Ytfcmffdljfljkaa

/-
  slices.Sorted(maps.Keys(m)) at the walls' map.
-/
namespace Go.Proofs.Ytfcmffdljfljkaa
open Go.RowKit Go.Maps Go.Sort Go.Shelf
set_option linter.unusedVariables false

theorem laidSorts (m : Nat) : AnyZI.SortsIn Try.prog laidSorted_ren Fence.wide m :=
  ⟨fun blk off cap ss W hH hblk hsz => callsIn_wide.2 (AnyM.slices_Sort_int laidSort blk off cap ss W hH hblk hsz),
   fun p cap W => callsIn_wide.2 (AnyM.slices_Sort_int_none laidSort p cap W)⟩

theorem keysW_any (mb : Option Nat) (W : World) : Calls Try.prog 89 #[.map mb] W fun e w' => e = .returned (.func (.func 109) #[] #[.pointer (some ⟨W.heap.size, 0, none⟩)]) ∧ w' = W.alloc (.cells #[.map mb] 108) :=
  (callsIn_wide (n := 5)).1 (AnyZI.keys_in laidKeys Fence.wide 5 trivial rfl mb W)

set_option maxHeartbeats 1000000 in
theorem sortedW_any {H : Type} (b nn : Nat) (D0 : DataW H) (R : Value → Option (DataW H × List MemPlace)) (w : World) (hown : w.ownsMap Try.prog 3 R b nn D0) (hmax : Maps.size D0 ≤ maxLen) (hbytes : Maps.size D0 * 8 ≤ 140737488355328) :
    Calls Try.prog 88 #[.func (.func 109) #[] #[.pointer (some ⟨w.heap.size, 0, none⟩)]] (w.alloc (.cells #[.map (some b)] 108)) fun e w' => ∃ (v : Value) (ss : List Int), e = .returned v ∧ ss.Perm (intKeys D0) ∧
      w'.ownsRow (w.alloc (.cells #[.map (some b)] 108)).heap.size 3 1 v ss.length ((ss.mergeSort (fun x y => decide (x ≤ y))).map encZ) ∧ (v = .slice none 0 0 ↔ ss = []) ∧ Below (w.alloc (.cells #[.map (some b)] 108)).heap.size (w.alloc (.cells #[.map (some b)] 108)) w' := by
  refine (callsIn_wide (n := 5)).1 ?_
  have hbl := hown.lt
  have hseq : SeqGives Fence.wide 2 Try.prog 109 #[.pointer (some ⟨w.heap.size, 0, none⟩)] encZ (fun ss => ss.Perm (intKeys D0)) (Maps.size D0) (w.alloc (.cells #[.map (some b)] 108)) :=
    AnyZI.keys_gives (ρ := laidKeys_ren) { laidKeys with } Fence.wide _ trivial rfl (by omega) w.heap.size b nn D0 _ (by simp) (by simp) (by
      obtain ⟨es, clock, hb, Ft, hs, hD⟩ := hown
      exact ⟨es, clock, (Below.heap_alloc _ _ b hbl).trans hb, Ft, hs, hD⟩)
  exact AnyZI.sorted_in laidSorted Fence.wide 5 trivial trivial trivial trivial rfl (by omega) (laidSorts _) (enters_of Try.func108 (by kernel_rfl) rfl) 109 #[.pointer (some ⟨w.heap.size, 0, none⟩)] trivial (enters_of Try.func109 (by kernel_rfl) rfl) _ _ hmax hbytes _ hseq
end Go.Proofs.Ytfcmffdljfljkaa

/-
  impl.setWall: the walls behind it.
-/
namespace Go.Proofs.Ytfcmffdljfljkaa
open Go.RowKit Go.Maps
set_option linter.unusedVariables false
set_option linter.unusedSimpArgs false

/-- is k walled off behind the change -/
def wallOne (ws : List Int) (id : Int) (up : Bool) (k : Int) : Bool := if k = id then up else ws.contains k
/-- the walls up tq k -/
def wallsNew (ws : List Int) (id : Int) (up : Bool) : Nat → List Int
  | 0 => []
  | k + 1 => wallsNew ws id up k ++ (if wallOne ws id up ((k : Int) + 1) = true then [(k : Int) + 1] else [])
theorem wallsNew_len (ws : List Int) (id : Int) (up : Bool) (k : Nat) : (wallsNew ws id up k).length ≤ k := by
  induction k with
  | zero => simp [wallsNew]
  | succ k ih =>
    rw [wallsNew, List.length_append]
    split <;> simp <;> omega
theorem wallsNew_mem (ws : List Int) (id : Int) (up : Bool) (k : Nat) (x : Int) : x ∈ wallsNew ws id up k ↔ (1 ≤ x ∧ x ≤ k) ∧ wallOne ws id up x = true := by
  induction k with
  | zero => simp [wallsNew]; omega
  | succ k ih =>
    rw [wallsNew, List.mem_append, ih]
    by_cases h : wallOne ws id up ((k : Int) + 1) = true
    · rw [if_pos h, List.mem_singleton]
      constructor
      · rintro (⟨h1, h2⟩ | rfl)
        · exact ⟨⟨h1.1, by omega⟩, h2⟩
        · exact ⟨⟨by omega, by omega⟩, h⟩
      · rintro ⟨h1, h2⟩
        by_cases e : x = (k : Int) + 1
        · exact .inr e
        · exact .inl ⟨⟨h1.1, by omega⟩, h2⟩
    · rw [if_neg h]
      constructor
      · rintro (⟨h1, h2⟩ | h')
        · exact ⟨⟨h1.1, by omega⟩, h2⟩
        · cases h'
      · rintro ⟨h1, h2⟩
        by_cases e : x = (k : Int) + 1
        · subst e; exact absurd h2 h
        · exact .inl ⟨⟨h1.1, by omega⟩, h2⟩
theorem wallsNew_lt (ws : List Int) (id : Int) (up : Bool) (k : Nat) : (wallsNew ws id up k).Pairwise (· < ·) := by
  induction k with
  | zero => exact .nil
  | succ k ih =>
    rw [wallsNew]
    split
    · refine List.pairwise_append.2 ⟨ih, List.pairwise_singleton _ _, fun x hx y hy => ?_⟩
      rw [List.mem_singleton.1 hy]
      have := ((wallsNew_mem ws id up k x).1 hx).1
      omega
    · rw [List.append_nil]; exact ih
/-- the map behind the change -/
def wallMap (ws : List Int) (id : Int) (up : Bool) : DataW Unit := if up = true then (wallSet ws).put (Lit.int .i64 id) (.agg []) else (wallSet ws).del (Lit.int .i64 id)
theorem tidy_wallSet (ws : List Int) : Tidy (wallSet ws) := tidy_setOf _ _ (fun x hx => by obtain ⟨y, _, rfl⟩ := List.mem_map.1 hx; trivial)
theorem has_wallMap (ws : List Int) (id : Int) (up : Bool) (x : Int) : Maps.has (wallMap ws id up) (.int .i64 x) = wallOne ws id up x := by
  unfold wallMap wallOne
  cases up
  · simp only [Bool.false_eq_true, if_false]
    by_cases e : x = id
    · subst e; rw [if_pos rfl]; exact has_del_same
    · rw [if_neg e, has_del_other (by intro h; injection h with _ h; exact e h), has_wallSet]
  · simp only [if_true]
    by_cases e : x = id
    · subst e; rw [if_pos rfl]; exact has_put_same (k := Lit.int .i64 x) (tidy_wallSet ws).isMap trivial _
    · rw [if_neg e, has_put_other (by intro h; injection h with _ h; exact e h), has_wallSet]
theorem sort_walls {w : World} {b n : Nat} {ws : List Int} {id : Int} {up : Bool} (hown : w.ownsMap Try.prog 3 (unitElem (H := Unit)) b n (wallMap ws id up)) (hw : ∀ y ∈ ws, 1 ≤ y ∧ y ≤ 7) (hid : 1 ≤ id ∧ id ≤ 7) {ss : List Int} (hs : ss.Perm (intKeys (wallMap ws id up))) :
    ss.mergeSort (fun x y => decide (x ≤ y)) = wallsNew ws id up 7 := by
  have hc : CollectedI (wallMap ws id up) (fun _ => false) (wallsNew ws id up 7) := by
    refine ⟨(wallsNew_lt ws id up 7).imp fun h => by omega, fun x => ?_⟩
    rw [wallsNew_mem, has_wallMap]
    constructor
    · rintro ⟨_, h⟩; exact ⟨h, rfl⟩
    · rintro ⟨h, _⟩
      refine ⟨?_, h⟩
      unfold wallOne at h
      split at h
      · next e => subst e; exact hid
      · exact hw x (by simpa using h)
  have hp := hc.perm hown law3 Try.underlying3 (fun _ => rfl)
  have e1 : ss.mergeSort leI = (wallsNew ws id up 7).mergeSort leI := mergeSort_of_perm_i (hs.trans hp.symm)
  rw [show ss.mergeSort (fun x y => decide (x ≤ y)) = ss.mergeSort leI from rfl, e1]
  exact List.mergeSort_of_pairwise ((wallsNew_lt ws id up 7).imp fun h => by simp only [leI, decide_eq_true_eq]; omega)
theorem ownsMap_size {H : Type} {P : Program} {k : TypeId} {R : Value → Option (DataW H × List MemPlace)} {w : World} {b n : Nat} {D : DataW H} (h : w.ownsMap P k R b n D) : Maps.size D ≤ n := h.size_le
end Go.Proofs.Ytfcmffdljfljkaa

/-
  impl.setWall, impl.BagWall.
-/
namespace Go.Proofs.Ytfcmffdljfljkaa
open Go.RowKit Go.Maps
set_option linter.unusedVariables false
set_option linter.unusedSimpArgs false

set_option maxHeartbeats 4000000 in
set_option maxRecDepth 100000 in
theorem setWall_any (q : Nat) (n : Int) (pa : Option Addr) (pn pc : Nat) (ua : Option Addr) (uc : Nat) (ws : List Int) (id : Int) (up : Bool) (w : World) (hQ : Blk w q #[.int .i64 n, .slice pa pn pc, .slice ua ws.length uc] 29) (hI : Ix w (.slice ua ws.length uc) ws) (hr : ∀ y ∈ ws, 1 ≤ y ∧ y ≤ 7) (hid : 1 ≤ id ∧ id ≤ 7) (hw : ws.length ≤ 1048576) :
    Calls Try.prog 49 #[.pointer (some ⟨q, 0, none⟩), .int .i64 id, .bool up] w fun e w' => (∃ v, e = .returned v) ∧ ∃ ua' uc', Blk w' q #[.int .i64 n, .slice pa pn pc, .slice ua' (wallsNew ws id up 7).length uc'] 29 ∧ OwnI w' w.heap.size (.slice ua' (wallsNew ws id up 7).length uc') (wallsNew ws id up 7) ∧ Touched (fun k => k = q) w w' := by
  have HW : Hid (Calls Try.prog 76 #[.slice ua ws.length uc] w fun e w'' => e = .returned (.map (some w.heap.size)) ∧ SetAt w'' w.heap.size ws ∧ Below w.heap.size w w'') := wallsOf_any _ ws w hI (fun y hy => by have := hr y hy; omega) hw
  have HR : Hid (∀ y ∈ ws, 1 ≤ y ∧ y ≤ 7) := hr
  have hk : keyOf Try.prog 3 (.int .i64 id) = some (.int .i64 id) := keyOf_int_mk Try.underlying3 (wf_small (by omega) (by omega))
  have HQ : Hid (Blk w q #[.int .i64 n, .slice pa pn pc, .slice ua ws.length uc] 29) := hQ
  have hqw := hQ.lt
  have q2 : w.cell? ⟨q, 2, none⟩ = some (.slice ua ws.length uc) := hQ.cell 2
  clear hQ hI hr
  cases up
  · go_enter Try.func49, Try.ntmps49
    go_wp2_with (first
      | (go_at_call 76; refine HW.out.mono ?_; rintro e w1 ⟨rfl, hs1, hb1⟩; have HB1 : Hid (Below w.heap.size w w1) := hb1; have hz1 := hs1.lt; clear hb1)
      | (at_delete; refine wpList_delete_own _ rfl _ _ 108 3 rfl 118 law3 Try.underlying108 (unitElem (H := Unit)) w.heap.size ws.length _ rfl hs1 _ _ rfl hk ?_; intro w2 hown2 hturn2; have HG2 : Hid (w1.grownBy w2 (some w.heap.size)) := hturn2.grown; have hz2 := HG2.out.size; have HOW : Hid (w2.ownsMap Try.prog 3 (unitElem (H := Unit)) w.heap.size (ws.length + 1) (wallMap ws id false)) := hown2.mono (Nat.le_succ _); clear hown2 hturn2 hs1)
      | (go_at_call 89; refine (keysW_any _ _).mono ?_; rintro e w3 ⟨rfl, rfl⟩)
      | (go_at_call 88; refine (sortedW_any w.heap.size (ws.length + 1) _ _ w2 HOW.out (Nat.le_trans (ownsMap_size HOW.out) (by unfold maxLen; omega)) (Nat.le_trans (Nat.mul_le_mul_right 8 (ownsMap_size HOW.out)) (by omega))).mono ?_; rintro e w4 ⟨v, ss, rfl, hS, hrow, hnil, hb4⟩; have hL4 : OwnI w4 w.heap.size v (wallsNew ws id false 7) := (by have h5 := sort_walls HOW.out HR.out hid hS; have hlen : ss.length = (wallsNew ws id false 7).length := (by rw [← h5, List.length_mergeSort]); rw [h5, hlen] at hrow; exact OwnI.le (show OwnI w4 _ v _ from hrow) (by simp; omega)); obtain ⟨ua', uc', rfl⟩ := hL4.shape; have HL4 : Hid (OwnI w4 w.heap.size (.slice ua' (wallsNew ws id false 7).length uc') (wallsNew ws id false 7)) := hL4; have HB4 : Hid (Below _ _ w4) := hb4; have hz4 := hb4.size; simp at hz4; have HQ4 : Hid (Blk w4 q #[.int .i64 n, .slice pa pn pc, .slice ua ws.length uc] 29) := (((HQ.out.below HB1.out hqw).keep (HG2.out.block q (by omega) (by intro e; injection e with e; omega))).alloc _).below hb4 (by simp; omega); have p2 : w4.cell? ⟨q, 2, none⟩ = some (.slice ua ws.length uc) := HQ4.out.cell 2; have pf : ∀ j, w4.frozen? ⟨q, j, none⟩ = false := HQ4.out.free; clear hL4 hb4 hrow hS hnil))
    go_end0
    refine ⟨⟨_, rfl⟩, ua', uc', HQ4.out.set 2 _, HL4.out.block fun k e => Below.heap_setCell _ _ _ _ (by have := (World.ownsRow.lt HL4.out k e).1; simp only []; omega), ?_⟩
    refine ⟨HB4.out.os.trans (HG2.out.os.trans HB1.out.os), HB4.out.tape.trans (HG2.out.tape.trans HB1.out.tape), HB4.out.output.trans (HG2.out.output.trans HB1.out.output), by simp [World.setCell]; omega, fun k hk' hn => ?_⟩
    rw [Below.heap_setCell _ _ _ _ (by simpa using hn), HB4.out.block k (by simp; omega), Below.heap_alloc w2 _ k (by omega), HG2.out.block k (by omega) (by intro e; injection e with e; omega), HB1.out.block k hk']
  · go_enter Try.func49, Try.ntmps49
    go_wp2_with (first
      | (go_at_call 76; refine HW.out.mono ?_; rintro e w1 ⟨rfl, hs1, hb1⟩; have HB1 : Hid (Below w.heap.size w w1) := hb1; have hz1 := hs1.lt; clear hb1)
      | (at_mapUpdate; refine wpList_mapUpdate_own _ rfl _ _ _ 108 rfl 3 118 law3 Try.underlying108 (unitElem (H := Unit)) w.heap.size ws.length _ rfl hs1 (by unfold maxLen; omega) _ _ _ rfl rfl hk _ [] unitElem_mk ?_; intro w2 hown2 hg2; have HG2 : Hid (w1.grownBy w2 (some w.heap.size)) := hg2; have hz2 := hg2.size; have HOW : Hid (w2.ownsMap Try.prog 3 (unitElem (H := Unit)) w.heap.size (ws.length + 1) (wallMap ws id true)) := hown2; clear hown2 hg2 hs1)
      | (go_at_call 89; refine (keysW_any _ _).mono ?_; rintro e w3 ⟨rfl, rfl⟩)
      | (go_at_call 88; refine (sortedW_any w.heap.size (ws.length + 1) _ _ w2 HOW.out (Nat.le_trans (ownsMap_size HOW.out) (by unfold maxLen; omega)) (Nat.le_trans (Nat.mul_le_mul_right 8 (ownsMap_size HOW.out)) (by omega))).mono ?_; rintro e w4 ⟨v, ss, rfl, hS, hrow, hnil, hb4⟩; have hL4 : OwnI w4 w.heap.size v (wallsNew ws id true 7) := (by have h5 := sort_walls HOW.out HR.out hid hS; have hlen : ss.length = (wallsNew ws id true 7).length := (by rw [← h5, List.length_mergeSort]); rw [h5, hlen] at hrow; exact OwnI.le (show OwnI w4 _ v _ from hrow) (by simp; omega)); obtain ⟨ua', uc', rfl⟩ := hL4.shape; have HL4 : Hid (OwnI w4 w.heap.size (.slice ua' (wallsNew ws id true 7).length uc') (wallsNew ws id true 7)) := hL4; have HB4 : Hid (Below _ _ w4) := hb4; have hz4 := hb4.size; simp at hz4; have HQ4 : Hid (Blk w4 q #[.int .i64 n, .slice pa pn pc, .slice ua ws.length uc] 29) := (((HQ.out.below HB1.out hqw).keep (HG2.out.block q (by omega) (by intro e; injection e with e; omega))).alloc _).below hb4 (by simp; omega); have p2 : w4.cell? ⟨q, 2, none⟩ = some (.slice ua ws.length uc) := HQ4.out.cell 2; have pf : ∀ j, w4.frozen? ⟨q, j, none⟩ = false := HQ4.out.free; clear hL4 hb4 hrow hS hnil))
    go_end0
    refine ⟨⟨_, rfl⟩, ua', uc', HQ4.out.set 2 _, HL4.out.block fun k e => Below.heap_setCell _ _ _ _ (by have := (World.ownsRow.lt HL4.out k e).1; simp only []; omega), ?_⟩
    refine ⟨HB4.out.os.trans (HG2.out.os.trans HB1.out.os), HB4.out.tape.trans (HG2.out.tape.trans HB1.out.tape), HB4.out.output.trans (HG2.out.output.trans HB1.out.output), by simp [World.setCell]; omega, fun k hk' hn => ?_⟩
    rw [Below.heap_setCell _ _ _ _ (by simpa using hn), HB4.out.block k (by simp; omega), Below.heap_alloc w2 _ k (by omega), HG2.out.block k (by omega) (by intro e; injection e with e; omega), HB1.out.block k hk']

/-- the bag behind a change of its walls -/
def wallAns (n : Int) (l : List Pkt) (ws : List Int) (id up : Int) : Int × List Pkt × List Int :=
  if bagB n l ws = false then (0, [], []) else if inB id 1 7 = true then (n, l, wallsNew ws id (up != 0) 7) else (n, l, ws)
def WallAt (w w' : World) (e : Ending) (x : Int × List Pkt × List Int) : Prop :=
  ∃ va vc ua uc L, e = .returned (.agg #[.int .i64 x.1, .slice va L.length vc, .slice ua x.2.2.length uc]) ∧ cont L = x.2.1 ∧ BagR w.heap.size w'.heap.size w' (.slice va L.length vc) (.slice ua x.2.2.length uc) L x.2.2 ∧ Below w.heap.size w w'

theorem riseB_in7 {last : Int} {l : List Int} (h : riseB 7 last l = true) (h0 : 0 ≤ last) : ∀ y ∈ l, 1 ≤ y ∧ y ≤ 7 := by
  induction l generalizing last with
  | nil => intro y hy; cases hy
  | cons x l ih =>
    rw [riseB, Bool.and_eq_true] at h
    have hx := (inB_iff _ _ _).1 h.1
    intro y hy
    rcases List.mem_cons.1 hy with rfl | hy
    · omega
    · exact ih h.2 (by omega) y hy
set_option maxHeartbeats 8000000 in
set_option maxRecDepth 100000 in
theorem bagWall_any (n id up : Int) (a : Option Addr) (cap : Nat) (a2 : Option Addr) (cap2 : Nat) (l : List Pk) (ws : List Int) (w : World) (hv : Pks w (.slice a l.length cap) l) (hu : Ix w (.slice a2 ws.length cap2) ws) (hl : l.length + bulk (cont l) ≤ 1048576) (hw : ws.length ≤ 1048576) :
    Calls Try.prog 11 #[.agg #[.int .i64 n, .slice a l.length cap, .slice a2 ws.length cap2], .int .i64 id, .int .i64 up] w fun e w' => WallAt w w' e (wallAns n (cont l) ws id up) := by
  have HF : Hid (∀ w', Below w.heap.size w w' → Calls Try.prog 46 #[.agg #[.int .i64 n, .slice a l.length cap, .slice a2 ws.length cap2]] w' fun e w'' => e = .returned (.bool (bagB n (cont l) ws)) ∧ Below w'.heap.size w' w'') := fun w' h => bagFits_any n _ _ l ws w' (hv.below h) (hu.below h)
  have hb0 : Hid (Below w.heap.size w ((w.alloc (.cells #[.int .i64 n, .slice a l.length cap, .slice a2 ws.length cap2] 29)).alloc (.cells #[.int .i64 0, .slice none 0 0, .slice none 0 0] 29))) := ((Below.refl _ _).alloc (Nat.le_refl _) _).alloc (by simp) _
  cases hbag : bagB n (cont l) ws
  · skip
    rw [hbag] at HF
    rw [show wallAns n (cont l) ws id up = (0, [], []) by simp [wallAns, hbag]]
    go_enter Try.func11, Try.ntmps11
    go_wp2_with (go_at_call 46; refine (HF.out _ hb0.out).mono ?_; rintro e w1 ⟨rfl, hb1⟩; have HB1 : Hid (Below w.heap.size w w1) := hb0.out.trans (hb1.mono (by simp; omega)); have BX1 : Hid (Blk w1 w.heap.size #[.int .i64 n, .slice a l.length cap, .slice a2 ws.length cap2] 29) := ((Blk.new w _ _).alloc _).below hb1 (by simp; omega); have BR1 : Hid (Blk w1 (w.heap.size + 1) #[.int .i64 0, .slice none 0 0, .slice none 0 0] 29) := (Blk.new' (w.alloc _) _ _ (by simp)).below hb1 (by simp); have hz1 : w.heap.size + 2 ≤ w1.heap.size := (by have := hb1.size; simp at this; omega); have x10 : w1.cell? ⟨w.heap.size, 0, none⟩ = some (.int .i64 n) := BX1.out.cell 0; have x11 : w1.cell? ⟨w.heap.size, 1, none⟩ = some (.slice a l.length cap) := BX1.out.cell 1; have x12 : w1.cell? ⟨w.heap.size, 2, none⟩ = some (.slice a2 ws.length cap2) := BX1.out.cell 2; have r10 : w1.cell? ⟨w.heap.size + 1, 0, none⟩ = some (.int .i64 0) := BR1.out.cell 0; have r11 : w1.cell? ⟨w.heap.size + 1, 1, none⟩ = some (.slice none 0 0) := BR1.out.cell 1; have r12 : w1.cell? ⟨w.heap.size + 1, 2, none⟩ = some (.slice none 0 0) := BR1.out.cell 2; have fr1 := BR1.out.free; clear hb1)
    refine bodyPost_ret (v := .agg #[.int .i64 0, .slice none 0 0, .slice none 0 0]) (by simp [results, Try.results11, go_sem, *]) rfl ⟨none, 0, none, 0, [], rfl, rfl, BagR.nil _ _ _, ?_⟩
    exact ((HB1.out.setCell (Nat.le_succ _) _).setCell (Nat.le_succ _) _).setCell (Nat.le_succ _) _
  rw [hbag] at HF
  have HR : Hid (∀ y ∈ ws, 1 ≤ y ∧ y ≤ 7) := riseB_in7 (by simp only [bagB, Bool.and_eq_true] at hbag; exact hbag.2) (by omega)
  have HCB : Hid (∀ w', Below w.heap.size w w' → Calls Try.prog 47 #[.agg #[.int .i64 n, .slice a l.length cap, .slice a2 ws.length cap2]] w' fun e w'' => ∃ v u L, e = .returned (.agg #[.int .i64 n, v, u]) ∧ cont L = cont l ∧ OwnP w'' w'.heap.size v L ∧ OwnI w'' w'.heap.size u ws ∧ (∀ k, u.ownBlock = some k → v.ownBlock ≠ some k ∧ ∀ p ∈ L, p.2.ownBlock ≠ some k) ∧ Below w'.heap.size w' w'') := fun w' h => copyBag_any n a cap a2 cap2 l ws w' (hv.below h) (hu.below h) (by omega) (fun p hp => by have := bulk_mem (List.mem_map_of_mem (f := Prod.fst) hp); unfold cont at hl; omega) hw
  clear hv hu
  cases hid : inB id 1 7
  · rw [show wallAns n (cont l) ws id up = (n, cont l, ws) by simp [wallAns, hbag, hid]]
    clear hbag
    go_enter Try.func11, Try.ntmps11
    go_wp2_with (first
      | (go_at_call 46; refine (HF.out _ hb0.out).mono ?_; rintro e w1 ⟨rfl, hb1⟩; have HB1 : Hid (Below w.heap.size w w1) := hb0.out.trans (hb1.mono (by simp; omega)); have BX1 : Hid (Blk w1 w.heap.size #[.int .i64 n, .slice a l.length cap, .slice a2 ws.length cap2] 29) := ((Blk.new w _ _).alloc _).below hb1 (by simp; omega); have BR1 : Hid (Blk w1 (w.heap.size + 1) #[.int .i64 0, .slice none 0 0, .slice none 0 0] 29) := (Blk.new' (w.alloc _) _ _ (by simp)).below hb1 (by simp); have hz1 : w.heap.size + 2 ≤ w1.heap.size := (by have := hb1.size; simp at this; omega); have x10 : w1.cell? ⟨w.heap.size, 0, none⟩ = some (.int .i64 n) := BX1.out.cell 0; have x11 : w1.cell? ⟨w.heap.size, 1, none⟩ = some (.slice a l.length cap) := BX1.out.cell 1; have x12 : w1.cell? ⟨w.heap.size, 2, none⟩ = some (.slice a2 ws.length cap2) := BX1.out.cell 2; have r10 : w1.cell? ⟨w.heap.size + 1, 0, none⟩ = some (.int .i64 0) := BR1.out.cell 0; have r11 : w1.cell? ⟨w.heap.size + 1, 1, none⟩ = some (.slice none 0 0) := BR1.out.cell 1; have r12 : w1.cell? ⟨w.heap.size + 1, 2, none⟩ = some (.slice none 0 0) := BR1.out.cell 2; have fr1 := BR1.out.free; clear hb1)
      | (go_at_call 47; refine (HCB.out _ HB1.out).mono ?_; rintro e w2 ⟨v, u, L0, rfl, hcL, hO2, hI2, hd2, hb2⟩; obtain ⟨va, vc, rfl⟩ := hO2.shape; obtain ⟨ua, uc, rfl⟩ := hI2.shape; have HO2 : Hid (OwnP w2 w1.heap.size (.slice va L0.length vc) L0) := hO2; have HI2 : Hid (OwnI w2 w1.heap.size (.slice ua ws.length uc) ws) := hI2; have HD2 : Hid (∀ k, (Value.slice ua ws.length uc).ownBlock = some k → (Value.slice va L0.length vc).ownBlock ≠ some k ∧ ∀ p ∈ L0, p.2.ownBlock ≠ some k) := hd2; have HB2 : Hid (Below w1.heap.size w1 w2) := hb2; have HCL : Hid (cont L0 = cont l) := hcL; have hz2 := hb2.size; have HLL : Hid (L0.length = l.length) := (by show _ = _; rw [← cont_len L0, hcL, cont_len]); have HB3 : Hid (Below w.heap.size w (w2.alloc (.cells #[.int .i64 n, .slice va L0.length vc, .slice ua ws.length uc] 29))) := (HB1.out.trans (hb2.mono (by omega))).alloc (by omega) _; have BX3 : Hid (Blk (w2.alloc (.cells #[.int .i64 n, .slice va L0.length vc, .slice ua ws.length uc] 29)) w.heap.size #[.int .i64 n, .slice a l.length cap, .slice a2 ws.length cap2] 29) := (BX1.out.below hb2 (by omega)).alloc _; have BQ3 : Hid (Blk (w2.alloc (.cells #[.int .i64 n, .slice va L0.length vc, .slice ua ws.length uc] 29)) w2.heap.size #[.int .i64 n, .slice va L0.length vc, .slice ua ws.length uc] 29) := Blk.new _ _ _; have BR3 : Hid (Blk (w2.alloc (.cells #[.int .i64 n, .slice va L0.length vc, .slice ua ws.length uc] 29)) (w.heap.size + 1) #[.int .i64 0, .slice none 0 0, .slice none 0 0] 29) := (BR1.out.below hb2 (by omega)).alloc _; have x30 : (w2.alloc (.cells #[.int .i64 n, .slice va L0.length vc, .slice ua ws.length uc] 29)).cell? ⟨w.heap.size, 0, none⟩ = some (.int .i64 n) := BX3.out.cell 0; have x31 : (w2.alloc (.cells #[.int .i64 n, .slice va L0.length vc, .slice ua ws.length uc] 29)).cell? ⟨w.heap.size, 1, none⟩ = some (.slice a l.length cap) := BX3.out.cell 1; have x32 : (w2.alloc (.cells #[.int .i64 n, .slice va L0.length vc, .slice ua ws.length uc] 29)).cell? ⟨w.heap.size, 2, none⟩ = some (.slice a2 ws.length cap2) := BX3.out.cell 2; have q30 : (w2.alloc (.cells #[.int .i64 n, .slice va L0.length vc, .slice ua ws.length uc] 29)).cell? ⟨w2.heap.size, 0, none⟩ = some (.int .i64 n) := BQ3.out.cell 0; have q31 : (w2.alloc (.cells #[.int .i64 n, .slice va L0.length vc, .slice ua ws.length uc] 29)).cell? ⟨w2.heap.size, 1, none⟩ = some (.slice va L0.length vc) := BQ3.out.cell 1; have q32 : (w2.alloc (.cells #[.int .i64 n, .slice va L0.length vc, .slice ua ws.length uc] 29)).cell? ⟨w2.heap.size, 2, none⟩ = some (.slice ua ws.length uc) := BQ3.out.cell 2; have r30 : (w2.alloc (.cells #[.int .i64 n, .slice va L0.length vc, .slice ua ws.length uc] 29)).cell? ⟨w.heap.size + 1, 0, none⟩ = some (.int .i64 0) := BR3.out.cell 0; have r31 : (w2.alloc (.cells #[.int .i64 n, .slice va L0.length vc, .slice ua ws.length uc] 29)).cell? ⟨w.heap.size + 1, 1, none⟩ = some (.slice none 0 0) := BR3.out.cell 1; have r32 : (w2.alloc (.cells #[.int .i64 n, .slice va L0.length vc, .slice ua ws.length uc] 29)).cell? ⟨w.heap.size + 1, 2, none⟩ = some (.slice none 0 0) := BR3.out.cell 2; have fr3 := BR3.out.free; clear hO2 hI2 hd2 hb2 hcL x10 x11 x12 r10 r11 r12 fr1)
      | (go_at_call 48; refine (within_any _ _ _ _).mono ?_; rintro e w9 ⟨rfl, hw9⟩; subst hw9; rw [hid]))
    refine bodyPost_ret (v := .agg #[.int .i64 n, .slice va L0.length vc, .slice ua ws.length uc]) (by simp [results, Try.results11, go_sem, *]) rfl ⟨va, vc, ua, uc, L0, rfl, HCL.out, ?_, ?_⟩
    · have k6 : ∀ k, w1.heap.size ≤ k → k < w2.heap.size → ((((w2.alloc (.cells #[.int .i64 n, .slice va L0.length vc, .slice ua ws.length uc] 29)).setCell ⟨w.heap.size + 1, 0, none⟩ (.int .i64 n)).setCell ⟨w.heap.size + 1, 1, none⟩ (.slice va L0.length vc)).setCell ⟨w.heap.size + 1, 2, none⟩ (.slice ua ws.length uc)).heap[k]? = w2.heap[k]? := fun k hk hk2 => by
        rw [Below.heap_setCell _ _ _ _ (by simp only []; omega), Below.heap_setCell _ _ _ _ (by simp only []; omega), Below.heap_setCell _ _ _ _ (by simp only []; omega), Below.heap_alloc w2 _ k hk2]
      have hL : L0.length ≤ maxLen := by rw [HLL.out]; unfold maxLen; omega
      exact (BagR.own (HO2.out.keep k6) (HI2.out.keep k6) HD2.out hL (by unfold maxLen; omega)).wide (by omega) (Nat.le_refl _)
    · exact ((HB3.out.setCell (Nat.le_succ _) _).setCell (Nat.le_succ _) _).setCell (Nat.le_succ _) _
  have hid7 := (inB_iff _ _ _).1 hid
  rw [show wallAns n (cont l) ws id up = (n, cont l, wallsNew ws id (up != 0) 7) by simp [wallAns, hbag, hid]]
  clear hbag
  go_enter Try.func11, Try.ntmps11
  go_wp2_with (first
    | (go_at_call 46; refine (HF.out _ hb0.out).mono ?_; rintro e w1 ⟨rfl, hb1⟩; have HB1 : Hid (Below w.heap.size w w1) := hb0.out.trans (hb1.mono (by simp; omega)); have BX1 : Hid (Blk w1 w.heap.size #[.int .i64 n, .slice a l.length cap, .slice a2 ws.length cap2] 29) := ((Blk.new w _ _).alloc _).below hb1 (by simp; omega); have BR1 : Hid (Blk w1 (w.heap.size + 1) #[.int .i64 0, .slice none 0 0, .slice none 0 0] 29) := (Blk.new' (w.alloc _) _ _ (by simp)).below hb1 (by simp); have hz1 : w.heap.size + 2 ≤ w1.heap.size := (by have := hb1.size; simp at this; omega); have x10 : w1.cell? ⟨w.heap.size, 0, none⟩ = some (.int .i64 n) := BX1.out.cell 0; have x11 : w1.cell? ⟨w.heap.size, 1, none⟩ = some (.slice a l.length cap) := BX1.out.cell 1; have x12 : w1.cell? ⟨w.heap.size, 2, none⟩ = some (.slice a2 ws.length cap2) := BX1.out.cell 2; have r10 : w1.cell? ⟨w.heap.size + 1, 0, none⟩ = some (.int .i64 0) := BR1.out.cell 0; have r11 : w1.cell? ⟨w.heap.size + 1, 1, none⟩ = some (.slice none 0 0) := BR1.out.cell 1; have r12 : w1.cell? ⟨w.heap.size + 1, 2, none⟩ = some (.slice none 0 0) := BR1.out.cell 2; have fr1 := BR1.out.free; clear hb1)
    | (go_at_call 47; refine (HCB.out _ HB1.out).mono ?_; rintro e w2 ⟨v, u, L0, rfl, hcL, hO2, hI2, hd2, hb2⟩; obtain ⟨va, vc, rfl⟩ := hO2.shape; obtain ⟨ua, uc, rfl⟩ := hI2.shape; have HO2 : Hid (OwnP w2 w1.heap.size (.slice va L0.length vc) L0) := hO2; have HI2 : Hid (OwnI w2 w1.heap.size (.slice ua ws.length uc) ws) := hI2; have HD2 : Hid (∀ k, (Value.slice ua ws.length uc).ownBlock = some k → (Value.slice va L0.length vc).ownBlock ≠ some k ∧ ∀ p ∈ L0, p.2.ownBlock ≠ some k) := hd2; have HB2 : Hid (Below w1.heap.size w1 w2) := hb2; have HCL : Hid (cont L0 = cont l) := hcL; have hz2 := hb2.size; have HLL : Hid (L0.length = l.length) := (by show _ = _; rw [← cont_len L0, hcL, cont_len]); have HB3 : Hid (Below w.heap.size w (w2.alloc (.cells #[.int .i64 n, .slice va L0.length vc, .slice ua ws.length uc] 29))) := (HB1.out.trans (hb2.mono (by omega))).alloc (by omega) _; have BX3 : Hid (Blk (w2.alloc (.cells #[.int .i64 n, .slice va L0.length vc, .slice ua ws.length uc] 29)) w.heap.size #[.int .i64 n, .slice a l.length cap, .slice a2 ws.length cap2] 29) := (BX1.out.below hb2 (by omega)).alloc _; have BQ3 : Hid (Blk (w2.alloc (.cells #[.int .i64 n, .slice va L0.length vc, .slice ua ws.length uc] 29)) w2.heap.size #[.int .i64 n, .slice va L0.length vc, .slice ua ws.length uc] 29) := Blk.new _ _ _; have BR3 : Hid (Blk (w2.alloc (.cells #[.int .i64 n, .slice va L0.length vc, .slice ua ws.length uc] 29)) (w.heap.size + 1) #[.int .i64 0, .slice none 0 0, .slice none 0 0] 29) := (BR1.out.below hb2 (by omega)).alloc _; have x30 : (w2.alloc (.cells #[.int .i64 n, .slice va L0.length vc, .slice ua ws.length uc] 29)).cell? ⟨w.heap.size, 0, none⟩ = some (.int .i64 n) := BX3.out.cell 0; have x31 : (w2.alloc (.cells #[.int .i64 n, .slice va L0.length vc, .slice ua ws.length uc] 29)).cell? ⟨w.heap.size, 1, none⟩ = some (.slice a l.length cap) := BX3.out.cell 1; have x32 : (w2.alloc (.cells #[.int .i64 n, .slice va L0.length vc, .slice ua ws.length uc] 29)).cell? ⟨w.heap.size, 2, none⟩ = some (.slice a2 ws.length cap2) := BX3.out.cell 2; have q30 : (w2.alloc (.cells #[.int .i64 n, .slice va L0.length vc, .slice ua ws.length uc] 29)).cell? ⟨w2.heap.size, 0, none⟩ = some (.int .i64 n) := BQ3.out.cell 0; have q31 : (w2.alloc (.cells #[.int .i64 n, .slice va L0.length vc, .slice ua ws.length uc] 29)).cell? ⟨w2.heap.size, 1, none⟩ = some (.slice va L0.length vc) := BQ3.out.cell 1; have q32 : (w2.alloc (.cells #[.int .i64 n, .slice va L0.length vc, .slice ua ws.length uc] 29)).cell? ⟨w2.heap.size, 2, none⟩ = some (.slice ua ws.length uc) := BQ3.out.cell 2; have r30 : (w2.alloc (.cells #[.int .i64 n, .slice va L0.length vc, .slice ua ws.length uc] 29)).cell? ⟨w.heap.size + 1, 0, none⟩ = some (.int .i64 0) := BR3.out.cell 0; have r31 : (w2.alloc (.cells #[.int .i64 n, .slice va L0.length vc, .slice ua ws.length uc] 29)).cell? ⟨w.heap.size + 1, 1, none⟩ = some (.slice none 0 0) := BR3.out.cell 1; have r32 : (w2.alloc (.cells #[.int .i64 n, .slice va L0.length vc, .slice ua ws.length uc] 29)).cell? ⟨w.heap.size + 1, 2, none⟩ = some (.slice none 0 0) := BR3.out.cell 2; have fr3 := BR3.out.free; clear hO2 hI2 hd2 hb2 hcL x10 x11 x12 r10 r11 r12 fr1)
    | (go_at_call 48; refine (within_any _ _ _ _).mono ?_; rintro e w9 ⟨rfl, hw9⟩; subst hw9; rw [hid])
    | (go_at_call 49; refine (setWall_any w2.heap.size n _ L0.length _ ua uc ws id (up != 0) _ BQ3.out ((HI2.out.r (by unfold maxLen; omega)).ix.below ((Below.refl _ _).alloc (Nat.le_refl _) _)) HR.out hid7 hw).mono ?_; rintro e w4 ⟨⟨ev, rfl⟩, ua', uc', hQ4, hI4, hT4⟩; have HQ4 : Hid (Blk w4 w2.heap.size #[.int .i64 n, .slice va L0.length vc, .slice ua' (wallsNew ws id (up != 0) 7).length uc'] 29) := hQ4; have HI4 : Hid (OwnI w4 (w2.alloc (.cells #[.int .i64 n, .slice va L0.length vc, .slice ua ws.length uc] 29)).heap.size (.slice ua' (wallsNew ws id (up != 0) 7).length uc') (wallsNew ws id (up != 0) 7)) := hI4; have HT4 : Hid (Touched (fun k => k = w2.heap.size) (w2.alloc (.cells #[.int .i64 n, .slice va L0.length vc, .slice ua ws.length uc] 29)) w4) := hT4; have hz4 : w2.heap.size + 1 ≤ w4.heap.size := (by have := hT4.size; simp at this; omega); have BR4 : Hid (Blk w4 (w.heap.size + 1) #[.int .i64 0, .slice none 0 0, .slice none 0 0] 29) := BR3.out.keep (hT4.block _ (by simp; omega) (by omega)); have q40 : w4.cell? ⟨w2.heap.size, 0, none⟩ = some (.int .i64 n) := hQ4.cell 0; have q41 : w4.cell? ⟨w2.heap.size, 1, none⟩ = some (.slice va L0.length vc) := hQ4.cell 1; have q42 : w4.cell? ⟨w2.heap.size, 2, none⟩ = some (.slice ua' (wallsNew ws id (up != 0) 7).length uc') := hQ4.cell 2; have r40 : w4.cell? ⟨w.heap.size + 1, 0, none⟩ = some (.int .i64 0) := BR4.out.cell 0; have r41 : w4.cell? ⟨w.heap.size + 1, 1, none⟩ = some (.slice none 0 0) := BR4.out.cell 1; have r42 : w4.cell? ⟨w.heap.size + 1, 2, none⟩ = some (.slice none 0 0) := BR4.out.cell 2; have fr4 := BR4.out.free; clear hQ4 hI4 hT4 x30 x31 x32 q30 q31 q32 r30 r31 r32 fr3))
  refine bodyPost_ret (v := .agg #[.int .i64 n, .slice va L0.length vc, .slice ua' (wallsNew ws id (up != 0) 7).length uc']) (by simp [results, Try.results11, go_sem, *]) rfl ⟨va, vc, ua', uc', L0, rfl, HCL.out, ?_, ?_⟩
  · have k5 : ∀ k, k ≠ w.heap.size + 1 → (((w4.setCell ⟨w.heap.size + 1, 0, none⟩ (.int .i64 n)).setCell ⟨w.heap.size + 1, 1, none⟩ (.slice va L0.length vc)).setCell ⟨w.heap.size + 1, 2, none⟩ (.slice ua' (wallsNew ws id (up != 0) 7).length uc')).heap[k]? = w4.heap[k]? := fun k hk => by
      rw [Below.heap_setCell _ _ _ _ (by simpa using hk), Below.heap_setCell _ _ _ _ (by simpa using hk), Below.heap_setCell _ _ _ _ (by simpa using hk)]
    have hO : OwnP (((w4.setCell ⟨w.heap.size + 1, 0, none⟩ (.int .i64 n)).setCell ⟨w.heap.size + 1, 1, none⟩ (.slice va L0.length vc)).setCell ⟨w.heap.size + 1, 2, none⟩ (.slice ua' (wallsNew ws id (up != 0) 7).length uc')) w1.heap.size (.slice va L0.length vc) L0 := HO2.out.keep fun k h1 h2 => by
      rw [k5 k (by omega), HT4.out.block k (by simp; omega) (by omega), Below.heap_alloc w2 _ k h2]
    have hI : OwnI (((w4.setCell ⟨w.heap.size + 1, 0, none⟩ (.int .i64 n)).setCell ⟨w.heap.size + 1, 1, none⟩ (.slice va L0.length vc)).setCell ⟨w.heap.size + 1, 2, none⟩ (.slice ua' (wallsNew ws id (up != 0) 7).length uc')) w1.heap.size (.slice ua' (wallsNew ws id (up != 0) 7).length uc') (wallsNew ws id (up != 0) 7) := (HI4.out.keep fun k h1 _ => k5 k (by simp at h1; omega)).le (by simp; omega)
    have h7 := wallsNew_len ws id (up != 0) 7
    refine (BagR.own hO hI (fun k e => ?_) (by rw [HLL.out]; unfold maxLen; omega) (by unfold maxLen; omega)).wide (by omega) (Nat.le_refl _)
    have hk := (World.ownsRow.lt HI4.out k e).1
    (try simp at hk)
    refine ⟨fun e' => ?_, fun p hp e' => ?_⟩
    · have := HO2.out.lts.1 k e'; omega
    · have := HO2.out.lts.2 p hp k e'; omega
  · have h34 : Below w.heap.size (w2.alloc (.cells #[.int .i64 n, .slice va L0.length vc, .slice ua ws.length uc] 29)) w4 := ⟨HT4.out.os, HT4.out.tape, HT4.out.output, HT4.out.size, fun k hk => HT4.out.block k (by simp; omega) (by omega)⟩
    exact (((HB3.out.trans h34).setCell (Nat.le_succ _) _).setCell (Nat.le_succ _) _).setCell (Nat.le_succ _) _
end Go.Proofs.Ytfcmffdljfljkaa

/-
  FnBag: what is put is taken; walls (pure).
-/
namespace Go.Proofs.Ytfcmffdljfljkaa
open Go.RowKit
set_option linter.unusedVariables false
set_option linter.unusedSimpArgs false

theorem pksB_more (n f t : Int) (bs : List Int) (hp : pkF f t bs.length = true) : ∀ (l : List Pkt) (last : Int), last < n → pksB n last l = true → pksB (n + 1) last (l ++ [⟨n, f, t, bs⟩]) = true
  | [], last, hl, _ => by
    have h1 : inB n (last + 1) (n + 1 - 1) = true := (inB_iff _ _ _).2 ⟨by omega, by omega⟩
    show ((inB n (last + 1) (n + 1 - 1) && pkF f t bs.length) && pksB (n + 1) n []) = true
    rw [h1, hp]
    rfl
  | p :: l, last, hl, h => by
    have h' : ((inB p.id (last + 1) (n - 1) && pkF p.fr p.tq p.bs.length) && pksB n p.id l) = true := h
    rw [Bool.and_eq_true, Bool.and_eq_true] at h'
    have hi := (inB_iff _ _ _).1 h'.1.1
    have h1 : inB p.id (last + 1) (n + 1 - 1) = true := (inB_iff _ _ _).2 ⟨by omega, by omega⟩
    have h2 := pksB_more n f t bs hp l p.id (by omega) h'.2
    show ((inB p.id (last + 1) (n + 1 - 1) && pkF p.fr p.tq p.bs.length) && pksB (n + 1) p.id (l ++ [⟨n, f, t, bs⟩])) = true
    rw [h1, h'.1.2, h2]
    rfl
theorem pksB_ids (n : Int) : ∀ (l : List Pkt) (last : Int), pksB n last l = true → ∀ p ∈ l, p.id < n
  | [], _, _, p, hp => by cases hp
  | q :: l, last, h, p, hp => by
    have h' : ((inB q.id (last + 1) (n - 1) && pkF q.fr q.tq q.bs.length) && pksB n q.id l) = true := h
    rw [Bool.and_eq_true, Bool.and_eq_true] at h'
    rcases List.mem_cons.1 hp with e | hp
    · have hi := (inB_iff _ _ _).1 h'.1.1
      rw [e]
      omega
    · exact pksB_ids n l q.id h'.2 p hp
theorem putC_zero {n : Int} {len : Nat} {ws : List Int} {f t : Int} {bn : Nat} (h : putC n len ws f t bn = 0) : pkF f t bn = true ∧ ws.contains f = false ∧ ws.contains t = false ∧ len ≠ 4096 ∧ n ≠ 1099511627776 := by
  unfold putC at h
  cases h1 : pkF f t bn with
  | false => rw [h1, if_pos rfl] at h; omega
  | true =>
    rw [h1, if_neg (by simp)] at h
    by_cases h2 : (ws.contains f || ws.contains t) = true
    · rw [if_pos h2] at h; omega
    · rw [if_neg h2] at h
      by_cases h3 : len = 4096 ∨ n = 1099511627776
      · rw [if_pos h3] at h; omega
      · simp only [Bool.or_eq_true, not_or, Bool.not_eq_true] at h2
        exact ⟨rfl, h2.1, h2.2, fun e => h3 (.inl e), fun e => h3 (.inr e)⟩
/-- a bag with one packet more is well-formed -/
theorem bagB_more {n : Int} {l : List Pkt} {ws : List Int} {f t : Int} {bs : List Int} (h : bagB n l ws = true) (hc : putC n l.length ws f t bs.length = 0) : bagB (n + 1) (l ++ [⟨n, f, t, bs⟩]) ws = true := by
  obtain ⟨p1, p2, p3, p4, p5⟩ := putC_zero hc
  unfold bagB at h ⊢
  rw [Bool.and_eq_true, Bool.and_eq_true, Bool.and_eq_true] at h
  obtain ⟨⟨h1, h2, h3⟩, h4⟩ := h
  have hn := (inB_iff _ _ _).1 h1
  have hl : l.length ≤ 4096 := by simpa using h2
  have g1 : inB (n + 1) 1 1099511627776 = true := (inB_iff _ _ _).2 ⟨by omega, by omega⟩
  have g2 : decide ((l ++ [(⟨n, f, t, bs⟩ : Pkt)]).length ≤ 4096) = true := decide_eq_true (by rw [List.length_append]; simp; omega)
  rw [g1, g2, pksB_more n f t bs p1 l 0 (by omega) h3, h4]
  rfl
/-- .. and the last is taken from it, kept -/
theorem take_last {n : Int} {l : List Pkt} {ws : List Int} {f t : Int} {bs : List Int} (h : bagB n l ws = true) (hc : putC n l.length ws f t bs.length = 0) :
    takeAns (n + 1) (l ++ [⟨n, f, t, bs⟩]) ws (-1) 1 = ⟨0, 0, ⟨n, f, t, bs⟩, n + 1, l ++ [⟨n, f, t, bs⟩], ws⟩ := by
  obtain ⟨p1, p2, p3, p4, p5⟩ := putC_zero hc
  have hb := bagB_more h hc
  have hlen : (l ++ [(⟨n, f, t, bs⟩ : Pkt)]).length = l.length + 1 := by simp
  have hm := takeAt_lt (l ++ [(⟨n, f, t, bs⟩ : Pkt)]) (-1) (by omega)
  have ht : takeAt (l ++ [(⟨n, f, t, bs⟩ : Pkt)]) (-1) = l.length := by
    have e : modI (-1) ((l ++ [(⟨n, f, t, bs⟩ : Pkt)]).length : Int) = (l.length : Int) := by
      rw [hlen]
      unfold modI
      have : (-1 : Int) % ((l.length + 1 : Nat) : Int) = (l.length : Int) := by
        rw [Int.emod_def]
        have hd : (-1 : Int) / ((l.length + 1 : Nat) : Int) = -1 := by
          rw [Int.neg_one_ediv]
          have : ((l.length + 1 : Nat) : Int).sign = 1 := Int.sign_eq_one_of_pos (by omega)
          rw [this]
        rw [hd]
        omega
      exact this
    have := hm.2
    rw [e] at this
    omega
  have hg : (l ++ [(⟨n, f, t, bs⟩ : Pkt)]).getD l.length noPk = ⟨n, f, t, bs⟩ := by
    simp [List.getD_eq_getElem?_getD]
  unfold takeAns
  rw [hb, if_neg (by simp), if_neg (by omega), ht, hg, p2, p3, if_neg (by simp), if_neg (by decide)]
end Go.Proofs.Ytfcmffdljfljkaa

/-
  FnBag: walls put up and taken down (pure).
-/
namespace Go.Proofs.Ytfcmffdljfljkaa
open Go.RowKit
set_option linter.unusedVariables false
set_option linter.unusedSimpArgs false

theorem riseB_of : ∀ (l : List Int) (last : Int), l.Pairwise (· < ·) → (∀ x ∈ l, last < x ∧ x ≤ 7) → riseB 7 last l = true
  | [], _, _, _ => rfl
  | x :: l, last, hp, hm => by
    have h1 := hm x (List.mem_cons_self ..)
    have hi : inB x (last + 1) 7 = true := (inB_iff _ _ _).2 ⟨by omega, h1.2⟩
    have hp' := List.pairwise_cons.1 hp
    have hr := riseB_of l x hp'.2 (fun y hy => ⟨hp'.1 y hy, (hm y (List.mem_cons_of_mem _ hy)).2⟩)
    show (inB x (last + 1) 7 && riseB 7 x l) = true
    rw [hi, hr]
    rfl
theorem wallsNew_rise (ws : List Int) (id : Int) (up : Bool) : riseB 7 0 (wallsNew ws id up 7) = true :=
  riseB_of _ 0 (wallsNew_lt ws id up 7) (fun x hx => by have := (wallsNew_mem ws id up 7 x).1 hx; omega)
theorem bagB_walls {n : Int} {pl : List Pkt} {W W' : List Int} (h : bagB n pl W = true) (hw : riseB 7 0 W' = true) : bagB n pl W' = true := by
  unfold bagB at h ⊢
  rw [Bool.and_eq_true] at h
  rw [h.1, hw]
  rfl
theorem rise_mem {W : List Int} (h : riseB 7 0 W = true) : ∀ x ∈ W, 1 ≤ x ∧ x ≤ 7 := riseB_in7 h (Int.le_refl _)
theorem bagB_rise {n : Int} {pl : List Pkt} {W : List Int} (h : bagB n pl W = true) : riseB 7 0 W = true := by
  unfold bagB at h
  rw [Bool.and_eq_true] at h
  exact h.2
/-- the walls behind a wall put up -/
theorem up_mem {W : List Int} (hW : riseB 7 0 W = true) (id : Int) (h1 : 1 ≤ id) (h7 : id ≤ 7) (x : Int) : (wallsNew W id true 7).contains x = (decide (x = id) || W.contains x) := by
  have hm := wallsNew_mem W id true 7 x
  have hr := rise_mem hW
  by_cases e : x = id
  · subst e
    have : x ∈ wallsNew W x true 7 := hm.2 ⟨⟨by omega, by omega⟩, by unfold wallOne; rw [if_pos rfl]⟩
    simp [this]
  · by_cases hx : x ∈ W
    · have hb := hr x hx
      have : x ∈ wallsNew W id true 7 := hm.2 ⟨⟨by omega, by omega⟩, by unfold wallOne; rw [if_neg e]; simpa using hx⟩
      simp [this, hx]
    · have : x ∉ wallsNew W id true 7 := fun h => by
        have := (hm.1 h).2
        unfold wallOne at this
        rw [if_neg e] at this
        exact hx (by simpa using this)
      simp [this, hx, e]
/-- .. and behind it taken down again -/
theorem down_mem {W : List Int} (id : Int) (x : Int) : x ∈ wallsNew W id false 7 → x ≠ id ∧ x ∈ W := fun h => by
  have := (wallsNew_mem W id false 7 x).1 h
  unfold wallOne at this
  by_cases e : x = id
  · rw [if_pos e] at this
    cases this.2
  · rw [if_neg e] at this
    exact ⟨e, by simpa using this.2⟩
theorem down_all {W : List Int} (hW : riseB 7 0 W = true) (id : Int) (h1 : 1 ≤ id) (h7 : id ≤ 7) (x : Int) (hx : x ∈ W) : x = id ∨ x ∈ wallsNew (wallsNew W id true 7) id false 7 := by
  by_cases e : x = id
  · exact .inl e
  · have hb := rise_mem hW x hx
    refine .inr ((wallsNew_mem _ _ _ _ _).2 ⟨⟨by omega, by omega⟩, ?_⟩)
    unfold wallOne
    rw [if_neg e, up_mem hW id h1 h7 x]
    simp [hx]
/-- a packet from or tq a server behind the wall is kept out -/
theorem put_walled {n : Int} {pl : List Pkt} {W : List Int} (h : bagB n pl W = true) (f t : Int) (bs : List Int) (hf : pkF f t bs.length = true) (hc : (W.contains f || W.contains t) = true) : putAns n pl W f t bs = (3, 0, n, pl, W) := by
  have hp : putC n pl.length W f t bs.length = 3 := by
    unfold putC
    rw [hf, if_neg (by simp), if_pos hc]
  unfold putAns
  rw [h, if_neg (by simp), hp, if_neg (by decide)]
theorem pkF_one (id : Int) (h1 : 1 ≤ id) (h7 : id ≤ 7) : pkF id (1 + id % 7) 1 = true ∧ pkF 11 id 1 = true := by
  have : id = 1 ∨ id = 2 ∨ id = 3 ∨ id = 4 ∨ id = 5 ∨ id = 6 ∨ id = 7 := by omega
  rcases this with rfl | rfl | rfl | rfl | rfl | rfl | rfl <;> decide
/-- what BagTake gives of the i-th packet, not kept -/
theorem take_at {n : Int} {pl : List Pkt} {W : List Int} (h : bagB n pl W = true) (i : Nat) (hi : i < pl.length) : takeAns n pl W i 0 = ⟨0, if W.contains pl[i].fr || W.contains pl[i].tq then 1 else 0, pl[i], n, pl.eraseIdx i, W⟩ := by
  have ht : takeAt pl i = i := by
    unfold takeAt modI
    rw [Int.emod_eq_of_lt (by omega) (by omega), Int.toNat_natCast]
  have hg : pl.getD i noPk = pl[i] := by simp [List.getD_eq_getElem?_getD, hi]
  unfold takeAns
  rw [h, if_neg (by simp), if_neg (by omega), ht, hg, if_pos rfl]
end Go.Proofs.Ytfcmffdljfljkaa

/-
  spec.l1src in memory; spec.l1next, spec.l1pick: the draws out of a code.
-/
namespace Go.Proofs.Ytfcmffdljfljkaa
open Go.RowKit
set_option linter.unusedVariables false

/-- the source in block g over the bytes l has given k of them -/
def Src (w : World) (g : Nat) (v : Value) (l : List Int) (k : Nat) : Prop :=
  g < w.heap.size ∧ (∀ i, w.frozen? ⟨g, i, none⟩ = false) ∧ Bs w v l ∧ w.cell? ⟨g, 0, none⟩ = some v ∧ w.cell? ⟨g, 1, none⟩ = some (.int .i64 k)

theorem src_set {w : World} {v : Value} {l : List Int} (h : Bs w v l) {b i : Nat} {x : Value} (hx : w.cell? ⟨b, i, none⟩ = some x) (hn : ∀ n, x ≠ .int .u8 n) (y : Value) : Bs (w.setCell ⟨b, i, none⟩ y) v l := by
  obtain ⟨hl, h8, a, cap, rfl, hc⟩ := h
  refine ⟨hl, h8, a, cap, rfl, fun j hj => ?_⟩
  obtain ⟨b', off, rfl, hj'⟩ := hc j hj
  refine ⟨b', off, rfl, fun m hm => ?_⟩
  have hcm := hj' m hm
  by_cases e : (⟨b, i, none⟩ : Addr) = ⟨b', off + m, none⟩
  · rw [← e, hx] at hcm
    injection hcm with hcm
    exact absurd hcm (hn _)
  · rw [World.cell?_setCell_other w _ _ _ e]; exact hcm

theorem Src.start (w : World) (v : Value) (l : List Int) (h : Bs w v l) (T : Nat) : Src (w.alloc (.cells #[v, .int .i64 0] T)) w.heap.size v l 0 := by
  refine ⟨by simp, fun i => by simp, h.below ((Below.refl _ _).alloc (Nat.le_refl _) _), ?_, ?_⟩ <;> rw [World.cell?_alloc_new] <;> rfl

theorem World.grownBy.trans' {w w1 w2 : World} {row : Option Nat} (h : w.grownBy w1 row) (k : w1.grownBy w2 row) : w.grownBy w2 row :=
  ⟨k.os.trans h.os, k.tape.trans h.tape, k.output.trans h.output, Nat.le_trans h.size k.size, fun i hi hne => (k.block i (Nat.lt_of_lt_of_le hi h.size) hne).trans (h.block i hi hne)⟩

/-- what the source gives at place k -/
def nextV (l : List Int) (k : Nat) : Int := if k < l.length then l[k]?.getD 0 else (((k * 167 + k / 3 * 41 + l.length * 29) % 256 : Nat) : Int)
theorem nextV_byte {l : List Int} (h : ∀ x ∈ l, 0 ≤ x ∧ x ≤ 255) (k : Nat) : 0 ≤ nextV l k ∧ nextV l k ≤ 255 := by
  unfold nextV
  split
  · exact byte_at h k
  · omega

set_option maxHeartbeats 2000000 in
set_option maxRecDepth 100000 in
theorem l1next_any (g : Nat) (w : World) (v : Value) (l : List Int) (k : Nat) (hL : l.length ≤ 1048576) (hk : k ≤ 1000000000) (h : Src w g v l k) :
    Calls Try.prog 73 #[.pointer (some ⟨g, 0, none⟩)] w fun e w' => e = .returned (.int .i64 (nextV l k)) ∧ Src w' g v l (k + 1) ∧ w.grownBy w' (some g) := by
  obtain ⟨hg, hf, hb, h0, h1⟩ := h
  have HE : ∀ m, Hid (Src ((w.drewN m).setCell ⟨g, 1, none⟩ (.int .i64 ((k + 1 : Nat) : Int))) g v l (k + 1) ∧ w.grownBy ((w.drewN m).setCell ⟨g, 1, none⟩ (.int .i64 ((k + 1 : Nat) : Int))) (some g)) := fun m => by
    refine ⟨⟨by simpa [World.setCell] using hg, fun i => ?_, src_set (w := w.drewN m) hb h1 (by intro n; simp) _, ?_, World.cell?_setCell_same (w.drewN m) _ _ h1⟩, ?_⟩
    · rw [World.frozen?_setCell]; exact hf i
    · rw [World.cell?_setCell_other _ _ _ _ (by intro h; injection h with _ h2 _; cases h2)]; exact h0
    · exact ⟨rfl, rfl, rfl, by simp [World.setCell], fun j _ hj => Below.heap_setCell _ _ _ _ (fun e => hj (by rw [e]))⟩
  have hf1 := hf 1
  have hby := nextV_byte hb.2.1 k
  obtain ⟨hl, h8, a, cap, rfl, hc⟩ := hb
  by_cases hlt : k < l.length
  · have hn : nextV l k = l[k]?.getD 0 := by unfold nextV; rw [if_pos hlt]
    rw [hn] at hby ⊢
    obtain ⟨b, off, rfl, hcell⟩ := hc k hlt
    have hck := hcell k hlt
    have hlt' : (k : Int) < (l.length : Int) := by omega
    clear hcell hc h8 hf hn
    generalize l[k]?.getD 0 = cc at hck hby ⊢
    obtain ⟨y0, y1⟩ := hby
    go_enter Try.func73, Try.ntmps73
    go_wp2
    go_quiet (fail)
    go_wp2
    go_quiet (fail)
    go_wp2
    go_ret
    exact ⟨rfl, (HE _).out.1, (HE _).out.2⟩
  · have hn : nextV l k = (((k * 167 + k / 3 * 41 + l.length * 29) % 256 : Nat) : Int) := by unfold nextV; rw [if_neg hlt]
    rw [hn] at hby ⊢
    have hlt' : ¬ (k : Int) < (l.length : Int) := by omega
    clear hc h8 hf
    go_enter Try.func73, Try.ntmps73
    go_wp2
    go_quiet (fail)
    go_wp2
    go_quiet (fail)
    go_wp2
    go_ret
    exact ⟨by simp, (HE _).out.1, (HE _).out.2⟩

/-- how many bytes a pick takes, and what it is -/
def pickK (n : Nat) : Nat := if n ≤ 256 then 1 else if n ≤ 65536 then 2 else 4
def pickX (l : List Int) (k n : Nat) : Int := if n ≤ 256 then nextV l k else if n ≤ 65536 then nextV l k * 256 + nextV l (k + 1) else (nextV l k * 256 + nextV l (k + 1)) * 65536 + nextV l (k + 1 + 1) * 256 + nextV l (k + 1 + 1 + 1)
def pickV (l : List Int) (k n : Nat) : Nat := (pickX l k n).toNat % n
theorem pickV_lt (l : List Int) (k n : Nat) (hn : 0 < n) : pickV l k n < n := Nat.mod_lt _ hn
theorem pickK_le (n : Nat) : pickK n ≤ 4 := by unfold pickK; split <;> (try split) <;> omega

theorem toNat_mod (x : Int) (n : Nat) (h : 0 ≤ x) : ((x.toNat % n : Nat) : Int) = x % (n : Int) := by rw [Int.natCast_emod, Int.toNat_of_nonneg h]

theorem Src.byte {w : World} {g : Nat} {v : Value} {l : List Int} {k : Nat} (h : Src w g v l k) (j : Nat) : 0 ≤ nextV l j ∧ nextV l j ≤ 255 := nextV_byte h.2.2.1.2.1 j

set_option maxHeartbeats 2000000 in
set_option maxRecDepth 100000 in
theorem l1pick_any (g : Nat) (w : World) (v : Value) (l : List Int) (k n : Nat) (hL : l.length ≤ 1048576) (hk : k ≤ 900000000) (hn : 0 < n) (hN : n ≤ 4294967296) (h : Src w g v l k) :
    Calls Try.prog 71 #[.pointer (some ⟨g, 0, none⟩), .int .i64 n] w fun e w' => e = .returned (.int .i64 (pickV l k n : Nat)) ∧ Src w' g v l (k + pickK n) ∧ w.grownBy w' (some g) := by
  have b0 := h.byte k
  have b1 := h.byte (k + 1)
  have b2 := h.byte (k + 1 + 1)
  have b3 := h.byte (k + 1 + 1 + 1)
  have HS : Hid (Src w g v l k) := h
  have HG : Hid (w.grownBy w (some g)) := ⟨rfl, rfl, rfl, Nat.le_refl _, fun _ _ _ => rfl⟩
  have g0 : True := trivial
  have g1 : True := trivial
  have g2 : True := trivial
  clear h
  by_cases h1 : n ≤ 256
  · have hv : (pickV l k n : Int) = nextV l k % (n : Int) := by
      unfold pickV pickX
      rw [if_pos h1]
      exact toNat_mod _ _ b0.1
    have hkk : pickK n = 1 := by unfold pickK; rw [if_pos h1]
    rw [hv, hkk]
    have hgt : ¬ (256 : Int) < n := by omega
    go_enter Try.func71, Try.ntmps71
    go_wp2_with (go_at_call 73; refine (l1next_any g _ v l _ hL (by omega) HS.out).mono ?_; rintro e w1 ⟨rfl, hs1, hg1⟩; replace HS : Hid (Src w1 g v l (k + 1)) := hs1; replace HG : Hid (w.grownBy w1 (some g)) := hg1; clear hs1 hg1; obtain ⟨c0, c1⟩ := b0)
    go_ret
    exact ⟨by simp, HS.out, HG.out⟩
  · by_cases h2 : n ≤ 65536
    · have hv : (pickV l k n : Int) = (nextV l k * 256 + nextV l (k + 1)) % (n : Int) := by
        unfold pickV pickX
        rw [if_neg h1, if_pos h2]
        exact toNat_mod _ _ (by omega)
      have hkk : pickK n = 1 + 1 := by unfold pickK; rw [if_neg h1, if_pos h2]
      rw [hv, hkk]
      have hgt : (256 : Int) < n := by omega
      have hgt2 : ¬ (65536 : Int) < n := by omega
      go_enter Try.func71, Try.ntmps71
      go_wp2_with (first
        | (go_at_call 73; clear g0; refine (l1next_any g _ v l k hL (by omega) HS.out).mono ?_; rintro e w1 ⟨rfl, hs1, hg1⟩; replace HS : Hid (Src w1 g v l (k + 1)) := hs1; replace HG : Hid (w.grownBy w1 (some g)) := hg1; clear hs1 hg1; obtain ⟨c0, c1⟩ := b0)
        | (go_at_call 73; refine (l1next_any g _ v l (k + 1) hL (by omega) HS.out).mono ?_; rintro e w2 ⟨rfl, hs1, hg1⟩; have HS2 : Hid (Src w2 g v l (k + 1 + 1)) := hs1; have HG2 : Hid (w.grownBy w2 (some g)) := World.grownBy.trans' HG.out hg1; clear hs1 hg1; obtain ⟨c2, c3⟩ := b1))
      go_ret
      exact ⟨by simp, HS2.out, HG2.out⟩
    · have hv : (pickV l k n : Int) = ((nextV l k * 256 + nextV l (k + 1)) * 65536 + nextV l (k + 1 + 1) * 256 + nextV l (k + 1 + 1 + 1)) % (n : Int) := by
        unfold pickV pickX
        rw [if_neg h1, if_neg h2]
        exact toNat_mod _ _ (by omega)
      have hkk : pickK n = 1 + 1 + 1 + 1 := by unfold pickK; rw [if_neg h1, if_neg h2]
      rw [hv, hkk]
      have hgt : (256 : Int) < n := by omega
      have hgt2 : (65536 : Int) < n := by omega
      go_enter Try.func71, Try.ntmps71
      go_wp2_with (first
        | (go_at_call 73; clear g0; refine (l1next_any g _ v l k hL (by omega) HS.out).mono ?_; rintro e w1 ⟨rfl, hs1, hg1⟩; replace HS : Hid (Src w1 g v l (k + 1)) := hs1; replace HG : Hid (w.grownBy w1 (some g)) := hg1; clear hs1 hg1; obtain ⟨c0, c1⟩ := b0)
        | (go_at_call 73; clear g1; refine (l1next_any g _ v l (k + 1) hL (by omega) HS.out).mono ?_; rintro e w2 ⟨rfl, hs1, hg1⟩; have HS2 : Hid (Src w2 g v l (k + 1 + 1)) := hs1; have HG2 : Hid (w.grownBy w2 (some g)) := World.grownBy.trans' HG.out hg1; clear hs1 hg1; obtain ⟨c2, c3⟩ := b1)
        | (go_at_call 73; clear g2; refine (l1next_any g _ v l (k + 1 + 1) hL (by omega) HS2.out).mono ?_; rintro e w3 ⟨rfl, hs1, hg1⟩; have HS3 : Hid (Src w3 g v l (k + 1 + 1 + 1)) := hs1; have HG3 : Hid (w.grownBy w3 (some g)) := World.grownBy.trans' HG2.out hg1; clear hs1 hg1; obtain ⟨c4, c5⟩ := b2)
        | (go_at_call 73; refine (l1next_any g _ v l (k + 1 + 1 + 1) hL (by omega) HS3.out).mono ?_; rintro e w4 ⟨rfl, hs1, hg1⟩; have HS4 : Hid (Src w4 g v l (k + 1 + 1 + 1 + 1)) := hs1; have HG4 : Hid (w.grownBy w4 (some g)) := World.grownBy.trans' HG3.out hg1; clear hs1 hg1; obtain ⟨c6, c7⟩ := b3))
      go_ret
      exact ⟨by simp, HS4.out, HG4.out⟩

end Go.Proofs.Ytfcmffdljfljkaa

/-
  Over a store into a row.
-/
namespace Go.Proofs.Ytfcmffdljfljkaa
open Go.RowKit
set_option linter.unusedVariables false

theorem Rd.frame {w : World} {b : Nat} (x : Nat) (v : Value) : w.grownBy (w.setCell ⟨b, x, none⟩ v) (some b) :=
  ⟨rfl, rfl, rfl, by simp [World.setCell], fun k _ hk => Below.heap_setCell _ _ _ _ (fun e => hk (by rw [e]))⟩

theorem grownBy_trans {w w1 w2 : World} {row : Option Nat} (h : w.grownBy w1 row) (k : w1.grownBy w2 row) : w.grownBy w2 row :=
  ⟨k.os.trans h.os, k.tape.trans h.tape, k.output.trans h.output, Nat.le_trans h.size k.size, fun i hi hne => (k.block i (Nat.lt_of_lt_of_le hi h.size) hne).trans (h.block i hi hne)⟩
theorem grownBy_refl (w : World) (row : Option Nat) : w.grownBy w row := ⟨rfl, rfl, rfl, Nat.le_refl _, fun _ _ _ => rfl⟩
end Go.Proofs.Ytfcmffdljfljkaa
