/-
  impl.BagPut.
-/
import Derived.Test.YthondmpnleleiaaPkPutP
import Derived.Test.YthondmpnleleiaaPkBag
namespace Go.Proofs.Ythondmpnleleiaa
open Go.RowKit Go.Maps
set_option linter.unusedVariables false
set_option linter.unusedSimpArgs false

/-- what a put answers: code, number, the bag's next, its packets, its walls -/
def putAns (n : Int) (l : List Pkt) (ws : List Int) (f t : Int) (bs : List Int) : Int × Int × Int × List Pkt × List Int :=
  if bagB n l ws = false then (1, 0, 0, [], []) else if putC n l.length ws f t bs.length = 0 then (0, n, n + 1, l ++ [⟨n, f, t, bs⟩], ws) else (putC n l.length ws f t bs.length, 0, n, l, ws)
def PutAt (w w' : World) (e : Ending) (x : Int × Int × Int × List Pkt × List Int) : Prop :=
  ∃ va vc ua uc L, e = .returned (.agg #[.int .i64 x.1, .int .i64 x.2.1, .int .i64 x.2.2.1, .slice va L.length vc, .slice ua x.2.2.2.2.length uc]) ∧ cont L = x.2.2.2.1 ∧ BagR w.heap.size w'.heap.size w' (.slice va L.length vc) (.slice ua x.2.2.2.2.length uc) L x.2.2.2.2 ∧ Below w.heap.size w w'
theorem riseB_in {most last : Int} {l : List Int} (h : riseB most last l = true) (h0 : 0 ≤ last) : ∀ y ∈ l, 0 ≤ y ∧ y ≤ most := by
  induction l generalizing last with
  | nil => intro y hy; cases hy
  | cons x l ih =>
    rw [riseB, Bool.and_eq_true] at h
    have hx := (inB_iff _ _ _).1 h.1
    intro y hy
    rcases List.mem_cons.1 hy with rfl | hy
    · omega
    · exact ih h.2 (by omega) y hy
theorem bagB_facts {n : Int} {l : List Pkt} {ws : List Int} (h : bagB n l ws = true) : (1 ≤ n ∧ n ≤ 1099511627776) ∧ l.length ≤ 4096 ∧ ∀ y ∈ ws, 0 ≤ y ∧ y ≤ 1000 := by
  simp only [bagB, Bool.and_eq_true, decide_eq_true_eq] at h
  refine ⟨(inB_iff _ _ _).1 h.1.1, h.1.2.1, fun y hy => ?_⟩
  have := riseB_in h.2 (by omega) y hy
  omega
set_option maxHeartbeats 8000000 in
set_option maxRecDepth 100000 in
theorem bagPut_any (n : Int) (a : Option Addr) (cap : Nat) (a2 : Option Addr) (cap2 : Nat) (l : List Pk) (ws : List Int) (f t : Int) (a3 : Option Addr) (cap3 : Nat) (bs : List Int) (w : World) (hv : Pks w (.slice a l.length cap) l) (hu : Ix w (.slice a2 ws.length cap2) ws) (hb : Bs w (.slice a3 bs.length cap3) bs) (hl : l.length + bulk (cont l) ≤ 1048576) (hw : ws.length ≤ 1048576) (hbl : bs.length ≤ 1048576) :
    Calls Try.prog 16 #[.agg #[.int .i64 n, .slice a l.length cap, .slice a2 ws.length cap2], .int .i64 f, .int .i64 t, .slice a3 bs.length cap3] w fun e w' => PutAt w w' e (putAns n (cont l) ws f t bs) := by
  have HF : Hid (∀ w', Below w.heap.size w w' → Calls Try.prog 38 #[.agg #[.int .i64 n, .slice a l.length cap, .slice a2 ws.length cap2]] w' fun e w'' => e = .returned (.bool (bagB n (cont l) ws)) ∧ Below w'.heap.size w' w'') := fun w' h => bagFits_any n _ _ l ws w' (hv.below h) (hu.below h)
  have hb0 : Hid (Below w.heap.size w ((w.alloc (.cells #[.int .i64 n, .slice a l.length cap, .slice a2 ws.length cap2] 29)).alloc (.cells #[.int .i64 0, .int .i64 0, .int .i64 0, .slice none 0 0, .slice none 0 0] 37))) := ((Below.refl _ _).alloc (Nat.le_refl _) _).alloc (by simp) _
  cases hbag : bagB n (cont l) ws
  · rw [hbag] at HF
    rw [show putAns n (cont l) ws f t bs = (1, 0, 0, [], []) by simp [putAns, hbag]]
    go_enter Try.func16, Try.ntmps16
    go_wp2_with (go_at_call 38; refine (HF.out _ hb0.out).mono ?_; rintro e w1 ⟨rfl, hb1⟩; have HB1 : Hid (Below w.heap.size w w1) := hb0.out.trans (hb1.mono (by simp; omega)); have BX1 : Hid (Blk w1 w.heap.size #[.int .i64 n, .slice a l.length cap, .slice a2 ws.length cap2] 29) := ((Blk.new w _ _).alloc _).below hb1 (by simp; omega); have BR1 : Hid (Blk w1 (w.heap.size + 1) #[.int .i64 0, .int .i64 0, .int .i64 0, .slice none 0 0, .slice none 0 0] 37) := (Blk.new' (w.alloc _) _ _ (by simp)).below hb1 (by simp); have hz1 : w.heap.size + 2 ≤ w1.heap.size := (by have := hb1.size; simp at this; omega); have x0 : w1.cell? ⟨w.heap.size, 0, none⟩ = some (.int .i64 n) := BX1.out.cell 0; have x1 : w1.cell? ⟨w.heap.size, 1, none⟩ = some (.slice a l.length cap) := BX1.out.cell 1; have x2 : w1.cell? ⟨w.heap.size, 2, none⟩ = some (.slice a2 ws.length cap2) := BX1.out.cell 2; have r0 : w1.cell? ⟨w.heap.size + 1, 0, none⟩ = some (.int .i64 0) := BR1.out.cell 0; have r1 : w1.cell? ⟨w.heap.size + 1, 1, none⟩ = some (.int .i64 0) := BR1.out.cell 1; have r2 : w1.cell? ⟨w.heap.size + 1, 2, none⟩ = some (.int .i64 0) := BR1.out.cell 2; have r3 : w1.cell? ⟨w.heap.size + 1, 3, none⟩ = some (.slice none 0 0) := BR1.out.cell 3; have r4 : w1.cell? ⟨w.heap.size + 1, 4, none⟩ = some (.slice none 0 0) := BR1.out.cell 4; have fr1 := BR1.out.free; clear hb1)
    refine bodyPost_ret (v := .agg #[.int .i64 1, .int .i64 0, .int .i64 0, .slice none 0 0, .slice none 0 0]) (by simp [results, Try.results16, go_sem, *]) rfl ⟨none, 0, none, 0, [], rfl, rfl, BagR.nil _ _ _, ?_⟩
    exact ((((HB1.out.setCell (Nat.le_succ _) _).setCell (Nat.le_succ _) _).setCell (Nat.le_succ _) _).setCell (Nat.le_succ _) _).setCell (Nat.le_succ _) _
  rw [hbag] at HF
  obtain ⟨hn, hl4, hrng⟩ := bagB_facts hbag
  have HR : Hid (∀ y ∈ ws, 0 ≤ y ∧ y ≤ 1000) := hrng
  have HCB : Hid (∀ w', Below w.heap.size w w' → Calls Try.prog 39 #[.agg #[.int .i64 n, .slice a l.length cap, .slice a2 ws.length cap2]] w' fun e w'' => ∃ v u L, e = .returned (.agg #[.int .i64 n, v, u]) ∧ cont L = cont l ∧ OwnP w'' w'.heap.size v L ∧ OwnI w'' w'.heap.size u ws ∧ (∀ k, u.ownBlock = some k → v.ownBlock ≠ some k ∧ ∀ p ∈ L, p.2.ownBlock ≠ some k) ∧ Below w'.heap.size w' w'') := fun w' h => copyBag_any n a cap a2 cap2 l ws w' (hv.below h) (hu.below h) (by omega) (fun p hp => by have := bulk_mem (List.mem_map_of_mem (f := Prod.fst) hp); unfold cont at hl; omega) hw
  have HCP : Hid (∀ w', Below w.heap.size w w' → Calls Try.prog 51 #[.agg #[.int .i64 0, .int .i64 f, .int .i64 t, .slice a3 bs.length cap3]] w' fun e w'' => ∃ a' cap', e = .returned (.agg #[.int .i64 0, .int .i64 f, .int .i64 t, .slice a' bs.length cap']) ∧ Own w'' w'.heap.size (.slice a' bs.length cap') bs ∧ Below w'.heap.size w' w'') := fun w' h => copyPacket_any 0 f t _ bs w' (hb.below h) hbl
  rw [cont_len] at hl4
  clear hv hu hb hrng
  by_cases hc : putC n l.length ws f t bs.length = 0
  · have HC : Hid (putC n l.length ws f t bs.length = 0) := hc
    rw [show putAns n (cont l) ws f t bs = (0, n, n + 1, cont l ++ [⟨n, f, t, bs⟩], ws) by simp [putAns, hbag, cont_len, hc]]
    clear hc hbag
    go_enter Try.func16, Try.ntmps16
    go_wp2_with (first
      | (go_at_call 38; refine (HF.out _ hb0.out).mono ?_; rintro e w1 ⟨rfl, hb1⟩; have HB1 : Hid (Below w.heap.size w w1) := hb0.out.trans (hb1.mono (by simp; omega)); have BX1 : Hid (Blk w1 w.heap.size #[.int .i64 n, .slice a l.length cap, .slice a2 ws.length cap2] 29) := ((Blk.new w _ _).alloc _).below hb1 (by simp; omega); have BR1 : Hid (Blk w1 (w.heap.size + 1) #[.int .i64 0, .int .i64 0, .int .i64 0, .slice none 0 0, .slice none 0 0] 37) := (Blk.new' (w.alloc _) _ _ (by simp)).below hb1 (by simp); have hz1 : w.heap.size + 2 ≤ w1.heap.size := (by have := hb1.size; simp at this; omega); have x0 : w1.cell? ⟨w.heap.size, 0, none⟩ = some (.int .i64 n) := BX1.out.cell 0; have x1 : w1.cell? ⟨w.heap.size, 1, none⟩ = some (.slice a l.length cap) := BX1.out.cell 1; have x2 : w1.cell? ⟨w.heap.size, 2, none⟩ = some (.slice a2 ws.length cap2) := BX1.out.cell 2; have r0 : w1.cell? ⟨w.heap.size + 1, 0, none⟩ = some (.int .i64 0) := BR1.out.cell 0; have r1 : w1.cell? ⟨w.heap.size + 1, 1, none⟩ = some (.int .i64 0) := BR1.out.cell 1; have r2 : w1.cell? ⟨w.heap.size + 1, 2, none⟩ = some (.int .i64 0) := BR1.out.cell 2; have r3 : w1.cell? ⟨w.heap.size + 1, 3, none⟩ = some (.slice none 0 0) := BR1.out.cell 3; have r4 : w1.cell? ⟨w.heap.size + 1, 4, none⟩ = some (.slice none 0 0) := BR1.out.cell 4; have fr1 := BR1.out.free; clear hb1)
      | (go_at_call 39; refine (HCB.out _ HB1.out).mono ?_; rintro e w2 ⟨v, u, L0, rfl, hcL, hO2, hI2, hd2, hb2⟩; obtain ⟨va, vc, rfl⟩ := hO2.shape; obtain ⟨ua, uc, rfl⟩ := hI2.shape; have HO2 : Hid (OwnP w2 w1.heap.size (.slice va L0.length vc) L0) := hO2; have HI2 : Hid (OwnI w2 w1.heap.size (.slice ua ws.length uc) ws) := hI2; have HD2 : Hid (∀ k, (Value.slice ua ws.length uc).ownBlock = some k → (Value.slice va L0.length vc).ownBlock ≠ some k ∧ ∀ p ∈ L0, p.2.ownBlock ≠ some k) := hd2; have HB2 : Hid (Below w1.heap.size w1 w2) := hb2; have HCL : Hid (cont L0 = cont l) := hcL; have hz2 := hb2.size; have hll : L0.length = l.length := (by rw [← cont_len L0, hcL, cont_len]); have HLL : Hid (L0.length = l.length) := hll; clear hO2 hI2 hd2 hb2 hcL hll x0 x1 x2 r0 r1 r2 r3 r4 fr1)
      | (go_at_call 51; refine (HCP.out _ ((HB1.out.trans (HB2.out.mono (by omega))).alloc (by omega) _)).mono ?_; rintro e w4 ⟨a7, cap7, rfl, ho4, hb4⟩; have HO4 : Hid (Own w4 _ (.slice a7 bs.length cap7) bs) := ho4; have HB4 : Hid (Below _ _ w4) := hb4; have hz4 : w2.heap.size + 1 ≤ w4.heap.size := (by have := hb4.size; simpa using this); clear ho4 hb4)
      | (go_at_call 50; refine (putPacket_any w2.heap.size n va vc L0 ua uc ws 0 f t a7 cap7 bs w4 w1.heap.size (w2.heap.size + 1) ((Blk.new w2 _ _).below HB4.out (by simp)) ((HO2.out.below ((Below.refl _ _).alloc (Nat.le_refl _) _)).below HB4.out) (fun e => by have := HO2.out.lts.1 _ e; omega) (fun p' hp' e => by have := HO2.out.lts.2 p' hp' _ e; omega) (by omega) (by omega) ((HI2.out.r (by unfold maxLen; omega)).ix.below (((Below.refl _ _).alloc (Nat.le_refl _) _).trans (HB4.out.mono (by simp)))) HR.out hw (HO4.out.le (by simp)) (by omega) ⟨fun k e => by have := HO2.out.lts.1 k e; omega, fun p' hp' k e => by have := HO2.out.lts.2 p' hp' k e; omega⟩ hbl hn.1 hn.2 (by have := HLL.out; omega)).mono ?_; rintro e w5 ⟨rfl, _, h5⟩; rw [HLL.out] at h5 ⊢; rw [HC.out]; obtain ⟨va', vc', hQ5, hO5, hA5, hT5⟩ := h5 HC.out; have HA5 : Hid (_ ∨ _) := hA5; have HQ5 : Hid (Blk w5 w2.heap.size #[.int .i64 (n + 1), .slice va' (l.length + 1) vc', .slice ua ws.length uc] 29) := hQ5; have HO5 : Hid (OwnP w5 w1.heap.size (.slice va' (l.length + 1) vc') (L0 ++ [((⟨n, f, t, bs⟩ : Pkt), Value.slice a7 bs.length cap7)])) := hO5; have HT5 : Hid (Touched _ w4 w5) := hT5; have BR5 : Hid (Blk w5 (w.heap.size + 1) #[.int .i64 0, .int .i64 0, .int .i64 0, .slice none 0 0, .slice none 0 0] 37) := (((BR1.out.below HB2.out (by omega)).alloc _).below HB4.out (by simp; omega)).keep (hT5.block _ (by omega) (by rintro (e | e); omega; rw [← HLL.out] at e; have := (World.ownsRow.lt HO2.out.row _ e).1; omega)); have BX5 : Hid (Blk w5 w.heap.size #[.int .i64 n, .slice a l.length cap, .slice a2 ws.length cap2] 29) := (((BX1.out.below HB2.out (by omega)).alloc _).below HB4.out (by simp; omega)).keep (hT5.block _ (by omega) (by rintro (e | e); omega; rw [← HLL.out] at e; have := (World.ownsRow.lt HO2.out.row _ e).1; omega)); have hz5 := hT5.size; have o0 : w5.cell? ⟨w2.heap.size, 0, none⟩ = some (.int .i64 (n + 1)) := hQ5.cell 0; have o1 : w5.cell? ⟨w2.heap.size, 1, none⟩ = some (.slice va' (l.length + 1) vc') := hQ5.cell 1; have o2 : w5.cell? ⟨w2.heap.size, 2, none⟩ = some (.slice ua ws.length uc) := hQ5.cell 2; have xx : w5.cell? ⟨w.heap.size, 0, none⟩ = some (.int .i64 n) := BX5.out.cell 0; have r0 : w5.cell? ⟨w.heap.size + 1, 0, none⟩ = some (.int .i64 0) := BR5.out.cell 0; have r1 : w5.cell? ⟨w.heap.size + 1, 1, none⟩ = some (.int .i64 0) := BR5.out.cell 1; have r2 : w5.cell? ⟨w.heap.size + 1, 2, none⟩ = some (.int .i64 0) := BR5.out.cell 2; have r3 : w5.cell? ⟨w.heap.size + 1, 3, none⟩ = some (.slice none 0 0) := BR5.out.cell 3; have r4 : w5.cell? ⟨w.heap.size + 1, 4, none⟩ = some (.slice none 0 0) := BR5.out.cell 4; have fr := BR5.out.free; clear h5 hQ5 hO5 hT5 hA5))
    refine bodyPost_ret (v := .agg #[.int .i64 0, .int .i64 n, .int .i64 (n + 1), .slice va' (l.length + 1) vc', .slice ua ws.length uc]) (by simp [results, Try.results16, go_sem, *]) rfl ⟨va', vc', ua, uc, L0 ++ [((⟨n, f, t, bs⟩ : Pkt), Value.slice a7 bs.length cap7)], by simp [HLL.out], by rw [← HCL.out]; simp [cont], ?_, ?_⟩
    · have hlen : (L0 ++ [((⟨n, f, t, bs⟩ : Pkt), Value.slice a7 bs.length cap7)]).length = l.length + 1 := by simp [HLL.out]
      have k5 : ∀ k, k ≠ w.heap.size + 1 → (((((w5.setCell ⟨w.heap.size + 1, 0, none⟩ (.int .i64 0)).setCell ⟨w.heap.size + 1, 1, none⟩ (.int .i64 n)).setCell ⟨w.heap.size + 1, 2, none⟩ (.int .i64 (n + 1))).setCell ⟨w.heap.size + 1, 3, none⟩ (.slice va' (l.length + 1) vc')).setCell ⟨w.heap.size + 1, 4, none⟩ (.slice ua ws.length uc)).heap[k]? = w5.heap[k]? := fun k hk => by
        rw [Below.heap_setCell _ _ _ _ (by simpa using hk), Below.heap_setCell _ _ _ _ (by simpa using hk), Below.heap_setCell _ _ _ _ (by simpa using hk), Below.heap_setCell _ _ _ _ (by simpa using hk), Below.heap_setCell _ _ _ _ (by simpa using hk)]
      have hO := HO5.out.keep fun k h1 _ => k5 k (by omega)
      have hI := HI2.out.block (w' := (((((w5.setCell ⟨w.heap.size + 1, 0, none⟩ (.int .i64 0)).setCell ⟨w.heap.size + 1, 1, none⟩ (.int .i64 n)).setCell ⟨w.heap.size + 1, 2, none⟩ (.int .i64 (n + 1))).setCell ⟨w.heap.size + 1, 3, none⟩ (.slice va' (l.length + 1) vc')).setCell ⟨w.heap.size + 1, 4, none⟩ (.slice ua ws.length uc))) fun k e => by
        have hk := World.ownsRow.lt HI2.out k e
        rw [k5 k (by omega), HT5.out.block k (by omega) (by
          rintro (e' | e')
          · omega
          · rw [← HLL.out] at e'; exact (HD2.out k e).1 e'), HB4.out.block k (by simp; omega), Below.heap_alloc w2 _ k hk.2]
      rw [hlen]
      refine (BagR.own hO hI (fun k e => ?_) (by rw [hlen]; unfold maxLen; omega) (by unfold maxLen; omega)).wide (by omega) (Nat.le_refl _)
      have hk := World.ownsRow.lt HI2.out k e
      refine ⟨fun e' => ?_, fun p hp e' => ?_⟩
      · rcases HA5.out with h7 | ⟨k', h7, hk'⟩
        · rw [h7, ← HLL.out] at e'; exact (HD2.out k e).1 e'
        · rw [h7] at e'; injection e' with e'; omega
      · rcases List.mem_append.1 hp with hp | hp
        · exact (HD2.out k e).2 p hp e'
        · rw [List.mem_singleton.1 hp] at e'
          have := (HO4.out.2.lt k e').1
          simp at this
          omega
    · have h45 : Below w.heap.size w4 w5 := ⟨HT5.out.os, HT5.out.tape, HT5.out.output, HT5.out.size, fun k hk => HT5.out.block k (by omega) (by
        rintro (e' | e')
        · omega
        · rw [← HLL.out] at e'; have := (World.ownsRow.lt HO2.out.row _ e').1; omega)⟩
      have hB5 : Below w.heap.size w w5 := ((((HB1.out.trans (HB2.out.mono (by omega))).alloc (by omega) _).trans (HB4.out.mono (by simp; omega)))).trans h45
      exact ((((hB5.setCell (Nat.le_succ _) _).setCell (Nat.le_succ _) _).setCell (Nat.le_succ _) _).setCell (Nat.le_succ _) _).setCell (Nat.le_succ _) _
  · have HC : Hid (putC n l.length ws f t bs.length ≠ 0) := hc
    rw [show putAns n (cont l) ws f t bs = (putC n l.length ws f t bs.length, 0, n, cont l, ws) by simp [putAns, hbag, cont_len, hc]]
    have hcd : (putC n l.length ws f t bs.length != 0) = true := by simpa using hc
    clear hc hbag
    go_enter Try.func16, Try.ntmps16
    go_wp2_with (first
      | (go_at_call 38; refine (HF.out _ hb0.out).mono ?_; rintro e w1 ⟨rfl, hb1⟩; have HB1 : Hid (Below w.heap.size w w1) := hb0.out.trans (hb1.mono (by simp; omega)); have BX1 : Hid (Blk w1 w.heap.size #[.int .i64 n, .slice a l.length cap, .slice a2 ws.length cap2] 29) := ((Blk.new w _ _).alloc _).below hb1 (by simp; omega); have BR1 : Hid (Blk w1 (w.heap.size + 1) #[.int .i64 0, .int .i64 0, .int .i64 0, .slice none 0 0, .slice none 0 0] 37) := (Blk.new' (w.alloc _) _ _ (by simp)).below hb1 (by simp); have hz1 : w.heap.size + 2 ≤ w1.heap.size := (by have := hb1.size; simp at this; omega); have x0 : w1.cell? ⟨w.heap.size, 0, none⟩ = some (.int .i64 n) := BX1.out.cell 0; have x1 : w1.cell? ⟨w.heap.size, 1, none⟩ = some (.slice a l.length cap) := BX1.out.cell 1; have x2 : w1.cell? ⟨w.heap.size, 2, none⟩ = some (.slice a2 ws.length cap2) := BX1.out.cell 2; have r0 : w1.cell? ⟨w.heap.size + 1, 0, none⟩ = some (.int .i64 0) := BR1.out.cell 0; have r1 : w1.cell? ⟨w.heap.size + 1, 1, none⟩ = some (.int .i64 0) := BR1.out.cell 1; have r2 : w1.cell? ⟨w.heap.size + 1, 2, none⟩ = some (.int .i64 0) := BR1.out.cell 2; have r3 : w1.cell? ⟨w.heap.size + 1, 3, none⟩ = some (.slice none 0 0) := BR1.out.cell 3; have r4 : w1.cell? ⟨w.heap.size + 1, 4, none⟩ = some (.slice none 0 0) := BR1.out.cell 4; have fr1 := BR1.out.free; clear hb1)
      | (go_at_call 39; refine (HCB.out _ HB1.out).mono ?_; rintro e w2 ⟨v, u, L0, rfl, hcL, hO2, hI2, hd2, hb2⟩; obtain ⟨va, vc, rfl⟩ := hO2.shape; obtain ⟨ua, uc, rfl⟩ := hI2.shape; have HO2 : Hid (OwnP w2 w1.heap.size (.slice va L0.length vc) L0) := hO2; have HI2 : Hid (OwnI w2 w1.heap.size (.slice ua ws.length uc) ws) := hI2; have HD2 : Hid (∀ k, (Value.slice ua ws.length uc).ownBlock = some k → (Value.slice va L0.length vc).ownBlock ≠ some k ∧ ∀ p ∈ L0, p.2.ownBlock ≠ some k) := hd2; have HB2 : Hid (Below w1.heap.size w1 w2) := hb2; have HCL : Hid (cont L0 = cont l) := hcL; have hz2 := hb2.size; have hll : L0.length = l.length := (by rw [← cont_len L0, hcL, cont_len]); have HLL : Hid (L0.length = l.length) := hll; clear hO2 hI2 hd2 hb2 hcL hll x0 x1 x2 r0 r1 r2 r3 r4 fr1)
      | (go_at_call 51; refine (HCP.out _ ((HB1.out.trans (HB2.out.mono (by omega))).alloc (by omega) _)).mono ?_; rintro e w4 ⟨a7, cap7, rfl, ho4, hb4⟩; have HO4 : Hid (Own w4 _ (.slice a7 bs.length cap7) bs) := ho4; have HB4 : Hid (Below _ _ w4) := hb4; have hz4 : w2.heap.size + 1 ≤ w4.heap.size := (by have := hb4.size; simpa using this); clear ho4 hb4)
      | (go_at_call 50; refine (putPacket_any w2.heap.size n va vc L0 ua uc ws 0 f t a7 cap7 bs w4 w1.heap.size (w2.heap.size + 1) ((Blk.new w2 _ _).below HB4.out (by simp)) ((HO2.out.below ((Below.refl _ _).alloc (Nat.le_refl _) _)).below HB4.out) (fun e => by have := HO2.out.lts.1 _ e; omega) (fun p' hp' e => by have := HO2.out.lts.2 p' hp' _ e; omega) (by omega) (by omega) ((HI2.out.r (by unfold maxLen; omega)).ix.below (((Below.refl _ _).alloc (Nat.le_refl _) _).trans (HB4.out.mono (by simp)))) HR.out hw (HO4.out.le (by simp)) (by omega) ⟨fun k e => by have := HO2.out.lts.1 k e; omega, fun p' hp' k e => by have := HO2.out.lts.2 p' hp' k e; omega⟩ hbl hn.1 hn.2 (by have := HLL.out; omega)).mono ?_; rintro e w5 ⟨rfl, h5, _⟩; obtain ⟨hQ5, hb5⟩ := h5 (by rw [HLL.out]; exact HC.out); rw [show putC n L0.length ws f t bs.length = putC n l.length ws f t bs.length by rw [HLL.out]]; have HQ5 : Hid (Blk w5 w2.heap.size #[.int .i64 n, .slice va L0.length vc, .slice ua ws.length uc] 29) := hQ5; have HB5 : Hid (Below w4.heap.size w4 w5) := hb5; have BR5 : Hid (Blk w5 (w.heap.size + 1) #[.int .i64 0, .int .i64 0, .int .i64 0, .slice none 0 0, .slice none 0 0] 37) := (((BR1.out.below HB2.out (by omega)).alloc _).below HB4.out (by simp; omega)).below hb5 (by omega); have hz5 := hb5.size; have o0 : w5.cell? ⟨w2.heap.size, 0, none⟩ = some (.int .i64 n) := hQ5.cell 0; have o1 : w5.cell? ⟨w2.heap.size, 1, none⟩ = some (.slice va L0.length vc) := hQ5.cell 1; have o2 : w5.cell? ⟨w2.heap.size, 2, none⟩ = some (.slice ua ws.length uc) := hQ5.cell 2; have r0 : w5.cell? ⟨w.heap.size + 1, 0, none⟩ = some (.int .i64 0) := BR5.out.cell 0; have r1 : w5.cell? ⟨w.heap.size + 1, 1, none⟩ = some (.int .i64 0) := BR5.out.cell 1; have r2 : w5.cell? ⟨w.heap.size + 1, 2, none⟩ = some (.int .i64 0) := BR5.out.cell 2; have r3 : w5.cell? ⟨w.heap.size + 1, 3, none⟩ = some (.slice none 0 0) := BR5.out.cell 3; have r4 : w5.cell? ⟨w.heap.size + 1, 4, none⟩ = some (.slice none 0 0) := BR5.out.cell 4; have fr := BR5.out.free; clear h5 hQ5 hb5))
    refine bodyPost_ret (v := .agg #[.int .i64 (putC n l.length ws f t bs.length), .int .i64 0, .int .i64 n, .slice va L0.length vc, .slice ua ws.length uc]) (by simp [results, Try.results16, go_sem, *]) rfl ⟨va, vc, ua, uc, L0, rfl, HCL.out, ?_, ?_⟩
    · have k5 : ∀ (c : Int) (k : Nat), k ≠ w.heap.size + 1 → (((((w5.setCell ⟨w.heap.size + 1, 0, none⟩ (.int .i64 c)).setCell ⟨w.heap.size + 1, 1, none⟩ (.int .i64 0)).setCell ⟨w.heap.size + 1, 2, none⟩ (.int .i64 n)).setCell ⟨w.heap.size + 1, 3, none⟩ (.slice va L0.length vc)).setCell ⟨w.heap.size + 1, 4, none⟩ (.slice ua ws.length uc)).heap[k]? = w5.heap[k]? := fun c k hk => by
        rw [Below.heap_setCell _ _ _ _ (by simpa using hk), Below.heap_setCell _ _ _ _ (by simpa using hk), Below.heap_setCell _ _ _ _ (by simpa using hk), Below.heap_setCell _ _ _ _ (by simpa using hk), Below.heap_setCell _ _ _ _ (by simpa using hk)]
      have k6 : ∀ (c : Int) (k : Nat), w1.heap.size ≤ k → k < w2.heap.size → (((((w5.setCell ⟨w.heap.size + 1, 0, none⟩ (.int .i64 c)).setCell ⟨w.heap.size + 1, 1, none⟩ (.int .i64 0)).setCell ⟨w.heap.size + 1, 2, none⟩ (.int .i64 n)).setCell ⟨w.heap.size + 1, 3, none⟩ (.slice va L0.length vc)).setCell ⟨w.heap.size + 1, 4, none⟩ (.slice ua ws.length uc)).heap[k]? = w2.heap[k]? := fun c k hk hk2 => by
        rw [k5 c k (by omega), HB5.out.block k (by omega), HB4.out.block k (by simp; omega), Below.heap_alloc w2 _ k hk2]
      have hL : L0.length ≤ maxLen := by rw [HLL.out]; unfold maxLen; omega
      exact (BagR.own (HO2.out.keep (k6 _)) (HI2.out.keep (k6 _)) HD2.out hL (by unfold maxLen; omega)).wide (by omega) (Nat.le_refl _)
    · have hB5 : Below w.heap.size w w5 := ((((HB1.out.trans (HB2.out.mono (by omega))).alloc (by omega) _).trans (HB4.out.mono (by simp; omega)))).trans (HB5.out.mono (by omega))
      exact ((((hB5.setCell (Nat.le_succ _) _).setCell (Nat.le_succ _) _).setCell (Nat.le_succ _) _).setCell (Nat.le_succ _) _).setCell (Nat.le_succ _) _
end Go.Proofs.Ythondmpnleleiaa
