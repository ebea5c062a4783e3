/-
  spec.BagWall.
-/
import Derived.Test.YtcppbkfppgacaaaPkWallI
import Derived.Test.YtcppbkfppgacaaaPkOk
import Derived.Test.YtcppbkfppgacaaaPkBagT
namespace Go.Proofs.Ytcppbkfppgacaaa
open Go.RowKit Go.Maps
set_option linter.unusedVariables false
set_option linter.unusedSimpArgs false

set_option maxHeartbeats 8000000 in
set_option maxRecDepth 100000 in
theorem sBagWall_any (n id up : Int) (a : Option Addr) (cap : Nat) (a2 : Option Addr) (cap2 : Nat) (l : List Pk) (ws : List Int) (w : World) (hv : Pks w (.slice a l.length cap) l) (hu : Ix w (.slice a2 ws.length cap2) ws) (hl : l.length + bulk (cont l) ≤ 1048576) (hw : ws.length ≤ 1048576) :
    Calls Try.prog 8 #[.agg #[.int .i64 n, .slice a l.length cap, .slice a2 ws.length cap2], .int .i64 id, .int .i64 up] w fun e w' => WallAt w w' e (wallAns n (cont l) ws id up) := by
  have HF : Hid (∀ w', Below w.heap.size w w' → Calls Try.prog 32 #[.agg #[.int .i64 n, .slice a l.length cap, .slice a2 ws.length cap2]] w' fun e w'' => e = .returned (.bool (bagB n (cont l) ws)) ∧ Below w'.heap.size w' w'') := fun w' h => l3bagOk_any n _ _ l ws w' (hv.below h) (hu.below h)
  have hb0 : Hid (Below w.heap.size w ((w.alloc (.cells #[.int .i64 n, .slice a l.length cap, .slice a2 ws.length cap2] 29)).alloc (.cells #[.int .i64 0, .slice none 0 0, .slice none 0 0] 29))) := ((Below.refl _ _).alloc (Nat.le_refl _) _).alloc (by simp) _
  cases hbag : bagB n (cont l) ws
  · skip
    rw [hbag] at HF
    rw [show wallAns n (cont l) ws id up = (0, [], []) by simp [wallAns, hbag]]
    go_enter Try.func8, Try.ntmps8
    go_wp2_with (go_at_call 32; refine (HF.out _ hb0.out).mono ?_; rintro e w1 ⟨rfl, hb1⟩; have HB1 : Hid (Below w.heap.size w w1) := hb0.out.trans (hb1.mono (by simp; omega)); have BX1 : Hid (Blk w1 w.heap.size #[.int .i64 n, .slice a l.length cap, .slice a2 ws.length cap2] 29) := ((Blk.new w _ _).alloc _).below hb1 (by simp; omega); have BR1 : Hid (Blk w1 (w.heap.size + 1) #[.int .i64 0, .slice none 0 0, .slice none 0 0] 29) := (Blk.new' (w.alloc _) _ _ (by simp)).below hb1 (by simp); have hz1 : w.heap.size + 2 ≤ w1.heap.size := (by have := hb1.size; simp at this; omega); have x10 : w1.cell? ⟨w.heap.size, 0, none⟩ = some (.int .i64 n) := BX1.out.cell 0; have x11 : w1.cell? ⟨w.heap.size, 1, none⟩ = some (.slice a l.length cap) := BX1.out.cell 1; have x12 : w1.cell? ⟨w.heap.size, 2, none⟩ = some (.slice a2 ws.length cap2) := BX1.out.cell 2; have r10 : w1.cell? ⟨w.heap.size + 1, 0, none⟩ = some (.int .i64 0) := BR1.out.cell 0; have r11 : w1.cell? ⟨w.heap.size + 1, 1, none⟩ = some (.slice none 0 0) := BR1.out.cell 1; have r12 : w1.cell? ⟨w.heap.size + 1, 2, none⟩ = some (.slice none 0 0) := BR1.out.cell 2; have fr1 := BR1.out.free; clear hb1)
    refine bodyPost_ret (v := .agg #[.int .i64 0, .slice none 0 0, .slice none 0 0]) (by simp [results, Try.results8, go_sem, *]) rfl ⟨none, 0, none, 0, [], rfl, rfl, BagR.nil _ _ _, ?_⟩
    exact ((HB1.out.setCell (Nat.le_succ _) _).setCell (Nat.le_succ _) _).setCell (Nat.le_succ _) _
  rw [hbag] at HF
  have HU : Hid (∀ w', Below w.heap.size w w' → Ix w' (.slice a2 ws.length cap2) ws) := fun w' h => hu.below h
  have HCB : Hid (∀ w', Below w.heap.size w w' → Calls Try.prog 33 #[.agg #[.int .i64 n, .slice a l.length cap, .slice a2 ws.length cap2], .int .i64 (-1)] w' fun e w'' => ∃ va vc ua uc L, e = .returned (.agg #[.int .i64 n, .slice va L.length vc, .slice ua ws.length uc]) ∧ cont L = cont l ∧ OwnP w'' w'.heap.size (.slice va L.length vc) L ∧ OwnI w'' w'.heap.size (.slice ua ws.length uc) ws ∧ (∀ k, (Value.slice ua ws.length uc).ownBlock = some k → (Value.slice va L.length vc).ownBlock ≠ some k ∧ ∀ p ∈ L, p.2.ownBlock ≠ some k) ∧ Below w'.heap.size w' w'') := fun w' h => (l3bagCopy_any n (-1) a cap a2 cap2 l ws w' (hv.below h) (hu.below h) (by omega) (fun p hp => by have := bulk_mem (List.mem_map_of_mem (f := Prod.fst) hp); unfold cont at hl; omega) hw).mono fun e w'' ⟨va, vc, ua, uc, L, h1, h2, h3⟩ => ⟨va, vc, ua, uc, L, h1, by rw [h2, ← cont_len l, without_all _ _ (Nat.le_refl _), List.take_length], h3⟩
  clear hv hu
  cases hid : inB id 1 7
  · rw [show wallAns n (cont l) ws id up = (n, cont l, ws) by simp [wallAns, hbag, hid]]
    clear hbag
    go_enter Try.func8, Try.ntmps8
    go_wp2_with (first
      | (go_at_call 32; refine (HF.out _ hb0.out).mono ?_; rintro e w1 ⟨rfl, hb1⟩; have HB1 : Hid (Below w.heap.size w w1) := hb0.out.trans (hb1.mono (by simp; omega)); have BX1 : Hid (Blk w1 w.heap.size #[.int .i64 n, .slice a l.length cap, .slice a2 ws.length cap2] 29) := ((Blk.new w _ _).alloc _).below hb1 (by simp; omega); have BR1 : Hid (Blk w1 (w.heap.size + 1) #[.int .i64 0, .slice none 0 0, .slice none 0 0] 29) := (Blk.new' (w.alloc _) _ _ (by simp)).below hb1 (by simp); have hz1 : w.heap.size + 2 ≤ w1.heap.size := (by have := hb1.size; simp at this; omega); have x10 : w1.cell? ⟨w.heap.size, 0, none⟩ = some (.int .i64 n) := BX1.out.cell 0; have x11 : w1.cell? ⟨w.heap.size, 1, none⟩ = some (.slice a l.length cap) := BX1.out.cell 1; have x12 : w1.cell? ⟨w.heap.size, 2, none⟩ = some (.slice a2 ws.length cap2) := BX1.out.cell 2; have r10 : w1.cell? ⟨w.heap.size + 1, 0, none⟩ = some (.int .i64 0) := BR1.out.cell 0; have r11 : w1.cell? ⟨w.heap.size + 1, 1, none⟩ = some (.slice none 0 0) := BR1.out.cell 1; have r12 : w1.cell? ⟨w.heap.size + 1, 2, none⟩ = some (.slice none 0 0) := BR1.out.cell 2; have fr1 := BR1.out.free; clear hb1)
      | (go_at_call 33; refine (HCB.out _ HB1.out).mono ?_; rintro e w2 ⟨va, vc, ua, uc, L0, rfl, hcL, hO2, hI2, hd2, hb2⟩; have HO2 : Hid (OwnP w2 w1.heap.size (.slice va L0.length vc) L0) := hO2; have HI2 : Hid (OwnI w2 w1.heap.size (.slice ua ws.length uc) ws) := hI2; have HD2 : Hid (∀ k, (Value.slice ua ws.length uc).ownBlock = some k → (Value.slice va L0.length vc).ownBlock ≠ some k ∧ ∀ p ∈ L0, p.2.ownBlock ≠ some k) := hd2; have HB2 : Hid (Below w1.heap.size w1 w2) := hb2; have HCL : Hid (cont L0 = cont l) := hcL; have hz2 := hb2.size; have HLL : Hid (L0.length = l.length) := (by show _ = _; rw [← cont_len L0, hcL, cont_len]); have HB3 : Hid (Below w.heap.size w (w2.alloc (.cells #[.int .i64 n, .slice va L0.length vc, .slice ua ws.length uc] 29))) := (HB1.out.trans (hb2.mono (by omega))).alloc (by omega) _; have BX3 : Hid (Blk (w2.alloc (.cells #[.int .i64 n, .slice va L0.length vc, .slice ua ws.length uc] 29)) w.heap.size #[.int .i64 n, .slice a l.length cap, .slice a2 ws.length cap2] 29) := (BX1.out.below hb2 (by omega)).alloc _; have BQ3 : Hid (Blk (w2.alloc (.cells #[.int .i64 n, .slice va L0.length vc, .slice ua ws.length uc] 29)) w2.heap.size #[.int .i64 n, .slice va L0.length vc, .slice ua ws.length uc] 29) := Blk.new _ _ _; have BR3 : Hid (Blk (w2.alloc (.cells #[.int .i64 n, .slice va L0.length vc, .slice ua ws.length uc] 29)) (w.heap.size + 1) #[.int .i64 0, .slice none 0 0, .slice none 0 0] 29) := (BR1.out.below hb2 (by omega)).alloc _; have x30 : (w2.alloc (.cells #[.int .i64 n, .slice va L0.length vc, .slice ua ws.length uc] 29)).cell? ⟨w.heap.size, 0, none⟩ = some (.int .i64 n) := BX3.out.cell 0; have x31 : (w2.alloc (.cells #[.int .i64 n, .slice va L0.length vc, .slice ua ws.length uc] 29)).cell? ⟨w.heap.size, 1, none⟩ = some (.slice a l.length cap) := BX3.out.cell 1; have x32 : (w2.alloc (.cells #[.int .i64 n, .slice va L0.length vc, .slice ua ws.length uc] 29)).cell? ⟨w.heap.size, 2, none⟩ = some (.slice a2 ws.length cap2) := BX3.out.cell 2; have q30 : (w2.alloc (.cells #[.int .i64 n, .slice va L0.length vc, .slice ua ws.length uc] 29)).cell? ⟨w2.heap.size, 0, none⟩ = some (.int .i64 n) := BQ3.out.cell 0; have q31 : (w2.alloc (.cells #[.int .i64 n, .slice va L0.length vc, .slice ua ws.length uc] 29)).cell? ⟨w2.heap.size, 1, none⟩ = some (.slice va L0.length vc) := BQ3.out.cell 1; have q32 : (w2.alloc (.cells #[.int .i64 n, .slice va L0.length vc, .slice ua ws.length uc] 29)).cell? ⟨w2.heap.size, 2, none⟩ = some (.slice ua ws.length uc) := BQ3.out.cell 2; have r30 : (w2.alloc (.cells #[.int .i64 n, .slice va L0.length vc, .slice ua ws.length uc] 29)).cell? ⟨w.heap.size + 1, 0, none⟩ = some (.int .i64 0) := BR3.out.cell 0; have r31 : (w2.alloc (.cells #[.int .i64 n, .slice va L0.length vc, .slice ua ws.length uc] 29)).cell? ⟨w.heap.size + 1, 1, none⟩ = some (.slice none 0 0) := BR3.out.cell 1; have r32 : (w2.alloc (.cells #[.int .i64 n, .slice va L0.length vc, .slice ua ws.length uc] 29)).cell? ⟨w.heap.size + 1, 2, none⟩ = some (.slice none 0 0) := BR3.out.cell 2; have fr3 := BR3.out.free; clear hO2 hI2 hd2 hb2 hcL x10 x11 x12 r10 r11 r12 fr1)
      | (go_at_call 34; refine (l1in_any _ _ _ _).mono ?_; rintro e w9 ⟨rfl, hw9⟩; subst hw9; rw [hid]))
    refine bodyPost_ret (v := .agg #[.int .i64 n, .slice va L0.length vc, .slice ua ws.length uc]) (by simp [results, Try.results8, go_sem, *]) rfl ⟨va, vc, ua, uc, L0, rfl, HCL.out, ?_, ?_⟩
    · have k6 : ∀ k, w1.heap.size ≤ k → k < w2.heap.size → ((((w2.alloc (.cells #[.int .i64 n, .slice va L0.length vc, .slice ua ws.length uc] 29)).setCell ⟨w.heap.size + 1, 0, none⟩ (.int .i64 n)).setCell ⟨w.heap.size + 1, 1, none⟩ (.slice va L0.length vc)).setCell ⟨w.heap.size + 1, 2, none⟩ (.slice ua ws.length uc)).heap[k]? = w2.heap[k]? := fun k hk hk2 => by
        rw [Below.heap_setCell _ _ _ _ (by simp only []; omega), Below.heap_setCell _ _ _ _ (by simp only []; omega), Below.heap_setCell _ _ _ _ (by simp only []; omega), Below.heap_alloc w2 _ k hk2]
      have hL : L0.length ≤ maxLen := by rw [HLL.out]; unfold maxLen; omega
      exact (BagR.own (HO2.out.keep k6) (HI2.out.keep k6) HD2.out hL (by unfold maxLen; omega)).wide (by omega) (Nat.le_refl _)
    · exact ((HB3.out.setCell (Nat.le_succ _) _).setCell (Nat.le_succ _) _).setCell (Nat.le_succ _) _
  rw [show wallAns n (cont l) ws id up = (n, cont l, wallsNew ws id (up != 0) 7) by simp [wallAns, hbag, hid]]
  clear hbag
  go_enter Try.func8, Try.ntmps8
  go_wp2_with (first
    | (go_at_call 32; refine (HF.out _ hb0.out).mono ?_; rintro e w1 ⟨rfl, hb1⟩; have HB1 : Hid (Below w.heap.size w w1) := hb0.out.trans (hb1.mono (by simp; omega)); have BX1 : Hid (Blk w1 w.heap.size #[.int .i64 n, .slice a l.length cap, .slice a2 ws.length cap2] 29) := ((Blk.new w _ _).alloc _).below hb1 (by simp; omega); have BR1 : Hid (Blk w1 (w.heap.size + 1) #[.int .i64 0, .slice none 0 0, .slice none 0 0] 29) := (Blk.new' (w.alloc _) _ _ (by simp)).below hb1 (by simp); have hz1 : w.heap.size + 2 ≤ w1.heap.size := (by have := hb1.size; simp at this; omega); have x10 : w1.cell? ⟨w.heap.size, 0, none⟩ = some (.int .i64 n) := BX1.out.cell 0; have x11 : w1.cell? ⟨w.heap.size, 1, none⟩ = some (.slice a l.length cap) := BX1.out.cell 1; have x12 : w1.cell? ⟨w.heap.size, 2, none⟩ = some (.slice a2 ws.length cap2) := BX1.out.cell 2; have r10 : w1.cell? ⟨w.heap.size + 1, 0, none⟩ = some (.int .i64 0) := BR1.out.cell 0; have r11 : w1.cell? ⟨w.heap.size + 1, 1, none⟩ = some (.slice none 0 0) := BR1.out.cell 1; have r12 : w1.cell? ⟨w.heap.size + 1, 2, none⟩ = some (.slice none 0 0) := BR1.out.cell 2; have fr1 := BR1.out.free; clear hb1)
    | (go_at_call 33; refine (HCB.out _ HB1.out).mono ?_; rintro e w2 ⟨va, vc, ua, uc, L0, rfl, hcL, hO2, hI2, hd2, hb2⟩; have HO2 : Hid (OwnP w2 w1.heap.size (.slice va L0.length vc) L0) := hO2; have HI2 : Hid (OwnI w2 w1.heap.size (.slice ua ws.length uc) ws) := hI2; have HD2 : Hid (∀ k, (Value.slice ua ws.length uc).ownBlock = some k → (Value.slice va L0.length vc).ownBlock ≠ some k ∧ ∀ p ∈ L0, p.2.ownBlock ≠ some k) := hd2; have HB2 : Hid (Below w1.heap.size w1 w2) := hb2; have HCL : Hid (cont L0 = cont l) := hcL; have hz2 := hb2.size; have HLL : Hid (L0.length = l.length) := (by show _ = _; rw [← cont_len L0, hcL, cont_len]); have HB3 : Hid (Below w.heap.size w (w2.alloc (.cells #[.int .i64 n, .slice va L0.length vc, .slice ua ws.length uc] 29))) := (HB1.out.trans (hb2.mono (by omega))).alloc (by omega) _; have BX3 : Hid (Blk (w2.alloc (.cells #[.int .i64 n, .slice va L0.length vc, .slice ua ws.length uc] 29)) w.heap.size #[.int .i64 n, .slice a l.length cap, .slice a2 ws.length cap2] 29) := (BX1.out.below hb2 (by omega)).alloc _; have BQ3 : Hid (Blk (w2.alloc (.cells #[.int .i64 n, .slice va L0.length vc, .slice ua ws.length uc] 29)) w2.heap.size #[.int .i64 n, .slice va L0.length vc, .slice ua ws.length uc] 29) := Blk.new _ _ _; have BR3 : Hid (Blk (w2.alloc (.cells #[.int .i64 n, .slice va L0.length vc, .slice ua ws.length uc] 29)) (w.heap.size + 1) #[.int .i64 0, .slice none 0 0, .slice none 0 0] 29) := (BR1.out.below hb2 (by omega)).alloc _; have x30 : (w2.alloc (.cells #[.int .i64 n, .slice va L0.length vc, .slice ua ws.length uc] 29)).cell? ⟨w.heap.size, 0, none⟩ = some (.int .i64 n) := BX3.out.cell 0; have x31 : (w2.alloc (.cells #[.int .i64 n, .slice va L0.length vc, .slice ua ws.length uc] 29)).cell? ⟨w.heap.size, 1, none⟩ = some (.slice a l.length cap) := BX3.out.cell 1; have x32 : (w2.alloc (.cells #[.int .i64 n, .slice va L0.length vc, .slice ua ws.length uc] 29)).cell? ⟨w.heap.size, 2, none⟩ = some (.slice a2 ws.length cap2) := BX3.out.cell 2; have q30 : (w2.alloc (.cells #[.int .i64 n, .slice va L0.length vc, .slice ua ws.length uc] 29)).cell? ⟨w2.heap.size, 0, none⟩ = some (.int .i64 n) := BQ3.out.cell 0; have q31 : (w2.alloc (.cells #[.int .i64 n, .slice va L0.length vc, .slice ua ws.length uc] 29)).cell? ⟨w2.heap.size, 1, none⟩ = some (.slice va L0.length vc) := BQ3.out.cell 1; have q32 : (w2.alloc (.cells #[.int .i64 n, .slice va L0.length vc, .slice ua ws.length uc] 29)).cell? ⟨w2.heap.size, 2, none⟩ = some (.slice ua ws.length uc) := BQ3.out.cell 2; have r30 : (w2.alloc (.cells #[.int .i64 n, .slice va L0.length vc, .slice ua ws.length uc] 29)).cell? ⟨w.heap.size + 1, 0, none⟩ = some (.int .i64 0) := BR3.out.cell 0; have r31 : (w2.alloc (.cells #[.int .i64 n, .slice va L0.length vc, .slice ua ws.length uc] 29)).cell? ⟨w.heap.size + 1, 1, none⟩ = some (.slice none 0 0) := BR3.out.cell 1; have r32 : (w2.alloc (.cells #[.int .i64 n, .slice va L0.length vc, .slice ua ws.length uc] 29)).cell? ⟨w.heap.size + 1, 2, none⟩ = some (.slice none 0 0) := BR3.out.cell 2; have fr3 := BR3.out.free; clear hO2 hI2 hd2 hb2 hcL x10 x11 x12 r10 r11 r12 fr1)
    | (go_at_call 34; refine (l1in_any _ _ _ _).mono ?_; rintro e w9 ⟨rfl, hw9⟩; subst hw9; rw [hid]))
  have hWs : ((w2.alloc (.cells #[.int .i64 n, .slice va L0.length vc, .slice ua ws.length uc] 29))).heap.size = w2.heap.size + 1 := by simp
  have HK : Hid (∀ k, k < w2.heap.size → ((w2.alloc (.cells #[.int .i64 n, .slice va L0.length vc, .slice ua ws.length uc] 29))).heap[k]? = w2.heap[k]?) := fun k hk => Below.heap_alloc w2 _ k hk
  generalize (w2.alloc (.cells #[.int .i64 n, .slice va L0.length vc, .slice ua ws.length uc] 29)) = W at *
  clear x30 x31 x32 q30 q31 q32 r30 r31 r32 fr3
  go_loopw [8, 9] (fun v i wr => ∃ (k : Nat) (za : Option Addr) (zc : Nat), k ≤ 7 ∧ i = .int .i64 ((k : Int) + 1) ∧ v = .slice za (wallsNew ws id (up != 0) k).length zc ∧ OwnI wr W.heap.size (.slice za (wallsNew ws id (up != 0) k).length zc) (wallsNew ws id (up != 0) k) ∧ Below W.heap.size W wr) (fun _ i _ => 8 - (intOf i).toNat)
  case atStart => exact ⟨0, some ⟨w2.heap.size + 1, 0, none⟩, 0, by omega, by simp, rfl, by have h := OwnI.made W W.heap.size (Nat.le_refl _); rw [hWs] at h; rw [hWs]; exact h, (Below.refl _ _).alloc (Nat.le_refl _) _⟩
  case round =>
    obtain ⟨k, za, zc, hk, rfl, rfl, hO, hB⟩ := hrel
    have hsz := hB.size
    have HO : Hid (OwnI wr W.heap.size (.slice za (wallsNew ws id (up != 0) k).length zc) (wallsNew ws id (up != 0) k)) := hO
    have HB : Hid (Below W.heap.size W wr) := hB
    have hlen := wallsNew_len ws id (up != 0) k
    have BXr : Hid (Blk wr w.heap.size #[.int .i64 n, .slice a l.length cap, .slice a2 ws.length cap2] 29) := BX3.out.below hB (by omega)
    have BQr : Hid (Blk wr w2.heap.size #[.int .i64 n, .slice va L0.length vc, .slice ua ws.length uc] 29) := BQ3.out.below hB (by omega)
    have BRr : Hid (Blk wr (w.heap.size + 1) #[.int .i64 0, .slice none 0 0, .slice none 0 0] 29) := BR3.out.below hB (by omega)
    have HBr : Hid (Below w.heap.size w wr) := HB3.out.trans (hB.mono (by omega))
    have xr0 : wr.cell? ⟨w.heap.size, 0, none⟩ = some (.int .i64 n) := BXr.out.cell 0
    have xr1 : wr.cell? ⟨w.heap.size, 1, none⟩ = some (.slice a l.length cap) := BXr.out.cell 1
    have xr2 : wr.cell? ⟨w.heap.size, 2, none⟩ = some (.slice a2 ws.length cap2) := BXr.out.cell 2
    have qr0 : wr.cell? ⟨w2.heap.size, 0, none⟩ = some (.int .i64 n) := BQr.out.cell 0
    have qr1 : wr.cell? ⟨w2.heap.size, 1, none⟩ = some (.slice va L0.length vc) := BQr.out.cell 1
    have qr2 : wr.cell? ⟨w2.heap.size, 2, none⟩ = some (.slice ua ws.length uc) := BQr.out.cell 2
    have rr0 : wr.cell? ⟨w.heap.size + 1, 0, none⟩ = some (.int .i64 0) := BRr.out.cell 0
    have rr1 : wr.cell? ⟨w.heap.size + 1, 1, none⟩ = some (.slice none 0 0) := BRr.out.cell 1
    have rr2 : wr.cell? ⟨w.heap.size + 1, 2, none⟩ = some (.slice none 0 0) := BRr.out.cell 2
    have frr := BRr.out.free
    have fqr := BQr.out.free
    clear hO hB
    by_cases hlt : k < 7
    · have hlti : (k : Int) + 1 ≤ 7 := by omega
      have HT : Hid (wallsNew ws id (up != 0) (k + 1) = wallsNew ws id (up != 0) k ++ (if wallOne ws id (up != 0) ((k : Int) + 1) = true then [(k : Int) + 1] else [])) := rfl
      cases hone : wallOne ws id (up != 0) ((k : Int) + 1)
      · rw [hone] at HT
        simp only [Bool.false_eq_true, if_false, List.append_nil] at HT
        by_cases he : (k : Int) + 1 = id
        · have hup : (up != 0) = false := by unfold wallOne at hone; rwa [if_pos he] at hone
          have he1 : ((k : Int) + 1 == id) = true := by simpa using he
          have he2 : ((k : Int) + 1 != id) = false := by simpa using he
          have HE : Hid ((k : Int) + 1 = id) := he
          clear he hone
          go_wp2
          go_roundw
          case rel => exact ⟨k + 1, za, zc, by omega, by go_num, by rw [HT.out], by rw [HT.out]; exact HO.out, HB.out⟩
          case measure => simp [intOf]; omega
        · have hcon : ws.contains ((k : Int) + 1) = false := by unfold wallOne at hone; rwa [if_neg he] at hone
          have he1 : ((k : Int) + 1 == id) = false := by simpa using he
          have he2 : ((k : Int) + 1 != id) = true := by simpa using he
          clear he hone
          go_wp2_with (go_at_call 35; refine (l3walled_any n a l.length cap _ ws _ _ (HU.out _ HBr.out)).mono ?_; rintro e w5 ⟨rfl, hb5⟩; rw [hcon])
          go_roundw
          case rel => exact ⟨k + 1, za, zc, by omega, by go_num, by rw [HT.out], by rw [HT.out]; exact HO.out.below hb5, HB.out.trans (hb5.mono hsz)⟩
          case measure => simp [intOf]; omega
      · rw [hone] at HT
        simp only [if_true] at HT
        have HL : Hid ((wallsNew ws id (up != 0) (k + 1)).length = (wallsNew ws id (up != 0) k).length + 1) := by show _ = _; rw [HT.out]; simp
        by_cases he : (k : Int) + 1 = id
        · have hup : (up != 0) = true := by unfold wallOne at hone; rwa [if_pos he] at hone
          have he1 : ((k : Int) + 1 == id) = true := by simpa using he
          have HE : Hid ((k : Int) + 1 = id) := he
          clear he hone
          go_wp2_with (at_builtin; refine wpl_appendI rfl (.tmp 42) (.tmp 44) rfl ((k : Int) + 1) (HO.out.below ((Below.refl _ _).alloc (Nat.le_refl _) _)) rfl wr.heap.size 1 (by simp) rfl (by omega) (by simp; omega) ?_; intro v6 w6 ho6 hg6; have hb6 := growI hg6 (HO.out.below ((Below.refl _ _).alloc (Nat.le_refl _) _)) (by simp; omega); obtain ⟨z6, c6, rfl⟩ := ho6.shape; have HO6 : Hid (OwnI w6 W.heap.size (.slice z6 (wallsNew ws id (up != 0) k ++ [(k : Int) + 1]).length c6) (wallsNew ws id (up != 0) k ++ [(k : Int) + 1])) := ho6; clear ho6 hg6)
          go_roundw
          case rel => exact ⟨k + 1, z6, c6, by omega, by go_num, by first | (rw [HL.out]; done) | (rw [HL.out, hup]; done) | (rw [HL.out]; simp; rw [hup]), by rw [HT.out]; exact HO6.out, (HB.out.alloc hsz _).trans hb6⟩
          case measure => simp [intOf]; omega
        · have hcon : ws.contains ((k : Int) + 1) = true := by unfold wallOne at hone; rwa [if_neg he] at hone
          have he1 : ((k : Int) + 1 == id) = false := by simpa using he
          have he2 : ((k : Int) + 1 != id) = true := by simpa using he
          clear he hone
          go_wp2_with (first
            | (go_at_call 35; refine (l3walled_any n a l.length cap _ ws _ _ (HU.out _ HBr.out)).mono ?_; rintro e w5 ⟨rfl, hb5⟩; rw [hcon]; have hz5 := hb5.size)
            | (at_builtin; refine wpl_appendI rfl (.tmp 42) (.tmp 44) rfl ((k : Int) + 1) ((HO.out.below hb5).below ((Below.refl _ _).alloc (Nat.le_refl _) _)) rfl w5.heap.size 1 (by simp) rfl (by omega) (by simp; omega) ?_; intro v6 w6 ho6 hg6; have hb6 := growI hg6 ((HO.out.below hb5).below ((Below.refl _ _).alloc (Nat.le_refl _) _)) (by simp; omega); obtain ⟨z6, c6, rfl⟩ := ho6.shape; have HO6 : Hid (OwnI w6 W.heap.size (.slice z6 (wallsNew ws id (up != 0) k ++ [(k : Int) + 1]).length c6) (wallsNew ws id (up != 0) k ++ [(k : Int) + 1])) := ho6; clear ho6 hg6))
          go_roundw
          case rel => exact ⟨k + 1, z6, c6, by omega, by go_num, by rw [HL.out], by rw [HT.out]; exact HO6.out, ((HB.out.trans (hb5.mono hsz)).alloc (by omega) _).trans hb6⟩
          case measure => simp [intOf]; omega
    · obtain rfl : k = 7 := by omega
      have hn1 : ¬ w.heap.size + 1 = w2.heap.size := by omega
      go_wp2
      refine bodyPost_ret (v := .agg #[.int .i64 n, .slice va L0.length vc, .slice za (wallsNew ws id (up != 0) 7).length zc]) (by simp [results, Try.results8, go_sem, *]) rfl ⟨va, vc, za, zc, L0, rfl, HCL.out, ?_, ?_⟩
      · have k5 : ∀ k, k ≠ w2.heap.size → k ≠ w.heap.size + 1 → ((((wr.setCell ⟨w2.heap.size, 2, none⟩ (.slice za (wallsNew ws id (up != 0) 7).length zc)).setCell ⟨w.heap.size + 1, 0, none⟩ (.int .i64 n)).setCell ⟨w.heap.size + 1, 1, none⟩ (.slice va L0.length vc)).setCell ⟨w.heap.size + 1, 2, none⟩ (.slice za (wallsNew ws id (up != 0) 7).length zc)).heap[k]? = wr.heap[k]? := fun k h1 h2 => by
          rw [Below.heap_setCell _ _ _ _ (by simpa using h2), Below.heap_setCell _ _ _ _ (by simpa using h2), Below.heap_setCell _ _ _ _ (by simpa using h2), Below.heap_setCell _ _ _ _ (by simpa using h1)]
        have hO : OwnP ((((wr.setCell ⟨w2.heap.size, 2, none⟩ (.slice za (wallsNew ws id (up != 0) 7).length zc)).setCell ⟨w.heap.size + 1, 0, none⟩ (.int .i64 n)).setCell ⟨w.heap.size + 1, 1, none⟩ (.slice va L0.length vc)).setCell ⟨w.heap.size + 1, 2, none⟩ (.slice za (wallsNew ws id (up != 0) 7).length zc)) w1.heap.size (.slice va L0.length vc) L0 := HO2.out.keep fun k h1 h2 => by
          rw [k5 k (by omega) (by omega), HB.out.block k (by omega), HK.out k h2]
        have hI : OwnI ((((wr.setCell ⟨w2.heap.size, 2, none⟩ (.slice za (wallsNew ws id (up != 0) 7).length zc)).setCell ⟨w.heap.size + 1, 0, none⟩ (.int .i64 n)).setCell ⟨w.heap.size + 1, 1, none⟩ (.slice va L0.length vc)).setCell ⟨w.heap.size + 1, 2, none⟩ (.slice za (wallsNew ws id (up != 0) 7).length zc)) w1.heap.size (.slice za (wallsNew ws id (up != 0) 7).length zc) (wallsNew ws id (up != 0) 7) := (HO.out.keep fun k h1 _ => k5 k (by omega) (by omega)).le (by omega)
        refine (BagR.own hO hI (fun k e => ?_) (by rw [HLL.out]; unfold maxLen; omega) (by unfold maxLen; omega)).wide (by omega) (Nat.le_refl _)
        have hk := (World.ownsRow.lt HO.out k e).1
        refine ⟨fun e' => ?_, fun p hp e' => ?_⟩
        · have := HO2.out.lts.1 k e'; omega
        · have := HO2.out.lts.2 p hp k e'; omega
      · exact (((HBr.out.setCell (show w.heap.size ≤ w2.heap.size by omega) _).setCell (Nat.le_succ _) _).setCell (Nat.le_succ _) _).setCell (Nat.le_succ _) _
end Go.Proofs.Ytcppbkfppgacaaa
