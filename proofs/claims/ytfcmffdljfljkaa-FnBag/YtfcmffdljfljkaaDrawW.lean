/-
  spec.l1long, spec.l1word: the words that are drawn.
-/
import Derived.Test.YtfcmffdljfljkaaGround2
namespace Go.Proofs.Ytfcmffdljfljkaa
open Go.RowKit
set_option linter.unusedVariables false
set_option linter.unusedSimpArgs false

set_option maxRecDepth 100000 in
theorem conv_bs {w : World} {a : Option Addr} {n c : Nat} {l : List Int} (h : Bs w (.slice a n c) l) (hn : 0 < l.length) : (convert 35 9 (.slice a n c)).run Try.prog w = .ok (.string (strOfNums l)) w := by
  obtain ⟨hl, h8, a', cap, e, hcell⟩ := h
  injection e with e1 e2 e3
  subst e1 e2 e3
  obtain ⟨b, off, rfl, hj⟩ := hcell 0 hn
  refine run_convert_bytes_arg w 35 5 Try.underlying35 Try.underlying5 b off l.length c l rfl (fun i hi => ?_) 9 Try.underlying9
  rw [hj i hi]
  simp [List.getD, hi]

theorem bs_one (w : World) (x : Int) (h : 0 ≤ x ∧ x ≤ 255) : Bs (w.alloc (.cells #[.int .u8 x] 5)) (.slice (some ⟨w.heap.size, 0, none⟩) 1 1) [x] :=
  (Own.lit w [x] #[.int .u8 x] rfl (by simpa using h) (by simp [maxLen])).bs (by simp [maxLen])

set_option maxHeartbeats 1000000 in
set_option maxRecDepth 100000 in
theorem l1long_any (n : Nat) (c : Int) (hn0 : 0 < n) (hn : n ≤ 1000) (hc : 0 ≤ c ∧ c ≤ 255) (w : World) :
    Calls Try.prog 74 #[.int .i64 n, .int .u8 c] w fun e w' => e = .returned (.string (strOfNums (List.replicate n c))) ∧ Below w.heap.size w w' := by
  have hO := Own.lit w [] #[] rfl (by simp) (by simp [maxLen])
  go_enter Try.func74, Try.ntmps74
  go_wp2
  go_loopw [5, 6] (fun o i wr => ∃ k : Nat, k ≤ n ∧ i = .int .i64 k ∧ Own wr w.heap.size o (List.replicate k c) ∧ Below w.heap.size w wr) (fun _ i _ => n - (intOf i).toNat)
  case atStart => exact ⟨0, Nat.zero_le _, rfl, by simpa using hO, (Below.refl _ _).alloc (Nat.le_refl _) _⟩
  case round =>
    obtain ⟨k, hk, rfl, ho, hb⟩ := hrel
    have hz := hb.size
    clear hO
    by_cases hlt : k < n
    · go_wp2_with (at_builtin; refine wpl_append rfl (.tmp 13) (.tmp 15) rfl (ho.below ((Below.refl _ _).alloc (Nat.le_refl _) _)) rfl (bs_one _ c hc) rfl (by simp) (by simp; omega) (by simp; omega) ?_; intro v2 w2 ho2 hg2)
      go_roundw
      case rel => exact ⟨k + 1, by omega, by go_num, by rw [List.replicate_succ']; exact ho2, hb.trans (((Below.refl _ _).alloc (by omega) _).trans (hg2.below (ho.below ((Below.refl _ _).alloc (Nat.le_refl _) _)) (by simp; omega)))⟩
      case measure => simp [intOf]; omega
    · obtain rfl : k = n := by omega
      obtain ⟨a', cap', e'⟩ := ho.shape
      rw [List.length_replicate] at e'
      subst e'
      have hcv := conv_bs (ho.bs (by simp [maxLen]; omega)) (by simpa using hn0)
      clear ho
      go_wp2
      go_ret
      exact ⟨rfl, hb⟩

/-- a drawn word, and where the source stands behind it -/
def wordV (l : List Int) (k : Nat) (e : Bool) : ByteArray × Nat :=
  if pickV l k 16 = 0 ∧ e = true then (⟨#[]⟩, k + 1)
  else if pickV l k 16 = 1 then (strOfNums (List.replicate (64 - pickV l (k + 1) 2) (97 + (pickV l (k + 1 + 1) 3 : Nat))), k + 1 + 1 + 1)
  else if pickV l k 16 = 2 then (strOfNums [nextV l (k + 1), nextV l (k + 1 + 1)], k + 1 + 1 + 1)
  else if pickV l k 16 < 11 then (strOfNums [97 + (pickV l (k + 1) 4 : Nat)], k + 1 + 1)
  else (strOfNums [97 + (pickV l (k + 1) 3 : Nat), 48 + (pickV l (k + 1 + 1) 10 : Nat)], k + 1 + 1 + 1)

theorem wordV_size (l : List Int) (k : Nat) (e : Bool) : (wordV l k e).1.size ≤ 64 ∧ (e = false → 0 < (wordV l k e).1.size) ∧ k < (wordV l k e).2 ∧ (wordV l k e).2 ≤ k + 3 := by
  have h2 := pickV_lt l (k + 1) 2 (by omega)
  unfold wordV
  split
  · next h => exact ⟨by simp [ByteArray.size], fun he => by simp [he] at h, by simp, by simp⟩
  · split
    · simp only [strOfNums_size, List.length_replicate]; omega
    · split
      · simp [strOfNums_size]; omega
      · split <;> simp [strOfNums_size] <;> omega

theorem grownBy_alloc' {w w' : World} {row : Option Nat} (h : w.grownBy w' row) (o : Obj) : w.grownBy (w'.alloc o) row := grownBy_trans h (World.grownBy_alloc _ _ _)
theorem grownBy_below' {w w' w'' : World} {row : Option Nat} (h : w.grownBy w' row) (hb : Below w'.heap.size w' w'') : w.grownBy w'' row := grownBy_trans h ⟨hb.os, hb.tape, hb.output, hb.size, fun k hk _ => hb.block k hk⟩
theorem Src.below {w w' : World} {g : Nat} {v : Value} {l : List Int} {k : Nat} (h : Src w g v l k) (hb : Below w.heap.size w w') : Src w' g v l k :=
  ⟨Nat.lt_of_lt_of_le h.1 hb.size, fun i => (hb.frozen h.1).trans (h.2.1 i), h.2.2.1.below hb, (hb.cell h.1).trans h.2.2.2.1, (hb.cell h.1).trans h.2.2.2.2⟩
theorem pickK16 : pickK 16 = 1 := by decide
theorem pickK2 : pickK 2 = 1 := by decide
theorem pickK3 : pickK 3 = 1 := by decide
theorem pickK4 : pickK 4 = 1 := by decide
theorem pickK10 : pickK 10 = 1 := by decide

set_option maxHeartbeats 4000000 in
set_option maxRecDepth 100000 in
theorem l1word_any (g : Nat) (w : World) (v : Value) (l : List Int) (k : Nat) (e : Bool) (hL : l.length ≤ 1048576) (hk : k ≤ 800000000) (h : Src w g v l k) :
    Calls Try.prog 136 #[.pointer (some ⟨g, 0, none⟩), .bool e] w fun r w' => r = .returned (.string (wordV l k e).1) ∧ Src w' g v l (wordV l k e).2 ∧ w.grownBy w' (some g) := by
  have p0 := pickV_lt l k 16 (by omega)
  have p2 := pickV_lt l (k + 1) 2 (by omega)
  have p3 := pickV_lt l (k + 1 + 1) 3 (by omega)
  have p3' := pickV_lt l (k + 1) 3 (by omega)
  have p4 := pickV_lt l (k + 1) 4 (by omega)
  have p10 := pickV_lt l (k + 1 + 1) 10 (by omega)
  have b1 := h.byte (k + 1)
  have b2 := h.byte (k + 1 + 1)
  have HS : Hid (Src w g v l k) := h
  have g0 : True := trivial
  have g1 : True := trivial
  have g2 : True := trivial
  clear h
  by_cases c0 : pickV l k 16 = 0 ∧ e = true
  · obtain ⟨c0, rfl⟩ := c0
    have hw : wordV l k true = (⟨#[]⟩, k + 1) := by unfold wordV; rw [if_pos ⟨c0, rfl⟩]
    rw [hw]
    have HP : Hid (pickV l k 16 = 0) := c0
    clear c0 p0 p2 p3 p3' p4 p10 hw
    go_enter Try.func136, Try.ntmps136
    go_wp2_with (go_at_call 71; clear g0; refine (l1pick_any g _ v l k 16 hL (by omega) (by omega) (by omega) HS.out).mono ?_; rintro r w1 ⟨rfl, hs1, hg1⟩; rw [pickK16] at hs1; rw [HP.out])
    go_ret
    exact ⟨rfl, hs1, hg1⟩
  have HE : Hid (pickV l k 16 = 0 → e = false) := fun h => by cases e with | false => rfl | true => exact absurd ⟨h, rfl⟩ c0
  by_cases c1 : pickV l k 16 = 1
  · have hw : wordV l k e = (strOfNums (List.replicate (64 - pickV l (k + 1) 2) (97 + (pickV l (k + 1 + 1) 3 : Nat))), k + 1 + 1 + 1) := by unfold wordV; rw [if_neg c0, if_pos c1]
    rw [hw]
    have HP : Hid (pickV l k 16 = 1) := c1
    clear c0 c1 HE p0 hw p3' p4 p10
    have hn : ((64 : Int) - (pickV l (k + 1) 2 : Nat)) = ((64 - pickV l (k + 1) 2 : Nat) : Int) := by omega
    have HL : Hid (∀ w : World, Calls Try.prog 74 #[.int .i64 ((64 : Int) - (pickV l (k + 1) 2 : Nat)), .int .u8 (97 + (pickV l (k + 1 + 1) 3 : Nat))] w fun e w' => e = .returned (.string (strOfNums (List.replicate (64 - pickV l (k + 1) 2) (97 + (pickV l (k + 1 + 1) 3 : Nat))))) ∧ Below w.heap.size w w') := fun w => by
      rw [hn]; exact l1long_any _ _ (by omega) (by omega) (by omega) w
    clear hn
    generalize strOfNums (List.replicate (64 - pickV l (k + 1) 2) (97 + (pickV l (k + 1 + 1) 3 : Nat))) = S at HL ⊢
    go_enter Try.func136, Try.ntmps136
    go_wp2_with (first
      | (go_at_call 71; clear g0; refine (l1pick_any g _ v l k 16 hL (by omega) (by omega) (by omega) HS.out).mono ?_; rintro r w1 ⟨rfl, hs1, hg1⟩; rw [pickK16] at hs1; rw [HP.out])
      | (go_at_call 71; clear g1; refine (l1pick_any g _ v l (k + 1) 2 hL (by omega) (by omega) (by omega) hs1).mono ?_; rintro r w2 ⟨rfl, hs2, hg2⟩; rw [pickK2] at hs2)
      | (go_at_call 71; clear g2; refine (l1pick_any g _ v l (k + 1 + 1) 3 hL (by omega) (by omega) (by omega) hs2).mono ?_; rintro r w3 ⟨rfl, hs3, hg3⟩; rw [pickK3] at hs3)
      | (go_at_call 74; refine (HL.out _).mono ?_; rintro r w4 ⟨rfl, hb4⟩))
    go_ret
    exact ⟨rfl, hs3.below hb4, grownBy_below' (grownBy_trans hg1 (grownBy_trans hg2 hg3)) hb4⟩
  by_cases c2 : pickV l k 16 = 2
  · have hw : wordV l k e = (strOfNums [nextV l (k + 1), nextV l (k + 1 + 1)], k + 1 + 1 + 1) := by unfold wordV; rw [if_neg c0, if_neg c1, if_pos c2]
    rw [hw]
    have HP : Hid (pickV l k 16 = 2) := c2
    clear c0 c1 c2 HE p0 hw p3' p4 p10 p2 p3
    obtain ⟨q1, q2⟩ := b1
    obtain ⟨q3, q4⟩ := b2
    have HC : Hid (∀ w : World, (convert 35 9 (.slice (some ⟨w.heap.size, 0, none⟩) 2 2)).run Try.prog (w.alloc (.cells #[.int .u8 (nextV l (k + 1)), .int .u8 (nextV l (k + 1 + 1))] 5)) = .ok (.string (strOfNums [nextV l (k + 1), nextV l (k + 1 + 1)])) (w.alloc (.cells #[.int .u8 (nextV l (k + 1)), .int .u8 (nextV l (k + 1 + 1))] 5))) := fun w =>
      conv_bs ((Own.lit w [nextV l (k + 1), nextV l (k + 1 + 1)] #[.int .u8 (nextV l (k + 1)), .int .u8 (nextV l (k + 1 + 1))] rfl (by simp; omega) (by simp [maxLen])).bs (by simp [maxLen])) (by simp)
    generalize strOfNums [nextV l (k + 1), nextV l (k + 1 + 1)] = S at HC ⊢
    go_enter Try.func136, Try.ntmps136
    go_wp2_with (first
      | (go_at_call 71; clear g0; refine (l1pick_any g _ v l k 16 hL (by omega) (by omega) (by omega) HS.out).mono ?_; rintro r w1 ⟨rfl, hs1, hg1⟩; rw [pickK16] at hs1; rw [HP.out])
      | (go_at_call 73; clear g1; refine (l1next_any g _ v l (k + 1) hL (by omega) hs1).mono ?_; rintro r w2 ⟨rfl, hs2, hg2⟩)
      | (go_at_call 73; clear g2; refine (l1next_any g _ v l (k + 1 + 1) hL (by omega) hs2).mono ?_; rintro r w3 ⟨rfl, hs3, hg3⟩; have hcv := HC.out w3))
    go_ret
    exact ⟨rfl, hs3.below ((Below.refl _ _).alloc (Nat.le_refl _) _), grownBy_alloc' (grownBy_trans hg1 (grownBy_trans hg2 hg3)) _⟩
  by_cases c3 : pickV l k 16 < 11
  · have hw : wordV l k e = (strOfNums [97 + (pickV l (k + 1) 4 : Nat)], k + 1 + 1) := by unfold wordV; rw [if_neg c0, if_neg c1, if_neg c2, if_pos c3]
    rw [hw]
    have HC : Hid (∀ w : World, (convert 35 9 (.slice (some ⟨w.heap.size, 0, none⟩) 1 1)).run Try.prog (w.alloc (.cells #[.int .u8 (97 + (pickV l (k + 1) 4 : Nat))] 5)) = .ok (.string (strOfNums [97 + (pickV l (k + 1) 4 : Nat)])) (w.alloc (.cells #[.int .u8 (97 + (pickV l (k + 1) 4 : Nat))] 5))) := fun w =>
      conv_bs ((Own.lit w [97 + (pickV l (k + 1) 4 : Nat)] #[.int .u8 (97 + (pickV l (k + 1) 4 : Nat))] rfl (by simp; omega) (by simp [maxLen])).bs (by simp [maxLen])) (by simp)
    clear hw p3' p10 p2 p3 b1 b2
    generalize strOfNums [97 + (pickV l (k + 1) 4 : Nat)] = S at HC ⊢
    have HQ : Hid (∃ P : Int, P = (pickV l k 16 : Nat)) := ⟨_, rfl⟩
    go_enter Try.func136, Try.ntmps136
    go_wp2_with (first
      | (go_at_call 71; clear g0; refine (l1pick_any g _ v l k 16 hL (by omega) (by omega) (by omega) HS.out).mono ?_; rintro r w1 ⟨rfl, hs1, hg1⟩; rw [pickK16] at hs1)
      | (go_at_call 71; clear g1; refine (l1pick_any g _ v l (k + 1) 4 hL (by omega) (by omega) (by omega) hs1).mono ?_; rintro r w2 ⟨rfl, hs2, hg2⟩; rw [pickK4] at hs2; have hcv := HC.out w2))
    all_goals first
      | (go_ret; exact ⟨rfl, hs2.below ((Below.refl _ _).alloc (Nat.le_refl _) _), grownBy_alloc' (grownBy_trans hg1 hg2) _⟩)
      | (exfalso; first | omega | (have := HE.out (by omega); simp_all))
  · have hw : wordV l k e = (strOfNums [97 + (pickV l (k + 1) 3 : Nat), 48 + (pickV l (k + 1 + 1) 10 : Nat)], k + 1 + 1 + 1) := by unfold wordV; rw [if_neg c0, if_neg c1, if_neg c2, if_neg c3]
    rw [hw]
    have HC : Hid (∀ w : World, (convert 35 9 (.slice (some ⟨w.heap.size, 0, none⟩) 2 2)).run Try.prog (w.alloc (.cells #[.int .u8 (97 + (pickV l (k + 1) 3 : Nat)), .int .u8 (48 + (pickV l (k + 1 + 1) 10 : Nat))] 5)) = .ok (.string (strOfNums [97 + (pickV l (k + 1) 3 : Nat), 48 + (pickV l (k + 1 + 1) 10 : Nat)])) (w.alloc (.cells #[.int .u8 (97 + (pickV l (k + 1) 3 : Nat)), .int .u8 (48 + (pickV l (k + 1 + 1) 10 : Nat))] 5))) := fun w =>
      conv_bs ((Own.lit w [97 + (pickV l (k + 1) 3 : Nat), 48 + (pickV l (k + 1 + 1) 10 : Nat)] #[.int .u8 (97 + (pickV l (k + 1) 3 : Nat)), .int .u8 (48 + (pickV l (k + 1 + 1) 10 : Nat))] rfl (by simp; omega) (by simp [maxLen])).bs (by simp [maxLen])) (by simp)
    clear hw p4 p2 p3 b1 b2 HE
    generalize strOfNums [97 + (pickV l (k + 1) 3 : Nat), 48 + (pickV l (k + 1 + 1) 10 : Nat)] = S at HC ⊢
    go_enter Try.func136, Try.ntmps136
    go_wp2_with (first
      | (go_at_call 71; clear g0; refine (l1pick_any g _ v l k 16 hL (by omega) (by omega) (by omega) HS.out).mono ?_; rintro r w1 ⟨rfl, hs1, hg1⟩; rw [pickK16] at hs1)
      | (go_at_call 71; clear g1; refine (l1pick_any g _ v l (k + 1) 3 hL (by omega) (by omega) (by omega) hs1).mono ?_; rintro r w2 ⟨rfl, hs2, hg2⟩; rw [pickK3] at hs2)
      | (go_at_call 71; clear g2; refine (l1pick_any g _ v l (k + 1 + 1) 10 hL (by omega) (by omega) (by omega) hs2).mono ?_; rintro r w3 ⟨rfl, hs3, hg3⟩; rw [pickK10] at hs3; have hcv := HC.out w3))
    all_goals first
      | (go_ret; exact ⟨rfl, hs3.below ((Below.refl _ _).alloc (Nat.le_refl _) _), grownBy_alloc' (grownBy_trans hg1 (grownBy_trans hg2 hg3)) _⟩)
      | (exfalso; omega)
end Go.Proofs.Ytfcmffdljfljkaa
