/-
  The leader's lists: impl.listsFit.
-/
import Derived.Test.YtjhkfjmgdkcipadNodeLs
namespace Go.Proofs.Ytjhkfjmgdkcipad
open Go.RowKit
set_option linter.unusedVariables false
set_option linter.unusedSimpArgs false

def lensB (sz : Int) (ns : List Nat) : Bool := ns.all fun n => (n : Int) == sz
def progsB (id ln nw : Int) (l14 l15 l16 l17 : List Int) (n k : Nat) : Bool := (List.range' k (n - k)).all fun j => progB ((j : Int) + 1) id ln nw (l14.getD j 0) (l15.getD j 0) (l16.getD j 0) (l17.getD j 0)
theorem progsB_step (id ln nw : Int) (l14 l15 l16 l17 : List Int) (n k : Nat) (h : k < n) : progsB id ln nw l14 l15 l16 l17 n k = (progB ((k : Int) + 1) id ln nw (l14.getD k 0) (l15.getD k 0) (l16.getD k 0) (l17.getD k 0) && progsB id ln nw l14 l15 l16 l17 n (k + 1)) := by
  unfold progsB
  rw [show n - k = (n - (k + 1)) + 1 by omega, List.range'_succ]
  rfl
theorem progsB_end (id ln nw : Int) (l14 l15 l16 l17 : List Int) (n k : Nat) (h : n ≤ k) : progsB id ln nw l14 l15 l16 l17 n k = true := by
  unfold progsB
  rw [show n - k = 0 by omega]
  rfl
def listB (ro sz id ln nw : Int) (l14 l15 l16 l17 : List Int) : Bool :=
  lensB (if ro = 3 then sz else 0) [l14.length, l15.length, l16.length, l17.length] && progsB id ln nw l14 l15 l16 l17 (if ro = 3 then sz else 0).toNat 0
theorem lensB_iff (sz : Int) (a b c d : Nat) : lensB sz [a, b, c, d] = true ↔ (a : Int) = sz ∧ (b : Int) = sz ∧ (c : Int) = sz ∧ (d : Int) = sz := by simp [lensB]

set_option maxHeartbeats 4000000 in
set_option maxRecDepth 100000 in
theorem listsFit_any (i0 i1 i2 i3 i4 i5 i6 i7 i8 i9 i10 i11 : Int) (a12 a13 a14 a15 a16 a17 : Option Addr) (cap12 cap13 cap14 cap15 cap16 cap17 : Nat) (l12 : List Ent) (l13 l14 l15 l16 l17 : List Int) (w : World) (h14 : Ix w (.slice a14 l14.length cap14) l14) (h15 : Ix w (.slice a15 l15.length cap15) l15) (h16 : Ix w (.slice a16 l16.length cap16) l16) (h17 : Ix w (.slice a17 l17.length cap17) l17) (hs : 0 ≤ i1) (hs7 : i1 ≤ 7) (hll : l12.length ≤ 1048576) : Calls Try.prog 74 #[.agg #[.int .i64 i0, .int .i64 i1, .int .i64 i2, .int .i64 i3, .int .i64 i4, .int .i64 i5, .int .i64 i6, .int .i64 i7, .int .i64 i8, .int .i64 i9, .int .i64 i10, .int .i64 i11, .slice a12 l12.length cap12, .slice a13 l13.length cap13, .slice a14 l14.length cap14, .slice a15 l15.length cap15, .slice a16 l16.length cap16, .slice a17 l17.length cap17]] w fun e w' => e = .returned (.bool (listB i6 i1 i0 l12.length i9 l14 l15 l16 l17)) ∧ Below w.heap.size w w' := by
  have HP : Hid (∀ (u : World) (k : Nat), Below w.heap.size w u → k < l14.length → k < l15.length → k < l16.length → k < l17.length → k < 1000 → Calls Try.prog 129 #[.agg #[.int .i64 i0, .int .i64 i1, .int .i64 i2, .int .i64 i3, .int .i64 i4, .int .i64 i5, .int .i64 i6, .int .i64 i7, .int .i64 i8, .int .i64 i9, .int .i64 i10, .int .i64 i11, .slice a12 l12.length cap12, .slice a13 l13.length cap13, .slice a14 l14.length cap14, .slice a15 l15.length cap15, .slice a16 l16.length cap16, .slice a17 l17.length cap17], .int .i64 ((k : Int) + 1)] u fun e w' => e = .returned (.bool (progB ((k : Int) + 1) i0 l12.length i9 (l14.getD k 0) (l15.getD k 0) (l16.getD k 0) (l17.getD k 0))) ∧ Below u.heap.size u w') := fun u k hu k14 k15 k16 k17 hk => by
    have := progressFits_any i0 i1 i2 i3 i4 i5 i6 i7 i8 i9 i10 i11 a12 a13 a14 a15 a16 a17 cap12 cap13 cap14 cap15 cap16 cap17 l12 l13 l14 l15 l16 l17 u k (h14.below hu) (h15.below hu) (h16.below hu) (h17.below hu) k14 k15 k16 k17 hk hll
    simpa only [List.getD_eq_getElem?_getD, List.getElem?_eq_getElem, k14, k15, k16, k17, Option.getD_some] using this
  have m14 := h14.1
  have m15 := h15.1
  have m16 := h16.1
  have m17 := h17.1
  unfold maxLen at m14 m15 m16 m17
  clear h14 h15 h16 h17
  by_cases hro : i6 = 3
  · subst hro
    have HL : Hid (listB 3 i1 i0 l12.length i9 l14 l15 l16 l17 = (lensB i1 [l14.length, l15.length, l16.length, l17.length] && progsB i0 l12.length i9 l14 l15 l16 l17 i1.toNat 0)) := (by simp [listB] : listB 3 i1 i0 l12.length i9 l14 l15 l16 l17 = (lensB i1 [l14.length, l15.length, l16.length, l17.length] && progsB i0 l12.length i9 l14 l15 l16 l17 i1.toNat 0))
    go_enter Try.func74, Try.ntmps74
    go_wp2
    go_loop [22] (fun i => ∃ k : Nat, k ≤ 4 ∧ i = .int .i64 k ∧ lensB (i1) [l14.length, l15.length, l16.length, l17.length] = lensB (i1) ([l14.length, l15.length, l16.length, l17.length].drop k)) (fun i => 4 - (intOf i).toNat)
    case atStart => exact ⟨0, by omega, rfl, rfl⟩
    case round =>
      obtain ⟨k, hk, rfl, hr⟩ := hrel
      have HR : Hid (lensB (i1) [l14.length, l15.length, l16.length, l17.length] = lensB (i1) ([l14.length, l15.length, l16.length, l17.length].drop k)) := hr
      clear hr
      rcases (show k = 0 ∨ k = 1 ∨ k = 2 ∨ k = 3 ∨ k = 4 by omega) with rfl | rfl | rfl | rfl | rfl
      · by_cases hq : (l14.length : Int) = i1
        · have nq : ((l14.length : Int) == i1) = true := by simpa using hq
          have HN : Hid (lensB (i1) [l14.length, l15.length, l16.length, l17.length] = lensB (i1) ([l14.length, l15.length, l16.length, l17.length].drop 1)) := (by rw [HR.out]; simp only [lensB, List.drop_zero, List.drop_succ_cons, List.all_cons, nq, Bool.true_and] : lensB (i1) [l14.length, l15.length, l16.length, l17.length] = lensB (i1) ([l14.length, l15.length, l16.length, l17.length].drop 1))
          clear hq
          go_wp2
          go_round
          case rel => exact ⟨1, by omega, by go_num, HN.out⟩
          case measure => simp [intOf]
        · have nq : ((l14.length : Int) == i1) = false := by simpa using hq
          have HN : Hid (lensB (i1) [l14.length, l15.length, l16.length, l17.length] = false) := (by rw [HR.out]; simp only [lensB, List.drop_zero, List.drop_succ_cons, List.all_cons, nq, Bool.false_and] : lensB (i1) [l14.length, l15.length, l16.length, l17.length] = false)
          clear hq
          go_wp2
          go_ret
          exact ⟨by rw [HL.out, HN.out]; rfl, ((Below.refl _ _).alloc (Nat.le_refl _) _).alloc (by simp) _⟩
      · by_cases hq : (l15.length : Int) = i1
        · have nq : ((l15.length : Int) == i1) = true := by simpa using hq
          have HN : Hid (lensB (i1) [l14.length, l15.length, l16.length, l17.length] = lensB (i1) ([l14.length, l15.length, l16.length, l17.length].drop 2)) := (by rw [HR.out]; simp only [lensB, List.drop_zero, List.drop_succ_cons, List.all_cons, nq, Bool.true_and] : lensB (i1) [l14.length, l15.length, l16.length, l17.length] = lensB (i1) ([l14.length, l15.length, l16.length, l17.length].drop 2))
          clear hq
          go_wp2
          go_round
          case rel => exact ⟨2, by omega, by go_num, HN.out⟩
          case measure => simp [intOf]
        · have nq : ((l15.length : Int) == i1) = false := by simpa using hq
          have HN : Hid (lensB (i1) [l14.length, l15.length, l16.length, l17.length] = false) := (by rw [HR.out]; simp only [lensB, List.drop_zero, List.drop_succ_cons, List.all_cons, nq, Bool.false_and] : lensB (i1) [l14.length, l15.length, l16.length, l17.length] = false)
          clear hq
          go_wp2
          go_ret
          exact ⟨by rw [HL.out, HN.out]; rfl, ((Below.refl _ _).alloc (Nat.le_refl _) _).alloc (by simp) _⟩
      · by_cases hq : (l16.length : Int) = i1
        · have nq : ((l16.length : Int) == i1) = true := by simpa using hq
          have HN : Hid (lensB (i1) [l14.length, l15.length, l16.length, l17.length] = lensB (i1) ([l14.length, l15.length, l16.length, l17.length].drop 3)) := (by rw [HR.out]; simp only [lensB, List.drop_zero, List.drop_succ_cons, List.all_cons, nq, Bool.true_and] : lensB (i1) [l14.length, l15.length, l16.length, l17.length] = lensB (i1) ([l14.length, l15.length, l16.length, l17.length].drop 3))
          clear hq
          go_wp2
          go_round
          case rel => exact ⟨3, by omega, by go_num, HN.out⟩
          case measure => simp [intOf]
        · have nq : ((l16.length : Int) == i1) = false := by simpa using hq
          have HN : Hid (lensB (i1) [l14.length, l15.length, l16.length, l17.length] = false) := (by rw [HR.out]; simp only [lensB, List.drop_zero, List.drop_succ_cons, List.all_cons, nq, Bool.false_and] : lensB (i1) [l14.length, l15.length, l16.length, l17.length] = false)
          clear hq
          go_wp2
          go_ret
          exact ⟨by rw [HL.out, HN.out]; rfl, ((Below.refl _ _).alloc (Nat.le_refl _) _).alloc (by simp) _⟩
      · by_cases hq : (l17.length : Int) = i1
        · have nq : ((l17.length : Int) == i1) = true := by simpa using hq
          have HN : Hid (lensB (i1) [l14.length, l15.length, l16.length, l17.length] = lensB (i1) ([l14.length, l15.length, l16.length, l17.length].drop 4)) := (by rw [HR.out]; simp only [lensB, List.drop_zero, List.drop_succ_cons, List.all_cons, nq, Bool.true_and] : lensB (i1) [l14.length, l15.length, l16.length, l17.length] = lensB (i1) ([l14.length, l15.length, l16.length, l17.length].drop 4))
          clear hq
          go_wp2
          go_round
          case rel => exact ⟨4, by omega, by go_num, HN.out⟩
          case measure => simp [intOf]
        · have nq : ((l17.length : Int) == i1) = false := by simpa using hq
          have HN : Hid (lensB (i1) [l14.length, l15.length, l16.length, l17.length] = false) := (by rw [HR.out]; simp only [lensB, List.drop_zero, List.drop_succ_cons, List.all_cons, nq, Bool.false_and] : lensB (i1) [l14.length, l15.length, l16.length, l17.length] = false)
          clear hq
          go_wp2
          go_ret
          exact ⟨by rw [HL.out, HN.out]; rfl, ((Below.refl _ _).alloc (Nat.le_refl _) _).alloc (by simp) _⟩
      · have HT : lensB (i1) [l14.length, l15.length, l16.length, l17.length] = true := by rw [HR.out]; rfl
        obtain ⟨q14, q15, q16, q17⟩ := (lensB_iff _ _ _ _ _).1 HT
        rw [HT] at HL
        clear HR HT
        go_wp2
        go_loopw [32] (fun i wr => ∃ k : Nat, (k : Int) ≤ i1 ∧ i = .int .i64 k ∧ progsB i0 l12.length i9 l14 l15 l16 l17 (i1).toNat 0 = progsB i0 l12.length i9 l14 l15 l16 l17 (i1).toNat k ∧ Blk wr w.heap.size #[.int .i64 i0, .int .i64 i1, .int .i64 i2, .int .i64 i3, .int .i64 i4, .int .i64 i5, .int .i64 3, .int .i64 i7, .int .i64 i8, .int .i64 i9, .int .i64 i10, .int .i64 i11, .slice a12 l12.length cap12, .slice a13 l13.length cap13, .slice a14 l14.length cap14, .slice a15 l15.length cap15, .slice a16 l16.length cap16, .slice a17 l17.length cap17] 62 ∧ Below w.heap.size w wr) (fun i _ => 8 - (intOf i).toNat)
        case atStart => exact ⟨0, by omega, rfl, rfl, (Blk.new _ _ _).alloc _, ((Below.refl _ _).alloc (Nat.le_refl _) _).alloc (by simp) _⟩
        case round =>
          obtain ⟨k, hk, rfl, hr, BA, hB⟩ := hrel
          have HR : Hid (progsB i0 l12.length i9 l14 l15 l16 l17 (i1).toNat 0 = progsB i0 l12.length i9 l14 l15 l16 l17 (i1).toNat k) := hr
          have HBB : Hid (Below w.heap.size w wr) := hB
          have HA : Hid (Blk wr w.heap.size #[.int .i64 i0, .int .i64 i1, .int .i64 i2, .int .i64 i3, .int .i64 i4, .int .i64 i5, .int .i64 3, .int .i64 i7, .int .i64 i8, .int .i64 i9, .int .i64 i10, .int .i64 i11, .slice a12 l12.length cap12, .slice a13 l13.length cap13, .slice a14 l14.length cap14, .slice a15 l15.length cap15, .slice a16 l16.length cap16, .slice a17 l17.length cap17] 62) := BA
          have hz := hB.size
          have hlt0 := BA.lt
          clear hr BA hB
          by_cases hlt : (k : Int) < i1
          · have HD : Hid (progsB i0 l12.length i9 l14 l15 l16 l17 (i1).toNat k = _) := progsB_step i0 l12.length i9 l14 l15 l16 l17 (i1).toNat k (by omega)
            generalize hq : progB ((k : Int) + 1) i0 l12.length i9 (l14.getD k 0) (l15.getD k 0) (l16.getD k 0) (l17.getD k 0) = q at HD
            have HC : Hid (∀ u : World, Below w.heap.size w u → Calls Try.prog 129 #[.agg #[.int .i64 i0, .int .i64 i1, .int .i64 i2, .int .i64 i3, .int .i64 i4, .int .i64 i5, .int .i64 3, .int .i64 i7, .int .i64 i8, .int .i64 i9, .int .i64 i10, .int .i64 i11, .slice a12 l12.length cap12, .slice a13 l13.length cap13, .slice a14 l14.length cap14, .slice a15 l15.length cap15, .slice a16 l16.length cap16, .slice a17 l17.length cap17], .int .i64 ((k : Int) + 1)] u fun e w' => e = .returned (.bool q) ∧ Below u.heap.size u w') := fun u hu => by rw [← hq]; exact HP.out u k hu (by omega) (by omega) (by omega) (by omega) (by omega)
            clear hq
            cases q
            · go_wp2_with (first
                | (refine gate_ld 62 (.tmp 1) rfl ?_; refine wpl_load_blk rfl 62 (.tmp 1) rfl (w.heap.size) rfl HA.out Try.underlying62 rfl sizeNd rfl ?_)
                | (go_at_call 129; refine (HC.out _ HBB.out).mono ?_; rintro e w1 ⟨rfl, hb1⟩))
              go_ret
              exact ⟨by rw [HL.out, HR.out, HD.out]; rfl, HBB.out.trans (hb1.mono hz)⟩
            · go_wp2_with (first
                | (refine gate_ld 62 (.tmp 1) rfl ?_; refine wpl_load_blk rfl 62 (.tmp 1) rfl (w.heap.size) rfl HA.out Try.underlying62 rfl sizeNd rfl ?_)
                | (go_at_call 129; refine (HC.out _ HBB.out).mono ?_; rintro e w1 ⟨rfl, hb1⟩))
              go_roundw
              case rel => exact ⟨k + 1, by omega, by go_num, by rw [HR.out, HD.out]; rfl, HA.out.below hb1 hlt0, HBB.out.trans (hb1.mono hz)⟩
              case measure => simp [intOf]; omega
          · go_wp2
            go_ret
            exact ⟨by rw [HL.out, HR.out, progsB_end _ _ _ _ _ _ _ _ _ (by omega)]; rfl, HBB.out⟩
  · have nro : (i6 == 3) = false := by simpa using hro
    have HL : Hid (listB i6 i1 i0 l12.length i9 l14 l15 l16 l17 = (lensB 0 [l14.length, l15.length, l16.length, l17.length] && progsB i0 l12.length i9 l14 l15 l16 l17 (0 : Int).toNat 0)) := (by simp [listB, hro] : listB i6 i1 i0 l12.length i9 l14 l15 l16 l17 = (lensB 0 [l14.length, l15.length, l16.length, l17.length] && progsB i0 l12.length i9 l14 l15 l16 l17 (0 : Int).toNat 0))
    clear hro
    go_enter Try.func74, Try.ntmps74
    go_wp2
    go_loop [22] (fun i => ∃ k : Nat, k ≤ 4 ∧ i = .int .i64 k ∧ lensB 0 [l14.length, l15.length, l16.length, l17.length] = lensB (0) ([l14.length, l15.length, l16.length, l17.length].drop k)) (fun i => 4 - (intOf i).toNat)
    case atStart => exact ⟨0, by omega, rfl, rfl⟩
    case round =>
      obtain ⟨k, hk, rfl, hr⟩ := hrel
      have HR : Hid (lensB 0 [l14.length, l15.length, l16.length, l17.length] = lensB (0) ([l14.length, l15.length, l16.length, l17.length].drop k)) := hr
      clear hr
      rcases (show k = 0 ∨ k = 1 ∨ k = 2 ∨ k = 3 ∨ k = 4 by omega) with rfl | rfl | rfl | rfl | rfl
      · by_cases hq : (l14.length : Int) = 0
        · have nq : ((l14.length : Int) == 0) = true := by simpa using hq
          have HN : Hid (lensB 0 [l14.length, l15.length, l16.length, l17.length] = lensB (0) ([l14.length, l15.length, l16.length, l17.length].drop 1)) := (by rw [HR.out]; simp only [lensB, List.drop_zero, List.drop_succ_cons, List.all_cons, nq, Bool.true_and] : lensB 0 [l14.length, l15.length, l16.length, l17.length] = lensB (0) ([l14.length, l15.length, l16.length, l17.length].drop 1))
          clear hq
          go_wp2
          go_round
          case rel => exact ⟨1, by omega, by go_num, HN.out⟩
          case measure => simp [intOf]
        · have nq : ((l14.length : Int) == 0) = false := by simpa using hq
          have HN : Hid (lensB 0 [l14.length, l15.length, l16.length, l17.length] = false) := (by rw [HR.out]; simp only [lensB, List.drop_zero, List.drop_succ_cons, List.all_cons, nq, Bool.false_and] : lensB 0 [l14.length, l15.length, l16.length, l17.length] = false)
          clear hq
          go_wp2
          go_ret
          exact ⟨by rw [HL.out, HN.out]; rfl, ((Below.refl _ _).alloc (Nat.le_refl _) _).alloc (by simp) _⟩
      · by_cases hq : (l15.length : Int) = 0
        · have nq : ((l15.length : Int) == 0) = true := by simpa using hq
          have HN : Hid (lensB 0 [l14.length, l15.length, l16.length, l17.length] = lensB (0) ([l14.length, l15.length, l16.length, l17.length].drop 2)) := (by rw [HR.out]; simp only [lensB, List.drop_zero, List.drop_succ_cons, List.all_cons, nq, Bool.true_and] : lensB 0 [l14.length, l15.length, l16.length, l17.length] = lensB (0) ([l14.length, l15.length, l16.length, l17.length].drop 2))
          clear hq
          go_wp2
          go_round
          case rel => exact ⟨2, by omega, by go_num, HN.out⟩
          case measure => simp [intOf]
        · have nq : ((l15.length : Int) == 0) = false := by simpa using hq
          have HN : Hid (lensB 0 [l14.length, l15.length, l16.length, l17.length] = false) := (by rw [HR.out]; simp only [lensB, List.drop_zero, List.drop_succ_cons, List.all_cons, nq, Bool.false_and] : lensB 0 [l14.length, l15.length, l16.length, l17.length] = false)
          clear hq
          go_wp2
          go_ret
          exact ⟨by rw [HL.out, HN.out]; rfl, ((Below.refl _ _).alloc (Nat.le_refl _) _).alloc (by simp) _⟩
      · by_cases hq : (l16.length : Int) = 0
        · have nq : ((l16.length : Int) == 0) = true := by simpa using hq
          have HN : Hid (lensB 0 [l14.length, l15.length, l16.length, l17.length] = lensB (0) ([l14.length, l15.length, l16.length, l17.length].drop 3)) := (by rw [HR.out]; simp only [lensB, List.drop_zero, List.drop_succ_cons, List.all_cons, nq, Bool.true_and] : lensB 0 [l14.length, l15.length, l16.length, l17.length] = lensB (0) ([l14.length, l15.length, l16.length, l17.length].drop 3))
          clear hq
          go_wp2
          go_round
          case rel => exact ⟨3, by omega, by go_num, HN.out⟩
          case measure => simp [intOf]
        · have nq : ((l16.length : Int) == 0) = false := by simpa using hq
          have HN : Hid (lensB 0 [l14.length, l15.length, l16.length, l17.length] = false) := (by rw [HR.out]; simp only [lensB, List.drop_zero, List.drop_succ_cons, List.all_cons, nq, Bool.false_and] : lensB 0 [l14.length, l15.length, l16.length, l17.length] = false)
          clear hq
          go_wp2
          go_ret
          exact ⟨by rw [HL.out, HN.out]; rfl, ((Below.refl _ _).alloc (Nat.le_refl _) _).alloc (by simp) _⟩
      · by_cases hq : (l17.length : Int) = 0
        · have nq : ((l17.length : Int) == 0) = true := by simpa using hq
          have HN : Hid (lensB 0 [l14.length, l15.length, l16.length, l17.length] = lensB (0) ([l14.length, l15.length, l16.length, l17.length].drop 4)) := (by rw [HR.out]; simp only [lensB, List.drop_zero, List.drop_succ_cons, List.all_cons, nq, Bool.true_and] : lensB 0 [l14.length, l15.length, l16.length, l17.length] = lensB (0) ([l14.length, l15.length, l16.length, l17.length].drop 4))
          clear hq
          go_wp2
          go_round
          case rel => exact ⟨4, by omega, by go_num, HN.out⟩
          case measure => simp [intOf]
        · have nq : ((l17.length : Int) == 0) = false := by simpa using hq
          have HN : Hid (lensB 0 [l14.length, l15.length, l16.length, l17.length] = false) := (by rw [HR.out]; simp only [lensB, List.drop_zero, List.drop_succ_cons, List.all_cons, nq, Bool.false_and] : lensB 0 [l14.length, l15.length, l16.length, l17.length] = false)
          clear hq
          go_wp2
          go_ret
          exact ⟨by rw [HL.out, HN.out]; rfl, ((Below.refl _ _).alloc (Nat.le_refl _) _).alloc (by simp) _⟩
      · have HT : lensB 0 [l14.length, l15.length, l16.length, l17.length] = true := by rw [HR.out]; rfl
        obtain ⟨q14, q15, q16, q17⟩ := (lensB_iff _ _ _ _ _).1 HT
        rw [HT] at HL
        clear HR HT
        go_wp2
        go_loopw [32] (fun i wr => ∃ k : Nat, (k : Int) ≤ 0 ∧ i = .int .i64 k ∧ progsB i0 l12.length i9 l14 l15 l16 l17 (0 : Int).toNat 0 = progsB i0 l12.length i9 l14 l15 l16 l17 (0 : Int).toNat k ∧ Blk wr w.heap.size #[.int .i64 i0, .int .i64 i1, .int .i64 i2, .int .i64 i3, .int .i64 i4, .int .i64 i5, .int .i64 i6, .int .i64 i7, .int .i64 i8, .int .i64 i9, .int .i64 i10, .int .i64 i11, .slice a12 l12.length cap12, .slice a13 l13.length cap13, .slice a14 l14.length cap14, .slice a15 l15.length cap15, .slice a16 l16.length cap16, .slice a17 l17.length cap17] 62 ∧ Below w.heap.size w wr) (fun i _ => 8 - (intOf i).toNat)
        case atStart => exact ⟨0, by omega, rfl, rfl, (Blk.new _ _ _).alloc _, ((Below.refl _ _).alloc (Nat.le_refl _) _).alloc (by simp) _⟩
        case round =>
          obtain ⟨k, hk, rfl, hr, BA, hB⟩ := hrel
          have HR : Hid (progsB i0 l12.length i9 l14 l15 l16 l17 (0 : Int).toNat 0 = progsB i0 l12.length i9 l14 l15 l16 l17 (0 : Int).toNat k) := hr
          have HBB : Hid (Below w.heap.size w wr) := hB
          have HA : Hid (Blk wr w.heap.size #[.int .i64 i0, .int .i64 i1, .int .i64 i2, .int .i64 i3, .int .i64 i4, .int .i64 i5, .int .i64 i6, .int .i64 i7, .int .i64 i8, .int .i64 i9, .int .i64 i10, .int .i64 i11, .slice a12 l12.length cap12, .slice a13 l13.length cap13, .slice a14 l14.length cap14, .slice a15 l15.length cap15, .slice a16 l16.length cap16, .slice a17 l17.length cap17] 62) := BA
          have hz := hB.size
          have hlt0 := BA.lt
          clear hr BA hB
          by_cases hlt : (k : Int) < 0
          · have HD : Hid (progsB i0 l12.length i9 l14 l15 l16 l17 (0 : Int).toNat k = _) := progsB_step i0 l12.length i9 l14 l15 l16 l17 (0 : Int).toNat k (by omega)
            generalize hq : progB ((k : Int) + 1) i0 l12.length i9 (l14.getD k 0) (l15.getD k 0) (l16.getD k 0) (l17.getD k 0) = q at HD
            have HC : Hid (∀ u : World, Below w.heap.size w u → Calls Try.prog 129 #[.agg #[.int .i64 i0, .int .i64 i1, .int .i64 i2, .int .i64 i3, .int .i64 i4, .int .i64 i5, .int .i64 i6, .int .i64 i7, .int .i64 i8, .int .i64 i9, .int .i64 i10, .int .i64 i11, .slice a12 l12.length cap12, .slice a13 l13.length cap13, .slice a14 l14.length cap14, .slice a15 l15.length cap15, .slice a16 l16.length cap16, .slice a17 l17.length cap17], .int .i64 ((k : Int) + 1)] u fun e w' => e = .returned (.bool q) ∧ Below u.heap.size u w') := fun u hu => by rw [← hq]; exact HP.out u k hu (by omega) (by omega) (by omega) (by omega) (by omega)
            clear hq
            cases q
            · go_wp2_with (first
                | (refine gate_ld 62 (.tmp 1) rfl ?_; refine wpl_load_blk rfl 62 (.tmp 1) rfl (w.heap.size) rfl HA.out Try.underlying62 rfl sizeNd rfl ?_)
                | (go_at_call 129; refine (HC.out _ HBB.out).mono ?_; rintro e w1 ⟨rfl, hb1⟩))
              go_ret
              exact ⟨by rw [HL.out, HR.out, HD.out]; rfl, HBB.out.trans (hb1.mono hz)⟩
            · go_wp2_with (first
                | (refine gate_ld 62 (.tmp 1) rfl ?_; refine wpl_load_blk rfl 62 (.tmp 1) rfl (w.heap.size) rfl HA.out Try.underlying62 rfl sizeNd rfl ?_)
                | (go_at_call 129; refine (HC.out _ HBB.out).mono ?_; rintro e w1 ⟨rfl, hb1⟩))
              go_roundw
              case rel => exact ⟨k + 1, by omega, by go_num, by rw [HR.out, HD.out]; rfl, HA.out.below hb1 hlt0, HBB.out.trans (hb1.mono hz)⟩
              case measure => simp [intOf]; omega
          · go_wp2
            go_ret
            exact ⟨by rw [HL.out, HR.out, progsB_end _ _ _ _ _ _ _ _ _ (by omega)]; rfl, HBB.out⟩
end Go.Proofs.Ytjhkfjmgdkcipad
