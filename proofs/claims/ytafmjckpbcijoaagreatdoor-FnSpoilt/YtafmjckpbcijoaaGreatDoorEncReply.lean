/-
  The methods of replyBody, impl.encodeBody at a replyBody, impl.EncodeReply.
-/
import Derived.Test.YtafmjckpbcijoaaGreatDoorPutNum
import Derived.Test.YtafmjckpbcijoaaGreatDoorSeal
import Derived.Test.YtafmjckpbcijoaaGreatDoorGround
import Derived.Test.YtafmjckpbcijoaaGreatDoorOwnStep
namespace Go.Proofs.YtafmjckpbcijoaaGreatDoor
open Go.RowKit
set_option linter.unusedVariables false

def repL (cl sq st cd : Nat) (v : ByteArray) (ld : Nat) : List Int := 8 :: (numsL [cl, sq, st, cd] ++ textL v ++ numL ld)

theorem Ints.four (w : World) (a b c d : Nat) : ∀ j, j < [a, b, c, d].length → (w.alloc (.cells #[.int .i64 a, .int .i64 b, .int .i64 c, .int .i64 d] 3)).cell? ⟨w.heap.size, j, none⟩ = some (.int .i64 ([a, b, c, d][j]?.getD 0 : Nat)) := by
  intro j hj
  rw [World.cell?_alloc_new]
  match j, hj with
  | 0, _ => rfl
  | 1, _ => rfl
  | 2, _ => rfl
  | 3, _ => rfl

set_option maxHeartbeats 2000000 in
set_option maxRecDepth 100000 in
theorem replyBody_put_any (cl sq st cd ld : Nat) (v : ByteArray) (w : World)
    (h1 : cl < 9223372036854775808) (h2 : sq < 9223372036854775808) (h3 : st < 9223372036854775808) (h4 : cd < 9223372036854775808) (h5 : ld < 9223372036854775808) (hv : v.size ≤ 64) :
    Calls Tryz.prog 134 #[.agg #[.int .i64 cl, .int .i64 sq, .int .i64 st, .int .i64 cd, .string v, .int .i64 ld], .slice none 0 0] w fun e w' =>
      ∃ v', e = .returned v' ∧ Own w' w.heap.size v' (repL cl sq st cd v ld) ∧ Below w.heap.size w w' := by
  have hn : (numsL [cl, sq, st, cd]).length ≤ 36 := numsL_len [cl, sq, st, cd] (by simp; omega)
  have t1 := textL_len v (by omega)
  have hnm : ∀ n ∈ [cl, sq, st, cd], n < 9223372036854775808 := by simp; omega
  have HN : Hid (∀ n ∈ [cl, sq, st, cd], n < 9223372036854775808) := hnm
  clear hnm
  go_enter Tryz.func134, Tryz.ntmps134
  go_wp2_with (first
    | (at_builtin; (refine wpl_append rfl (.tmp 5) (.tmp 6) rfl (Own.nil _ w.heap.size) rfl (u := .slice (some ⟨w.heap.size + 1, 0, none⟩) 1 1) (l2 := [8]) (Bs.cell1 (by simp [go_sem]) (by omega)) rfl (by simp) (by simp) (by simp; omega) ?_; intro v1 w1 ho1 hg1; have hB1 : Below w.heap.size w w1 := Below.trans ((((Below.refl _ _).alloc (Nat.le_refl _) _).alloc (by simp) _)) (hg1.below (Own.nil _ w.heap.size) (by simp; omega)); have hz1 : w.heap.size < w1.heap.size := (by have := hg1.g.size; simp at this; omega); have hcc := fun (o : Nat) => hg1.cell (k := w.heap.size) (o := o) (by simp; omega) (by simp [Value.ownBlock]); have f1 : v1.ownBlock ≠ some w.heap.size := hg1.far (by simp; omega) (by simp [Value.ownBlock]); have n1 := ho1.ne (Nat.le_refl _); replace ho1 := ho1.below ((Below.refl w1.heap.size w1).alloc (Nat.le_refl _) (.cells #[.int .i64 cl, .int .i64 sq, .int .i64 st, .int .i64 cd] 3)); have hI := Ints.four w1 cl sq st cd))
    | (go_at_call 117; refine (putNumbers_any _ _ [cl, sq, st, cd] w1.heap.size 4 _ w.heap.size ho1 (by simp; omega) (by simp) HN.out (by simp) hI n1).mono ?_; rintro e w2 ⟨v2, rfl, ho2, hg2⟩; have hB2 := hB1.trans (((Below.refl _ _).alloc (by omega) _).trans (hg2.below ho1 (by simp; omega))); have hz2 : w.heap.size < w2.heap.size := (by have := hg2.g.size; simp at this; omega); have hdd := fun (o : Nat) => hg2.cell (k := w.heap.size) (o := o) (by simp; omega) f1; have f2 : v2.ownBlock ≠ some w.heap.size := hg2.far (by simp; omega) f1; clear hI)
    | (go_at_call 126; refine (putText_any _ _ v _ w.heap.size ho2 (by omega) (by simp; omega) (by omega)).mono ?_; rintro e w3 ⟨v3, rfl, ho3, hg3⟩; have hB3 := hB2.trans (hg3.below ho2 (by omega)); have hz3 : w.heap.size < w3.heap.size := (by have := hg3.g.size; omega); have hee := fun (o : Nat) => hg3.cell (k := w.heap.size) (o := o) hz2 f2)
    | (go_at_call 123; refine (putNumber_any _ _ ld _ w.heap.size ho3 (by omega) (by simp; omega) h5).mono ?_; rintro e w4 ⟨v4, rfl, ho4, hg4⟩; have hB4 := hB3.trans (hg4.below ho3 (by omega))))
  go_ret
  exact ⟨_, rfl, by simpa [repL, List.append_assoc] using ho4, hB4⟩

theorem meth_reply_put (x : Value) (w : World) : (method 300 73 x "loop.example/s01586/impl.put").run Tryz.prog w = .ok (134, x) w := by kernel_rfl

theorem repF_ok {cl sq st cd v ld : Int} (h : repF cl sq st cd v ld = 0) : 1 ≤ cl ∧ cl ≤ 8 ∧ 1 ≤ sq ∧ sq ≤ 1073741824 ∧ 1 ≤ st ∧ st ≤ 2 ∧ 0 ≤ cd ∧ cd ≤ 4 ∧ v ≤ 64 ∧ 0 ≤ ld ∧ ld ≤ 7 := by
  unfold repF at h
  simp only [inB_not] at h
  by_cases h1 : st = 1
  · simp only [h1, if_true] at h
    repeat' split at h
    all_goals omega
  · simp only [h1, if_false] at h
    repeat' split at h
    all_goals omega

theorem repL_len (cl sq st cd ld : Nat) (v : ByteArray) (h1 : cl < 9223372036854775808) (h2 : sq < 9223372036854775808) (h3 : st < 9223372036854775808) (h4 : cd < 9223372036854775808) (h5 : ld < 9223372036854775808) (hv : v.size ≤ 64) : 0 < (repL cl sq st cd v ld).length ∧ (repL cl sq st cd v ld).length ≤ 200 := by
  have hn : (numsL [cl, sq, st, cd]).length ≤ 36 := numsL_len [cl, sq, st, cd] (by simp; omega)
  have t1 := textL_len v (by omega)
  have t2 := numL_len9 ld h5
  simp only [repL, List.length_cons, List.length_append]
  omega

/-- what EncodeReply answers -/
def encReply (cl sq st cd ld : Int) (v : ByteArray) : List Int := if repF cl sq st cd v.size ld = 0 then frameL (repL cl.toNat sq.toNat st.toNat cd.toNat v ld.toNat) else []

set_option maxHeartbeats 1000000 in
set_option maxRecDepth 100000 in
theorem encodeBody_reply (cl sq st cd ld : Int) (v : ByteArray) (w : World) (hv : v.size ≤ maxLen) :
    Calls Tryz.prog 29 #[.iface 73 (.agg #[.int .i64 cl, .int .i64 sq, .int .i64 st, .int .i64 cd, .string v, .int .i64 ld])] w fun e w' => ∃ v', e = .returned v' ∧ Own w' w.heap.size v' (encReply cl sq st cd ld v) ∧ Below w.heap.size w w' := by
  have m1 := meth_reply_fault (.agg #[.int .i64 cl, .int .i64 sq, .int .i64 st, .int .i64 cd, .string v, .int .i64 ld])
  have m2 := meth_reply_put (.agg #[.int .i64 cl, .int .i64 sq, .int .i64 st, .int .i64 cd, .string v, .int .i64 ld])
  by_cases hF : repF cl sq st cd v.size ld = 0
  · rw [encReply, if_pos hF]
    obtain ⟨a1, a2, a3, a4, a5, a6, a7, a8, a9, a10, a11⟩ := repF_ok hF
    obtain ⟨cl, rfl⟩ := Int.eq_ofNat_of_zero_le (show 0 ≤ cl by omega)
    obtain ⟨sq, rfl⟩ := Int.eq_ofNat_of_zero_le (show 0 ≤ sq by omega)
    obtain ⟨st, rfl⟩ := Int.eq_ofNat_of_zero_le (show 0 ≤ st by omega)
    obtain ⟨cd, rfl⟩ := Int.eq_ofNat_of_zero_le a7
    obtain ⟨ld, rfl⟩ := Int.eq_ofNat_of_zero_le a10
    obtain ⟨hp, hlen⟩ := repL_len cl sq st cd ld v (by omega) (by omega) (by omega) (by omega) (by omega) (by omega)
    simp only [Int.toNat_natCast]
    go_enter Tryz.func29, Tryz.ntmps29
    go_wp2_with (first
      | (go_at_call 133; refine (replyBody_fault_any _ _ _ _ _ v hv _).mono ?_; rintro e w1 ⟨rfl, hb1⟩; rw [hF])
      | (go_at_call 134; refine (replyBody_put_any cl sq st cd ld v _ (by omega) (by omega) (by omega) (by omega) (by omega) (by omega)).mono ?_; rintro e w2 ⟨v2, rfl, ho2, hb2⟩; have hz := hb1.size)
      | (go_at_call 55; refine (sealFrame_any _ _ _ (ho2.bs (by unfold maxLen; omega)) hp (by omega)).mono ?_; rintro e w3 ⟨v3, rfl, ho3, hb3⟩; have hz2 := hb2.size))
    go_ret
    exact ⟨_, rfl, ho3.le (by omega), hb1.trans ((hb2.mono (by omega)).trans (hb3.mono (by omega)))⟩
  · rw [encReply, if_neg hF]
    have hF' : (repF cl sq st cd v.size ld != 0) = true := by simpa using hF
    go_enter Tryz.func29, Tryz.ntmps29
    go_wp2_with (go_at_call 133; refine (replyBody_fault_any _ _ _ _ _ v hv _).mono ?_; rintro e w1 ⟨rfl, hb1⟩)
    go_ret
    exact ⟨_, rfl, Own.nil _ _, hb1⟩

set_option maxHeartbeats 1000000 in
theorem implEncodeReply_any (cl sq st cd ld : Int) (v : ByteArray) (w : World) (hv : v.size ≤ maxLen) :
    Calls Tryz.prog 15 #[.agg #[.int .i64 cl, .int .i64 sq, .int .i64 st, .int .i64 cd, .string v, .int .i64 ld]] w fun e w' => ∃ v', e = .returned v' ∧ Own w' w.heap.size v' (encReply cl sq st cd ld v) ∧ Below w.heap.size w w' := by
  go_enter Tryz.func15, Tryz.ntmps15
  go_wp2_with (go_at_call 29; refine (encodeBody_reply cl sq st cd ld v _ hv).mono ?_; rintro e w1 ⟨v1, rfl, ho1, hb1⟩)
  go_ret
  exact ⟨_, rfl, ho1.le (by simp), ((Below.refl _ _).alloc (Nat.le_refl _) _).trans (hb1.mono (by simp))⟩
end Go.Proofs.YtafmjckpbcijoaaGreatDoor
