/-
  impl.callFault, the methods of callBody, impl.encodeBody at a callBody, impl.EncodeCall.
-/
import Derived.Test.YtafmjckpbcijoaaGreatDoorPutCmd
import Derived.Test.YtafmjckpbcijoaaGreatDoorSeal
import Derived.Test.YtafmjckpbcijoaaGreatDoorGround
import Derived.Test.YtafmjckpbcijoaaGreatDoorOwnStep
namespace Go.Proofs.YtafmjckpbcijoaaGreatDoor
open Go.RowKit
set_option linter.unusedVariables false

set_option maxHeartbeats 2000000 in
set_option maxRecDepth 100000 in
theorem callBody_put_any (cl sq op : Nat) (k vl o : ByteArray) (w : World)
    (h1 : cl < 9223372036854775808) (h2 : sq < 9223372036854775808) (h3 : op < 9223372036854775808) (hk : k.size ≤ 64) (hvl : vl.size ≤ 64) (ho : o.size ≤ 64) :
    Calls Tryz.prog 131 #[.agg #[.int .i64 cl, .int .i64 sq, .int .i64 op, .string k, .string vl, .string o], .slice none 0 0] w fun e w' =>
      ∃ v', e = .returned v' ∧ Own w' w.heap.size v' (7 :: cmdL cl sq op k vl o) ∧ Below w.heap.size w w' := by
  go_enter Tryz.func131, Tryz.ntmps131
  go_wp2
  go_region_held3 (fun w' => w'.cell? ⟨w.heap.size, 0, none⟩ = some (.int .i64 cl) ∧ w'.cell? ⟨w.heap.size, 1, none⟩ = some (.int .i64 sq) ∧ w'.cell? ⟨w.heap.size, 2, none⟩ = some (.int .i64 op) ∧ w'.cell? ⟨w.heap.size, 3, none⟩ = some (.string k) ∧ w'.cell? ⟨w.heap.size, 4, none⟩ = some (.string vl) ∧ w'.cell? ⟨w.heap.size, 5, none⟩ = some (.string o)) (simp [*, go_sem, World.cell?_alloc_past])
    (first
      | ((refine stp_append rfl (.tmp 5) (.tmp 6) rfl (Own.nil _ w.heap.size) rfl (u := .slice (some ⟨w.heap.size + 1, 0, none⟩) 1 1) (l2 := [7]) ?u1 rfl (by simp) (by simp) ?u2 ?_; (case u1 => exact Bs.cell1 (by simp [go_sem]) (by omega)); (case u2 => simp; omega); intro v1 w1 ho1 hg1; have hz1 := hg1.g.size; simp at hz1; have hcc := fun (o : Nat) => hg1.cell (k := w.heap.size) (o := o) (by simp; omega) (by simp [Value.ownBlock]); have f1 : v1.ownBlock ≠ some w.heap.size := hg1.far (by simp; omega) (by simp [Value.ownBlock]); have hB1 := hg1.below (Own.nil _ w.heap.size) (by simp; omega)))
      | (go_at_call 124; (refine Calls.mono (putCmd_any _ [7] cl sq op k vl o _ w.heap.size ?q1 ?q2 ?q3 h1 h2 h3 hk hvl ho) ?_; (case q1 => exact ho1); (case q2 => omega); (case q3 => simp); rintro e w2 ⟨v2, rfl, ho2, hg2⟩; have hdd := fun (o : Nat) => hg2.cell (k := w.heap.size) (o := o) (by omega) f1; have hB2 := hg2.below ho1 (by omega))))
  all_goals go_wp2
  all_goals go_ret
  all_goals refine ⟨_, rfl, by simpa using ho2, Below.trans ?_ (hB1.trans hB2)⟩
  all_goals repeat (first | exact Below.refl _ _ | refine Below.drew ?_ | refine Below.alloc ?_ (by simp; done) _ | refine Below.alloc ?_ (by simp; omega) _)

theorem meth_call_fault (x : Value) (w : World) : (method 300 66 x "loop.example/s01586/impl.fault").run Tryz.prog w = .ok (130, x) w := by kernel_rfl
theorem meth_call_put (x : Value) (w : World) : (method 300 66 x "loop.example/s01586/impl.put").run Tryz.prog w = .ok (131, x) w := by kernel_rfl

theorem cmdF_ok {cl sq op k v o : Int} (h : cmdF cl sq op k v o = 0) : 0 ≤ cl ∧ cl ≤ 8 ∧ 0 ≤ sq ∧ sq ≤ 1073741824 ∧ 0 ≤ op ∧ op ≤ 4 ∧ k ≤ 64 ∧ v ≤ 64 ∧ o ≤ 64 := by
  unfold cmdF at h
  by_cases h1 : op < 0 ∨ 4 < op
  · rw [if_pos h1] at h; omega
  rw [if_neg h1] at h
  by_cases h2 : op = 0
  · rw [if_pos h2] at h
    repeat' split at h
    all_goals omega
  · rw [if_neg h2] at h
    repeat' split at h
    all_goals omega
theorem callF_ok {cl sq op k v o : Int} (h : callF cl sq op k v o = 0) : cmdF cl sq op k v o = 0 ∧ op ≠ 0 := by
  unfold callF at h
  split at h
  · omega
  · exact ⟨h, fun e => by simp_all⟩

theorem cmdL_len (cl sq op : Nat) (k v o : ByteArray) (h1 : cl < 9223372036854775808) (h2 : sq < 9223372036854775808) (h3 : op < 9223372036854775808) (hk : k.size ≤ 64) (hv : v.size ≤ 64) (ho : o.size ≤ 64) : (cmdL cl sq op k v o).length ≤ 300 := by
  have hn : (numsL [cl, sq, op]).length ≤ 27 := numsL_len [cl, sq, op] (by simp; omega)
  have t1 := textL_len k (by omega)
  have t2 := textL_len v (by omega)
  have t3 := textL_len o (by omega)
  simp only [cmdL, List.length_append]
  omega

set_option maxHeartbeats 1000000 in
set_option maxRecDepth 100000 in
theorem encodeBody_call (cl sq op : Int) (k vl o : ByteArray) (w : World) (hk : k.size ≤ maxLen) (hvl : vl.size ≤ maxLen) (ho : o.size ≤ maxLen) :
    Calls Tryz.prog 29 #[.iface 66 (.agg #[.int .i64 cl, .int .i64 sq, .int .i64 op, .string k, .string vl, .string o])] w fun e w' =>
      ∃ v', e = .returned v' ∧ Own w' w.heap.size v' (if callF cl sq op k.size vl.size o.size = 0 then frameL (7 :: cmdL cl.toNat sq.toNat op.toNat k vl o) else []) ∧ Below w.heap.size w w' := by
  have m1 := meth_call_fault (.agg #[.int .i64 cl, .int .i64 sq, .int .i64 op, .string k, .string vl, .string o])
  have m2 := meth_call_put (.agg #[.int .i64 cl, .int .i64 sq, .int .i64 op, .string k, .string vl, .string o])
  by_cases hF : callF cl sq op k.size vl.size o.size = 0
  · rw [if_pos hF]
    obtain ⟨hc, _⟩ := callF_ok hF
    obtain ⟨a1, a2, a3, a4, a5, a6, a7, a8, a9⟩ := cmdF_ok hc
    obtain ⟨cl, rfl⟩ := Int.eq_ofNat_of_zero_le a1
    obtain ⟨sq, rfl⟩ := Int.eq_ofNat_of_zero_le a3
    obtain ⟨op, rfl⟩ := Int.eq_ofNat_of_zero_le a5
    have hlen := cmdL_len cl sq op k vl o (by omega) (by omega) (by omega) (by omega) (by omega) (by omega)
    clear hc
    simp only [Int.toNat_natCast]
    go_enter Tryz.func29, Tryz.ntmps29
    go_wp2_with (first
      | (go_at_call 130; refine (callBody_fault_any _ _ _ k vl o hk hvl ho _).mono ?_; rintro e w1 ⟨rfl, hb1⟩; rw [hF])
      | (go_at_call 131; refine (callBody_put_any cl sq op k vl o _ (by omega) (by omega) (by omega) (by omega) (by omega) (by omega)).mono ?_; rintro e w2 ⟨v2, rfl, ho2, hb2⟩; have hz := hb1.size)
      | (go_at_call 55; refine (sealFrame_any _ _ _ (ho2.bs (by unfold maxLen; simp; omega)) (by simp) (by simp; omega)).mono ?_; rintro e w3 ⟨v3, rfl, ho3, hb3⟩; have hz2 := hb2.size))
    go_ret
    exact ⟨_, rfl, ho3.le (by omega), hb1.trans ((hb2.mono (by omega)).trans (hb3.mono (by omega)))⟩
  · rw [if_neg hF]
    have hF' : (callF cl sq op k.size vl.size o.size != 0) = true := by simpa using hF
    go_enter Tryz.func29, Tryz.ntmps29
    go_wp2_with (go_at_call 130; refine (callBody_fault_any _ _ _ k vl o hk hvl ho _).mono ?_; rintro e w1 ⟨rfl, hb1⟩)
    go_ret
    exact ⟨_, rfl, Own.nil _ _, hb1⟩

set_option maxHeartbeats 1000000 in
theorem implEncodeCall_any (cl sq op : Int) (k vl o : ByteArray) (w : World) (hk : k.size ≤ maxLen) (hvl : vl.size ≤ maxLen) (ho : o.size ≤ maxLen) :
    Calls Tryz.prog 12 #[.agg #[.int .i64 cl, .int .i64 sq, .int .i64 op, .string k, .string vl, .string o]] w fun e w' =>
      ∃ v', e = .returned v' ∧ Own w' w.heap.size v' (if callF cl sq op k.size vl.size o.size = 0 then frameL (7 :: cmdL cl.toNat sq.toNat op.toNat k vl o) else []) ∧ Below w.heap.size w w' := by
  generalize hL : (if callF cl sq op k.size vl.size o.size = 0 then frameL (7 :: cmdL cl.toNat sq.toNat op.toNat k vl o) else []) = L
  have HL : Hid ((if callF cl sq op k.size vl.size o.size = 0 then frameL (7 :: cmdL cl.toNat sq.toNat op.toNat k vl o) else []) = L) := hL
  clear hL
  go_enter Tryz.func12, Tryz.ntmps12
  go_wp2_with (go_at_call 29; refine (encodeBody_call cl sq op k vl o _ hk hvl ho).mono ?_; rw [HL.out]; rintro e w1 ⟨v1, rfl, ho1, hb1⟩)
  go_ret
  exact ⟨_, rfl, ho1.le (by simp), ((Below.refl _ _).alloc (Nat.le_refl _) _).trans (hb1.mono (by simp))⟩
end Go.Proofs.YtafmjckpbcijoaaGreatDoor
