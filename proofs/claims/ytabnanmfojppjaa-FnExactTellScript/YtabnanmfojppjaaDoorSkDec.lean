/-
  spec.l7decimal: a number in ten digits' letters.
-/
import Derived.Test.YtabnanmfojppjaaDoorSkWord
import Derived.Deep.RegionWith
namespace Go.Proofs.YtabnanmfojppjaaDoor
open Go.RowKit
set_option linter.unusedVariables false
set_option linter.unusedSimpArgs false
theorem conv1 (u : World) (b : Nat) (x : Int) (h : u.cell? ⟨b, 0, none⟩ = some (.int .u8 x)) :
    (convert 40 9 (.slice (some ⟨b, 0, none⟩) 1 1)).run Tryd.prog u = .ok (.string ⟨#[UInt8.ofNat x.toNat]⟩) u := by
  refine (run_convert_bytes_arg u 40 5 Tryd.underlying40 Tryd.underlying5 b 0 1 1 [x] rfl (fun i hi => ?_) 9 Tryd.underlying9).trans ?_
  · obtain rfl : i = 0 := by simpa using hi
    exact h
  · rfl
theorem dec_lt {n : Nat} (h : n < 10) : Lib.decDigits n = [UInt8.ofNat (48 + n)] := by rw [Lib.decDigits, dif_pos h]
theorem dec_ge {n : Nat} (h : ¬ n < 10) : Lib.decDigits n = Lib.decDigits (n / 10) ++ [UInt8.ofNat (48 + n % 10)] := by rw [Lib.decDigits, dif_neg h]
set_option maxHeartbeats 2000000 in
set_option maxRecDepth 100000 in
theorem l7dec_small (v : Int) (h0 : 0 ≤ v) (h1 : v < 10) (w : World) :
    Calls Tryd.prog 14 #[.int .i64 v] w fun e w' => e = .returned (.string ⟨(Lib.decDigits v.toNat).toArray⟩) ∧ Below w.heap.size w w' := by
  have hcv := conv1
  have HD : Hid (Lib.decDigits v.toNat = [UInt8.ofNat (48 + v).toNat]) := by
    unfold Hid
    rw [dec_lt (by omega), show (48 + v).toNat = 48 + v.toNat by omega]
  generalize Lib.decDigits v.toNat = D at HD
  go_enter Tryd.func14, Tryd.ntmps14
  go_wp2
  go_ret
  exact ⟨by rw [HD.out]; rfl, (Below.refl _ _).alloc (Nat.le_refl _) _⟩
theorem dec_len : ∀ (k n : Nat), n < 10 ^ (k + 1) → (Lib.decDigits n).length ≤ k + 1
  | 0, n, h => by rw [dec_lt (by simpa using h)]; simp
  | k + 1, n, h => by
    by_cases hn : n < 10
    · rw [dec_lt hn]; simp
    · rw [dec_ge hn, List.length_append]
      have h1 : n / 10 < 10 ^ (k + 1) := by rw [Nat.div_lt_iff_lt_mul (by omega), ← Nat.pow_succ]; exact h
      have := dec_len k _ h1
      simp; omega

set_option maxHeartbeats 4000000 in
set_option maxRecDepth 100000 in
theorem l7dec_any (n : Nat) : ∀ (v : Int) (w : World), v.toNat = n → 0 ≤ v → v < 10000000000000000000 →
    Calls Tryd.prog 14 #[.int .i64 v] w fun e w' => e = .returned (.string ⟨(Lib.decDigits v.toNat).toArray⟩) ∧ Below w.heap.size w w' := by
  induction n using Nat.strongRecOn with
  | _ n ih =>
  intro v w hn h0 hv
  by_cases h1 : v < 10
  · exact l7dec_small v h0 h1 w
  have hcv := conv1
  have e10 : (v.tdiv 10).toNat = v.toNat / 10 := by
    rw [Int.tdiv_eq_ediv_of_nonneg h0]; omega
  have HD : Hid (Lib.decDigits v.toNat = Lib.decDigits (v.tdiv 10).toNat ++ [UInt8.ofNat (48 + v.tmod 10).toNat]) := by
    unfold Hid
    rw [dec_ge (by omega), e10, show (48 + v.tmod 10).toNat = 48 + v.toNat % 10 by rw [Int.tmod_eq_emod_of_nonneg h0]; omega]
  have HI : Hid (∀ u : World, Calls Tryd.prog 14 #[.int .i64 (v.tdiv 10)] u fun e w' => e = .returned (.string ⟨(Lib.decDigits (v.tdiv 10).toNat).toArray⟩) ∧ Below u.heap.size u w') := fun u =>
    ih _ (by omega) (v.tdiv 10) u rfl (by rw [Int.tdiv_eq_ediv_of_nonneg h0]; omega) (by rw [Int.tdiv_eq_ediv_of_nonneg h0]; omega)
  have hdl : (Lib.decDigits (v.tdiv 10).toNat).length ≤ 19 := dec_len 18 _ (by rw [e10]; omega)
  clear ih
  generalize Lib.decDigits v.toNat = D at HD
  generalize Lib.decDigits (v.tdiv 10).toNat = D1 at HD HI hdl
  have hadd : ∀ (u : World) (x : UInt8), (Op.stringOp .add ⟨D1.toArray⟩ ⟨#[x]⟩).run Tryd.prog u = .ok (.string (⟨D1.toArray⟩ ++ ⟨#[x]⟩)) u := fun u x =>
    run_string_add_sum u _ _ (by
      have a1 : (ByteArray.mk D1.toArray).size = D1.length := by show D1.toArray.size = _; simp
      have a2 : (ByteArray.mk #[x]).size = 1 := rfl
      omega)
  have hw1 : IntKind.i64.wrap (v.tdiv 10) = v.tdiv 10 := by rw [Int.tdiv_eq_ediv_of_nonneg h0]; simp [IntKind.wrap, IntKind.bits, IntKind.signed]; omega
  have h48 : 0 ≤ v.tmod 10 ∧ v.tmod 10 < 10 := by rw [Int.tmod_eq_emod_of_nonneg h0]; omega
  have hw2 : IntKind.i64.wrap (48 + v.tmod 10) = 48 + v.tmod 10 := by simp [IntKind.wrap, IntKind.bits, IntKind.signed]; omega
  have hw3 : IntKind.u8.wrap (48 + v.tmod 10) = 48 + v.tmod 10 := by simp [IntKind.wrap, IntKind.bits, IntKind.signed]; omega
  go_enter Tryd.func14, Tryd.ntmps14
  go_wp2
  go_region_with (first
    | (go_at_call 14; refine (HI.out _).mono ?_; rintro e w1 ⟨rfl, hb⟩; have q := hb.cell (p := ⟨w.heap.size, 0, none⟩)))
  all_goals go_wp2
  all_goals go_ret
  all_goals refine ⟨?_, ?_⟩
  all_goals first
    | (rw [HD.out]; exact congrArg (fun x => Ending.returned (.string x)) (by simp [ByteArray.mk_append_mk]))
    | exact ((Below.refl _ _).drew).trans ((hb.alloc (by simpa using hb.size) _).mono (by simp))
    | exact (((Below.refl _ _).drew).alloc (by simp) _).trans (hb.mono (by simp))
end Go.Proofs.YtabnanmfojppjaaDoor
