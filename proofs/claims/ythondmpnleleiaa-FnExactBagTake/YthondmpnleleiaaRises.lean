/-
  impl.serversRise.
-/
import Derived.Test.YthondmpnleleiaaIntsU
import Derived.Test.YthondmpnleleiaaWithin
namespace Go.Proofs.Ythondmpnleleiaa
open Go.RowKit
set_option linter.unusedVariables false
set_option linter.unusedSimpArgs false

/-- the numbers rise, from last + 1 on, and none is above most -/
def riseB (most : Int) : Int → List Int → Bool
  | _, [] => true
  | last, x :: l => inB x (last + 1) most && riseB most x l
theorem riseB_drop (most last : Int) (l : List Int) (k : Nat) (h : k < l.length) : riseB most last (l.drop k) = (inB l[k] (last + 1) most && riseB most l[k] (l.drop (k + 1))) := by
  rw [List.drop_eq_getElem_cons h]; rfl

set_option maxHeartbeats 4000000 in
set_option maxRecDepth 100000 in
theorem serversRise_any (v : Value) (l : List Int) (most : Int) (w : World) (hv : Ix w v l) (hm : 0 ≤ most) (hm' : most ≤ 1048576) :
    Calls Try.prog 69 #[v, .int .i64 most] w fun e w' => e = .returned (.bool (riseB most 0 l)) ∧ w' = w := by
  obtain ⟨hl, a, cap, rfl, hc⟩ := hv
  unfold maxLen at hl
  go_enter Try.func69, Try.ntmps69
  go_wp2
  go_loopw [5, 10] (fun t i wr => ∃ (k : Nat) (x : Int), k ≤ l.length ∧ i = .int .i64 k ∧ t = .int .i64 x ∧ 0 ≤ x ∧ x ≤ most ∧ riseB most 0 l = riseB most x (l.drop k) ∧ wr = w) (fun _ i _ => l.length - (intOf i).toNat)
  case atStart => exact ⟨0, 0, Nat.zero_le _, rfl, rfl, by omega, by omega, by simp, rfl⟩
  case round =>
    obtain ⟨k, x, hk, rfl, rfl, hx, hx', hr, hwr⟩ := hrel
    obtain rfl := hwr.symm
    have HR : Hid (riseB most 0 l = riseB most x (l.drop k)) := hr
    clear hr hwr
    by_cases hlt : k < l.length
    · obtain ⟨b, off, rfl, hj⟩ := hc k hlt
      have hck := hj k hlt
      have HD : Hid (riseB most x (l.drop k) = (inB l[k] (x + 1) most && riseB most l[k] (l.drop (k + 1)))) := riseB_drop most x l k hlt
      clear hc hj
      generalize l[k] = y at *
      cases hy : inB y (x + 1) most
      · rw [hy] at HD
        go_wp2_with (go_at_call 40; refine (within_any _ _ _ _).mono ?_; rintro e w1 ⟨rfl, hw⟩; obtain rfl := hw.symm; rw [hy])
        go_ret
        exact ⟨by rw [HR.out, HD.out]; rfl, rfl⟩
      · rw [hy] at HD
        have hyi := (inB_iff _ _ _).1 hy
        go_wp2_with (go_at_call 40; refine (within_any _ _ _ _).mono ?_; rintro e w1 ⟨rfl, hw⟩; obtain rfl := hw.symm; rw [hy])
        go_roundw
        case rel => exact ⟨k + 1, y, by omega, by go_num, rfl, by omega, by omega, by rw [HR.out, HD.out]; rfl, trivial⟩
        case measure => simp [intOf]; omega
    · have hd : l.drop k = [] := List.drop_of_length_le (by omega)
      go_wp2
      go_ret
      exact ⟨by rw [HR.out, hd]; rfl, rfl⟩
end Go.Proofs.Ythondmpnleleiaa
