/-
  laws.sameBytes of any two slices of the same length.
-/
import Derived.Test.YtfcmffdljfljkaaGround
import Derived.BigQuiet
import Derived.Deep.QuietTactic
namespace Go.Proofs.Ytfcmffdljfljkaa
open Go.RowKit
set_option linter.unusedVariables false

set_option maxHeartbeats 2000000 in
theorem sameBytes_len (v u : Value) (l l' : List Int) (hll : l.length = l'.length) (w : World) (hv : Bs w v l) (hu : Bs w u l') :
    Calls Try.prog 32 #[v, u] w fun e w' => e = .returned (.bool (decide (l = l'))) ∧ ∃ n, w' = w.drewN n := by
  obtain ⟨hl, h8, a, cap, rfl, hc⟩ := hv
  obtain ⟨_, _, a', cap', rfl, hc'⟩ := hu
  unfold maxLen at hl
  obtain ⟨m, hm⟩ : ∃ m, m = l.length := ⟨_, rfl⟩
  have hm' : m = l'.length := hm.trans hll
  rw [← hm] at hl ⊢
  rw [← hm']
  have HM : Hid (m = l.length) := hm
  have HM' : Hid (m = l'.length) := hm'
  have HC : Hid (∀ i, i < m → ∃ b off, a = some ⟨b, off, none⟩ ∧ w.cell? ⟨b, off + i, none⟩ = some (.int .u8 (l[i]?.getD 0))) := fun i hi => by
    obtain ⟨b, off, e, h⟩ := hc i (by rw [← HM.out]; exact hi)
    exact ⟨b, off, e, h i (by rw [← HM.out]; exact hi)⟩
  have HC' : Hid (∀ i, i < m → ∃ b off, a' = some ⟨b, off, none⟩ ∧ w.cell? ⟨b, off + i, none⟩ = some (.int .u8 (l'[i]?.getD 0))) := fun i hi => by
    obtain ⟨b, off, e, h⟩ := hc' i (by rw [← HM'.out]; exact hi)
    exact ⟨b, off, e, h i (by rw [← HM'.out]; exact hi)⟩
  clear hc hc' hm hm' hll
  go_enter Try.func32, Try.ntmps32
  go_wp2
  go_loopw [5] (fun i wr => ∃ k : Nat, k ≤ m ∧ i = .int .i64 k ∧ l.take k = l'.take k ∧ ∃ n, wr = w.drewN n) (fun i _ => m - (intOf i).toNat)
  case atStart => exact ⟨0, Nat.zero_le _, rfl, by simp, 0, rfl⟩
  case round =>
    obtain ⟨k, hk, rfl, hT, n, rfl⟩ := hrel
    have HT : Hid (l.take k = l'.take k) := hT
    clear hT
    by_cases hlt : k < m
    · obtain ⟨b, off, rfl, hck⟩ := HC.out k hlt
      obtain ⟨b', off', rfl, hck'⟩ := HC'.out k hlt
      have hx : l[k]? = some (l[k]?.getD 0) := by rw [List.getElem?_eq_getElem (by rw [← HM.out]; exact hlt)]; rfl
      have hx' : l'[k]? = some (l'[k]?.getD 0) := by rw [List.getElem?_eq_getElem (by rw [← HM'.out]; exact hlt)]; rfl
      have Hx : Hid (l[k]? = some (l[k]?.getD 0)) := hx
      have Hx' : Hid (l'[k]? = some (l'[k]?.getD 0)) := hx'
      clear hx hx'
      generalize l[k]?.getD 0 = X at *
      generalize l'[k]?.getD 0 = X' at *
      by_cases he : X = X'
      · subst he
        have HT2 : Hid (l.take (k + 1) = l'.take (k + 1)) := (by rw [List.take_add_one, List.take_add_one, HT.out, Hx.out, Hx'.out] : l.take (k + 1) = l'.take (k + 1))
        go_wp2
        go_quiet (fail)
        go_wp2
        go_roundw
        case rel => exact ⟨k + 1, by omega, by go_num, HT2.out, _, rfl⟩
        case measure => simp [intOf]; omega
      · have hne : (X != X') = true := by simpa using he
        have hd : Hid (decide (l = l') = false) := (by
          refine decide_eq_false fun e => he ?_
          have := Hx.out
          rw [e, Hx'.out] at this
          injection this with this
          exact this.symm : decide (l = l') = false)
        clear he
        go_wp2
        go_quiet (fail)
        go_wp2
        go_ret
        exact ⟨by rw [hd.out]; rfl, n + nq, by rw [World.drewN_drewN]⟩
    · have e : k = m := by omega
      subst e
      have hd : Hid (decide (l = l') = true) := (by
        refine decide_eq_true ?_
        have := HT.out
        rwa [List.take_of_length_le (by rw [← HM.out]; exact Nat.le_refl _), List.take_of_length_le (by rw [← HM'.out]; exact Nat.le_refl _)] at this : decide (l = l') = true)
      go_wp2
      go_ret
      exact ⟨by rw [hd.out]; rfl, _, rfl⟩
end Go.Proofs.Ytfcmffdljfljkaa
