/-
  impl.entriesFit.
-/
import Derived.Test.YtfcmffdljfljkaaRise
import Derived.Test.YtfcmffdljfljkaaMsgParts
import Derived.Deep.QuietTactic
import Derived.BigQuiet
namespace Go.Proofs.Ytfcmffdljfljkaa
open Go.RowKit
set_option linter.unusedVariables false

set_option maxHeartbeats 8000000 in
set_option maxRecDepth 100000 in
theorem entriesFit_any (ki fr tq tm li lt cm ok hi : Int) (ev : Value) (l : List Ent) (w : World) (hv : Es w ev l) (hli : 0 ≤ li) (hli' : li ≤ 1000000) (hll : l.length ≤ 1048576) :
    Calls Try.prog 167 #[.agg #[.int .i64 ki, .int .i64 fr, .int .i64 tq, .int .i64 tm, .int .i64 li, .int .i64 lt, .int .i64 cm, .int .i64 ok, .int .i64 hi, ev]] w fun r w' => r = .returned (.bool (entsB ki li lt tm l)) ∧ Below w.heap.size w w' := by
  have HV : Hid (Es w ev l) := hv
  obtain ⟨hl, hf, a, cap, rfl, hc⟩ := hv
  clear hc hf
  by_cases h5 : ki = 5
  · subst h5
    by_cases h32 : l.length ≤ 32
    · by_cases h40 : li + l.length ≤ 4096
      · have hE : entsB 5 li lt tm l = fitL tm lt l := by simp [entsB, h32, h40]
        rw [hE]
        clear hE
        go_enter Try.func167, Try.ntmps167
        go_wp2_with (go_at_call 170; refine (entriesRise_any _ lt tm l _ (HV.out.below ((Below.refl _ _).alloc (Nat.le_refl _) _)) hll).mono ?_; rintro r w1 ⟨rfl, hb⟩)
        go_ret
        exact ⟨rfl, ((Below.refl _ _).alloc (Nat.le_refl _) _).trans (hb.mono (by simp))⟩
      · have hE : entsB 5 li lt tm l = false := by simp [entsB, h40]
        have hd : decide (4096 < li + l.length) = true := by simp; omega
        rw [hE]
        go_enter Try.func167, Try.ntmps167
        go_wp2
        go_ret
        exact ⟨rfl, (Below.refl _ _).alloc (Nat.le_refl _) _⟩
    · have hE : entsB 5 li lt tm l = false := by simp [entsB, h32]
      rw [hE]
      go_enter Try.func167, Try.ntmps167
      go_wp2
      go_ret
      exact ⟨rfl, (Below.refl _ _).alloc (Nat.le_refl _) _⟩
  · have n5 : (ki != 5) = true := by simpa using h5
    go_enter Try.func167, Try.ntmps167
    go_wp2
    go_ret
    exact ⟨ret_bool (by rw [entsB, if_neg h5]; first | rfl | (simp; done) | (rw [Bool.eq_iff_iff]; simp)), (Below.refl _ _).alloc (Nat.le_refl _) _⟩

end Go.Proofs.Ytfcmffdljfljkaa
