/-
  FnBag: how much a drawn bag holds (pure).
-/
import Derived.Test.YtfcmffdljfljkaaDrPut
namespace Go.Proofs.Ytfcmffdljfljkaa
open Go.RowKit
set_option linter.unusedVariables false
set_option linter.unusedSimpArgs false

theorem bulk_pkDr (l : List Int) (s : Int × List Pkt × Nat) (i : Nat) : bulk (pkDr l s i).2.1 ≤ bulk s.2.1 + 12000 * i := by
  induction i with
  | zero => exact Nat.le_refl _
  | succ i ih =>
    have e : pkDr l s (i + 1) = pkSt l i (pkDr l s i) := rfl
    rw [e]
    generalize pkDr l s i = t at *
    unfold pkSt
    dsimp only
    rw [bulk_app]
    have h := (pkBs_ok l (pkTo l (t.2.2 + 1) (1 + ((pickV l t.2.2 7 : Nat) : Int))).2 i).2
    simp only [bulk]
    omega
theorem bulk_set : ∀ (P : List Pkt) (i : Nat) (p : Pkt), bulk (P.set i p) ≤ bulk P + p.bs.length
  | [], i, p => by simp [bulk]
  | q :: P, 0, p => by simp only [List.set_cons_zero, bulk]; omega
  | q :: P, i + 1, p => by
    have := bulk_set P i p
    simp only [List.set_cons_succ, bulk]
    omega
theorem bulk_at (P : List Pkt) (i : Nat) : (pkAtD P i).bs.length ≤ bulk P := by
  unfold pkAtD
  cases h : P[i]? with
  | none => simp
  | some p => exact bulk_mem (List.mem_of_getElem? h)
theorem bulk_badP (l : List Int) (k q : Nat) (N : Int) (p : Pkt) : (badP l k q N p).1.bs.length ≤ p.bs.length := by
  unfold badP
  repeat' refine ite_bothB (P := fun z : Pkt × Nat => z.1.bs.length ≤ p.bs.length) ?_ ?_
  all_goals (dsimp only; simp)
theorem bulk_badB (l : List Int) (k : Nat) (N : Int) (P : List Pkt) (W : List Int) : bulk (badB l k N P W).2.1 ≤ 2 * bulk P := by
  have h1 := bulk_at P (pickV l (k + 1) P.length)
  have h2 := bulk_badP l (k + 1 + pickK P.length) (pickV l k 10) N (pkAtD P (pickV l (k + 1) P.length))
  have h3 := bulk_set P (pickV l (k + 1) P.length) (badP l (k + 1 + pickK P.length) (pickV l k 10) N (pkAtD P (pickV l (k + 1) P.length))).1
  unfold badB
  repeat' refine ite_bothB (P := fun z : Int × List Pkt × List Int × Nat => bulk z.2.1 ≤ 2 * bulk P) ?_ ?_
  all_goals (dsimp only; omega)
theorem bulk_full (n : Nat) : bulk (fullP n) = n := by
  induction n with
  | zero => rfl
  | succ n ih => rw [fullP_succ, bulk_app, ih]; rfl
/-- what DrawBagPut draws holds at most so much -/
theorem bulk_put (l : List Int) (sz : Nat) (hsz : sz ≤ 400) : (put2 l (put1 l (bagD l 0 sz))).2.1.length ≤ 4096 ∧ bulk (put2 l (put1 l (bagD l 0 sz))).2.1 ≤ 600000 ∧ (put2 l (put1 l (bagD l 0 sz))).2.2.1.length ≤ 100 := by
  have h0 := bagD_ok l 0 sz hsz
  have hn := pickV_lt l (0 + 1) (3 + sz / 20) (by omega)
  have hb : bulk (bagD l 0 sz).2.1 ≤ 270000 := by
    have := bulk_pkDr l (1 + ((pickV l 0 3 : Nat) : Int), [], 0 + 1 + 1) (pickV l (0 + 1) (3 + sz / 20))
    have e : (bagD l 0 sz).2.1 = (pkDr l (1 + ((pickV l 0 3 : Nat) : Int), [], 0 + 1 + 1) (pickV l (0 + 1) (3 + sz / 20))).2.1 := rfl
    rw [e]
    have e0 : bulk ([] : List Pkt) = 0 := rfl
    dsimp only at this
    omega
  generalize bagD l 0 sz = s at *
  have h1 : (put1 l s).2.1.length ≤ 22 ∧ bulk (put1 l s).2.1 ≤ 540000 ∧ (put1 l s).2.2.1.length ≤ 9 := by
    have hk := badB_k l (s.2.2.2 + 1) s.1 s.2.1 s.2.2.1
    have hk2 := bulk_badB l (s.2.2.2 + 1) s.1 s.2.1 s.2.2.1
    unfold put1
    refine ite_bothB (P := fun z : Int × List Pkt × List Int × Nat => z.2.1.length ≤ 22 ∧ bulk z.2.1 ≤ 540000 ∧ z.2.2.1.length ≤ 9) ?_ ?_
    · omega
    · dsimp only; omega
  generalize put1 l s = t at *
  unfold put2
  refine ite_bothB (P := fun z : Int × List Pkt × List Int × Nat => z.2.1.length ≤ 4096 ∧ bulk z.2.1 ≤ 600000 ∧ z.2.2.1.length ≤ 100) ?_ ?_
  · dsimp only
    refine ⟨by unfold fullP; rw [List.length_map, List.length_range]; omega, by rw [bulk_full]; omega, by simp⟩
  · dsimp only; omega
theorem putY_ok (l : List Int) (k : Nat) : (putY l k).length ≤ 17000 := by
  have := pickV_lt l (k + 1) 16 (by decide)
  unfold putY
  split
  · simp
  · split
    · rw [List.length_replicate]; omega
    · simp
end Go.Proofs.Ytfcmffdljfljkaa
