/-
  spec.l2drawDisk, plain.
-/
import Derived.Test.YtjoflnnomebkpaaDoorDrRsP
import Derived.Test.YtjoflnnomebkpaaDoorGround
import Derived.Test.YtjoflnnomebkpaaDoorRsCut
namespace Go.Proofs.YtjoflnnomebkpaaDoor
open Go.RowKit
set_option linter.unusedVariables false
set_option linter.unusedSimpArgs false

/-- the frames' ends, one after the other -/
def enRun (d : List Int) : Nat → List Int × Nat
  | 0 => ([], 0)
  | i + 1 => if (cutP d (enRun d i).2).1 = 0 then ((enRun d i).1 ++ [((cutP d (enRun d i).2).2 : Int)], (cutP d (enRun d i).2).2) else enRun d i
def endsD (d : List Int) : List Int := (enRun d d.length).1
theorem cutP_zero {d : List Int} {g : Nat} (hg : g ≤ d.length) (h : (cutP d g).1 = 0) : g < (cutP d g).2 ∧ (cutP d g).2 ≤ d.length := by
  unfold cutP at h ⊢
  split
  · next h0 => rw [if_pos h0] at h; simp at h
  · next h0 =>
    rw [if_neg h0] at h
    split
    · next h1 => rw [if_pos h1] at h; simp only [Int.natCast_eq_zero] at h; omega
    · next h1 =>
      have := cutC_zero (r := d.drop g) (by omega)
      rw [List.length_drop] at this
      dsimp only
      omega
theorem enRun_ok (d : List Int) : ∀ i, (enRun d i).2 ≤ d.length ∧ (enRun d i).1.length ≤ i
  | 0 => ⟨Nat.zero_le _, Nat.le_refl _⟩
  | i + 1 => by
    have ih := enRun_ok d i
    rw [enRun]
    split
    · next h =>
      have := cutP_zero ih.1 h
      exact ⟨this.2, by simp; omega⟩
    · exact ⟨ih.1, by omega⟩
theorem enRun_stay (d : List Int) (i : Nat) (h : (cutP d (enRun d i).2).1 ≠ 0) : ∀ j, enRun d (i + j) = enRun d i
  | 0 => rfl
  | j + 1 => by
    rw [show i + (j + 1) = (i + j) + 1 by omega, enRun, enRun_stay d i h j, if_neg h]
/-- as long as it goes on, the place rises -/
theorem enRun_rise (d : List Int) : ∀ i, (∀ j, j < i → (cutP d (enRun d j).2).1 = 0) → i ≤ (enRun d i).2
  | 0, _ => Nat.zero_le _
  | i + 1, h => by
    have ih := enRun_rise d i (fun j hj => h j (by omega))
    have h1 := h i (by omega)
    have := cutP_zero (enRun_ok d i).1 h1
    rw [enRun, if_pos h1]
    dsimp only
    omega
theorem enRun_end (d : List Int) (i : Nat) (h : ∀ j, j < i → (cutP d (enRun d j).2).1 = 0) (h0 : (cutP d (enRun d i).2).1 ≠ 0) : (enRun d i).1 = endsD d := by
  have h1 := enRun_rise d i h
  have h2 := (enRun_ok d i).1
  have h3 := enRun_stay d i h0 (d.length - i)
  rw [show i + (d.length - i) = d.length by omega] at h3
  unfold endsD
  rw [h3]
theorem endsD_len (d : List Int) : (endsD d).length ≤ d.length := (enRun_ok d d.length).2
theorem encRecs_len7 (rs : List Rec) (h : rs.length ≤ 720) : (encRecs rs).length ≤ 293760 := by
  unfold encRecs
  split
  · next h1 =>
    simp only [recsB, Bool.and_eq_true] at h1
    have := framesL_len h1.2
    omega
  · simp
/-- where Synced stands, and the draws behind it -/
def dkS (l : List Int) (E : List Int) (n k : Nat) : Int × Nat :=
  if 0 < E.length then
    if pickV l k 4 ≠ 0 then (E[pickV l (k + 1) E.length]?.getD 0, k + 1 + pickK E.length) else ((pickV l (k + 1) (n + 1) : Nat), k + 1 + pickK (n + 1))
  else ((pickV l k (n + 1) : Nat), k + pickK (n + 1))
/-- the last turn: Cap, Synced, where the draws stand -/
def dkP (l : List Int) (c y : Int) (n k : Nat) : Int × Int × Nat :=
  if pickV l k 20 = 0 then (1048576 + ((pickV l (k + 1) 2 : Nat) : Int), y, k + 1 + 1)
  else if pickV l k 20 = 1 then ((n : Int) - 1, y, k + 1)
  else if pickV l k 20 = 2 then (c, (n : Int) + 1, k + 1)
  else if pickV l k 20 = 3 then (c, -1, k + 1)
  else if pickV l k 20 < 7 then ((n : Int), y, k + 1)
  else (c, y, k + 1)
def dkL (l : List Int) (k size : Nat) : List Int := encRecs (recsD l k size).1
def dkA (l : List Int) (k size : Nat) : Int × Int × Nat :=
  dkP l (((dkL l k size).length : Int) + ((pickV l (recsD l k size).2 300 : Nat) : Int)) (dkS l (endsD (dkL l k size)) (dkL l k size).length ((recsD l k size).2 + 2)).1 (dkL l k size).length (dkS l (endsD (dkL l k size)) (dkL l k size).length ((recsD l k size).2 + 2)).2
theorem dkS_le (l E : List Int) (n k : Nat) : (dkS l E n k).2 ≤ k + 5 := by
  have := pickK_le E.length
  have := pickK_le (n + 1)
  unfold dkS
  repeat' split
  all_goals dsimp only
  all_goals omega
theorem dkP_le (l : List Int) (c y : Int) (n k : Nat) : (dkP l c y n k).2.2 ≤ k + 2 := by
  unfold dkP
  repeat' split
  all_goals dsimp only
  all_goals omega
theorem dkL_len (l : List Int) (k size : Nat) (hs : size ≤ 400) : (dkL l k size).length ≤ 293760 := encRecs_len7 _ (recsD_ok l k size hs).1
theorem dkA_k (l : List Int) (k size : Nat) (hs : size ≤ 400) : (dkA l k size).2.2 ≤ k + 1310 := by
  have h1 := (recsD_ok l k size hs).2.2
  have h2 := dkS_le l (endsD (dkL l k size)) (dkL l k size).length ((recsD l k size).2 + 2)
  have h3 := dkP_le l (((dkL l k size).length : Int) + ((pickV l (recsD l k size).2 300 : Nat) : Int)) (dkS l (endsD (dkL l k size)) (dkL l k size).length ((recsD l k size).2 + 2)).1 (dkL l k size).length (dkS l (endsD (dkL l k size)) (dkL l k size).length ((recsD l k size).2 + 2)).2
  unfold dkA
  omega
end Go.Proofs.YtjoflnnomebkpaaDoor
