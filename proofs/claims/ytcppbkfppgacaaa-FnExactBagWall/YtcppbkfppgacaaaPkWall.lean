/-
  impl.setWall: the walls behind it.
-/
import Derived.Test.YtcppbkfppgacaaaPkIter
import Derived.Test.YtcppbkfppgacaaaPkMap
import Derived.Test.YtcppbkfppgacaaaPkMk
import Derived.Test.YtcppbkfppgacaaaPkBag
import Derived.Test.YtcppbkfppgacaaaBlk
namespace Go.Proofs.Ytcppbkfppgacaaa
open Go.RowKit Go.Maps
set_option linter.unusedVariables false
set_option linter.unusedSimpArgs false

/-- is k walled off behind the change -/
def wallOne (ws : List Int) (id : Int) (up : Bool) (k : Int) : Bool := if k = id then up else ws.contains k
/-- the walls up to k -/
def wallsNew (ws : List Int) (id : Int) (up : Bool) : Nat → List Int
  | 0 => []
  | k + 1 => wallsNew ws id up k ++ (if wallOne ws id up ((k : Int) + 1) = true then [(k : Int) + 1] else [])
theorem wallsNew_len (ws : List Int) (id : Int) (up : Bool) (k : Nat) : (wallsNew ws id up k).length ≤ k := by
  induction k with
  | zero => simp [wallsNew]
  | succ k ih =>
    rw [wallsNew, List.length_append]
    split <;> simp <;> omega
theorem wallsNew_mem (ws : List Int) (id : Int) (up : Bool) (k : Nat) (x : Int) : x ∈ wallsNew ws id up k ↔ (1 ≤ x ∧ x ≤ k) ∧ wallOne ws id up x = true := by
  induction k with
  | zero => simp [wallsNew]; omega
  | succ k ih =>
    rw [wallsNew, List.mem_append, ih]
    by_cases h : wallOne ws id up ((k : Int) + 1) = true
    · rw [if_pos h, List.mem_singleton]
      constructor
      · rintro (⟨h1, h2⟩ | rfl)
        · exact ⟨⟨h1.1, by omega⟩, h2⟩
        · exact ⟨⟨by omega, by omega⟩, h⟩
      · rintro ⟨h1, h2⟩
        by_cases e : x = (k : Int) + 1
        · exact .inr e
        · exact .inl ⟨⟨h1.1, by omega⟩, h2⟩
    · rw [if_neg h]
      constructor
      · rintro (⟨h1, h2⟩ | h')
        · exact ⟨⟨h1.1, by omega⟩, h2⟩
        · cases h'
      · rintro ⟨h1, h2⟩
        by_cases e : x = (k : Int) + 1
        · subst e; exact absurd h2 h
        · exact .inl ⟨⟨h1.1, by omega⟩, h2⟩
theorem wallsNew_lt (ws : List Int) (id : Int) (up : Bool) (k : Nat) : (wallsNew ws id up k).Pairwise (· < ·) := by
  induction k with
  | zero => exact .nil
  | succ k ih =>
    rw [wallsNew]
    split
    · refine List.pairwise_append.2 ⟨ih, List.pairwise_singleton _ _, fun x hx y hy => ?_⟩
      rw [List.mem_singleton.1 hy]
      have := ((wallsNew_mem ws id up k x).1 hx).1
      omega
    · rw [List.append_nil]; exact ih
/-- the map behind the change -/
def wallMap (ws : List Int) (id : Int) (up : Bool) : DataW Unit := if up = true then (wallSet ws).put (Lit.int .i64 id) (.agg []) else (wallSet ws).del (Lit.int .i64 id)
theorem tidy_wallSet (ws : List Int) : Tidy (wallSet ws) := tidy_setOf _ _ (fun x hx => by obtain ⟨y, _, rfl⟩ := List.mem_map.1 hx; trivial)
theorem has_wallMap (ws : List Int) (id : Int) (up : Bool) (x : Int) : Maps.has (wallMap ws id up) (.int .i64 x) = wallOne ws id up x := by
  unfold wallMap wallOne
  cases up
  · simp only [Bool.false_eq_true, if_false]
    by_cases e : x = id
    · subst e; rw [if_pos rfl]; exact has_del_same
    · rw [if_neg e, has_del_other (by intro h; injection h with _ h; exact e h), has_wallSet]
  · simp only [if_true]
    by_cases e : x = id
    · subst e; rw [if_pos rfl]; exact has_put_same (k := Lit.int .i64 x) (tidy_wallSet ws).isMap trivial _
    · rw [if_neg e, has_put_other (by intro h; injection h with _ h; exact e h), has_wallSet]
theorem sort_walls {w : World} {b n : Nat} {ws : List Int} {id : Int} {up : Bool} (hown : w.ownsMap Try.prog 3 (unitElem (H := Unit)) b n (wallMap ws id up)) (hw : ∀ y ∈ ws, 1 ≤ y ∧ y ≤ 7) (hid : 1 ≤ id ∧ id ≤ 7) {ss : List Int} (hs : ss.Perm (intKeys (wallMap ws id up))) :
    ss.mergeSort (fun x y => decide (x ≤ y)) = wallsNew ws id up 7 := by
  have hc : CollectedI (wallMap ws id up) (fun _ => false) (wallsNew ws id up 7) := by
    refine ⟨(wallsNew_lt ws id up 7).imp fun h => by omega, fun x => ?_⟩
    rw [wallsNew_mem, has_wallMap]
    constructor
    · rintro ⟨_, h⟩; exact ⟨h, rfl⟩
    · rintro ⟨h, _⟩
      refine ⟨?_, h⟩
      unfold wallOne at h
      split at h
      · next e => subst e; exact hid
      · exact hw x (by simpa using h)
  have hp := hc.perm hown law3 Try.underlying3 (fun _ => rfl)
  have e1 : ss.mergeSort leI = (wallsNew ws id up 7).mergeSort leI := mergeSort_of_perm_i (hs.trans hp.symm)
  rw [show ss.mergeSort (fun x y => decide (x ≤ y)) = ss.mergeSort leI from rfl, e1]
  exact List.mergeSort_of_pairwise ((wallsNew_lt ws id up 7).imp fun h => by simp only [leI, decide_eq_true_eq]; omega)
theorem ownsMap_size {H : Type} {P : Program} {k : TypeId} {R : Value → Option (DataW H × List MemPlace)} {w : World} {b n : Nat} {D : DataW H} (h : w.ownsMap P k R b n D) : Maps.size D ≤ n := h.size_le
end Go.Proofs.Ytcppbkfppgacaaa
