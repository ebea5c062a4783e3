/-
  A stable state's form; hardChange.follows, commonLength.
-/
import Derived.Test.YtjoflnnomebkpaaDoorStB
import Derived.Test.YtjoflnnomebkpaaDoorRise
import Derived.Test.YtjoflnnomebkpaaDoorGround
import Derived.Deep.RegionHeld3
namespace Go.Proofs.YtjoflnnomebkpaaDoor
open Go.RowKit
set_option linter.unusedVariables false
set_option linter.unusedSimpArgs false

/-- a change to term t', vote v' may follow term t, vote v -/
def folB (t v t' v' : Int) : Bool := if t' = t then v == 0 || v == v' else decide (t < t')
def entEqB (a b : Ent) : Bool := a.t == b.t && cmdEqB a b
/-- how many entries the two lists have in common at their beginning -/
def comK : List Ent → List Ent → Nat
  | a :: l, b :: l' => if entEqB a b then comK l l' + 1 else 0
  | _, _ => 0
theorem comK_le : ∀ (l l' : List Ent), comK l l' ≤ l.length ∧ comK l l' ≤ l'.length
  | [], l' => by simp [comK]
  | a :: l, [] => by simp [comK]
  | a :: l, b :: l' => by
    have := comK_le l l'
    unfold comK
    split <;> simp <;> omega
theorem comK_step (l l' : List Ent) (k : Nat) (h : k < l.length) (h' : k < l'.length) : comK (l.drop k) (l'.drop k) = if entEqB l[k] l'[k] then comK (l.drop (k + 1)) (l'.drop (k + 1)) + 1 else 0 := by
  rw [List.drop_eq_getElem_cons h, List.drop_eq_getElem_cons h']
  rfl
theorem comK_end (l l' : List Ent) (k : Nat) (h : ¬ (k < l.length ∧ k < l'.length)) : comK (l.drop k) (l'.drop k) = 0 := by
  rcases Nat.lt_or_ge k l.length with h1 | h1
  · have h2 : l'.drop k = [] := List.drop_of_length_le (by omega)
    rw [h2]
    cases l.drop k <;> rfl
  · rw [List.drop_of_length_le h1]
    rfl

set_option maxHeartbeats 2000000 in
set_option maxRecDepth 100000 in
theorem follows_any (t v t' v' : Int) (a : Option Addr) (n cap : Nat) (w : World) :
    Calls Tryd.prog 59 #[.agg #[.int .i64 t', .int .i64 v'], .agg #[.int .i64 t, .int .i64 v, .slice a n cap]] w fun e w' => e = .returned (.bool (folB t v t' v')) ∧ Below w.heap.size w w' := by
  have hb0 : Hid (Below w.heap.size w ((w.alloc (.cells #[.int .i64 t', .int .i64 v'] 97)).alloc (.cells #[.int .i64 t, .int .i64 v, .slice a n cap] 39))) := ((Below.refl _ _).alloc (Nat.le_refl _) _).alloc (by simp) _
  by_cases h : t' = t
  · subst h
    by_cases h0 : v = 0
    · subst h0
      go_enter Tryd.func59, Tryd.ntmps59
      go_wp2
      go_ret
      exact ⟨by simp [folB], hb0.out⟩
    · go_enter Tryd.func59, Tryd.ntmps59
      go_wp2
      go_ret
      exact ⟨by simp [folB, h0], hb0.out⟩
  · go_enter Tryd.func59, Tryd.ntmps59
    go_wp2
    go_ret
    exact ⟨by simp [folB, h], hb0.out⟩

set_option maxHeartbeats 4000000 in
set_option maxRecDepth 100000 in
theorem fitsHard_any (t v t' v' : Int) (a : Option Addr) (n cap : Nat) (hn : n ≤ 1048576) (w : World) :
    Calls Tryd.prog 57 #[.agg #[.int .i64 t, .int .i64 v, .slice a n cap], .agg #[.int .i64 1, .int .i64 t', .int .i64 v', .int .i64 0, .int .i64 0, .int .i64 0, .int .i64 0, .int .i64 0, .string ⟨#[]⟩, .string ⟨#[]⟩, .string ⟨#[]⟩]] w fun e w' => e = .returned (.bool (folB t v t' v')) ∧ Below w.heap.size w w' := by
  have hb0 : Hid (Below w.heap.size w ((w.alloc (.cells #[.int .i64 t, .int .i64 v, .slice a n cap] 39)).alloc (.cells #[.int .i64 1, .int .i64 t', .int .i64 v', .int .i64 0, .int .i64 0, .int .i64 0, .int .i64 0, .int .i64 0, .string ⟨#[]⟩, .string ⟨#[]⟩, .string ⟨#[]⟩] 94))) := ((Below.refl _ _).alloc (Nat.le_refl _) _).alloc (by simp) _
  by_cases h : t' = t
  · subst h
    by_cases h0 : v = 0
    · subst h0
      go_enter Tryd.func57, Tryd.ntmps57
      go_wp2
      go_ret
      exact ⟨by simp [folB], hb0.out⟩
    · go_enter Tryd.func57, Tryd.ntmps57
      go_wp2
      go_ret
      exact ⟨by simp [folB, h0], hb0.out⟩
  · by_cases h1 : t < t'
    · go_enter Tryd.func57, Tryd.ntmps57
      go_wp2
      go_ret
      exact ⟨by simp [folB, h, h1], hb0.out⟩
    · go_enter Tryd.func57, Tryd.ntmps57
      go_wp2
      go_ret
      exact ⟨by simp [folB, h, h1], hb0.out⟩

set_option maxHeartbeats 8000000 in
set_option maxRecDepth 100000 in
theorem commonLength_any (v u : Value) (l l' : List Ent) (w : World) (hv : Es w v l) (hu : Es w u l') (hll : l.length ≤ 1048576) (hll' : l'.length ≤ 1048576) :
    Calls Tryd.prog 61 #[v, u] w fun e w' => e = .returned (.int .i64 (comK l l' : Nat)) ∧ Below w.heap.size w w' := by
  obtain ⟨hl, hf, a, cap, rfl, hc⟩ := hv
  obtain ⟨hl', hf', a', cap', rfl, hc'⟩ := hu
  go_enter Tryd.func61, Tryd.ntmps61
  go_wp2
  go_loopw [5] (fun i wr => ∃ k : Nat, k ≤ l.length ∧ k ≤ l'.length ∧ i = .int .i64 k ∧ comK l l' = k + comK (l.drop k) (l'.drop k) ∧ Below w.heap.size w wr) (fun i _ => l.length - (intOf i).toNat)
  case atStart => exact ⟨0, Nat.zero_le _, Nat.zero_le _, rfl, by simp, Below.refl _ _⟩
  case round =>
    obtain ⟨k, hk, hk', rfl, hcom, hB⟩ := hrel
    have HC : Hid (comK l l' = k + comK (l.drop k) (l'.drop k)) := hcom
    have hz := hB.size
    clear hcom
    by_cases hlt : k < l.length ∧ k < l'.length
    · obtain ⟨hlt, hlt'⟩ := hlt
      obtain ⟨b, off, rfl, hj⟩ := hc k hlt
      obtain ⟨b', off', rfl, hj'⟩ := hc' k hlt'
      obtain ⟨c0, c1, c2, c3, c4, c5, c6⟩ := (hj k hlt).below hB
      obtain ⟨d0, d1, d2, d3, d4, d5, d6⟩ := (hj' k hlt').below hB
      have HS : Hid (comK (l.drop k) (l'.drop k) = if entEqB l[k] l'[k] then comK (l.drop (k + 1)) (l'.drop (k + 1)) + 1 else 0) := comK_step l l' k hlt hlt'
      clear hc hj hc' hj'
      generalize l[k] = e at *
      generalize l'[k] = e' at *
      have hE : ∀ u : World, (Op.equalIn 10000 92 (.agg #[.int .i64 e.t, .int .i64 e.cl, .int .i64 e.sq, .int .i64 e.op, .string e.k, .string e.v, .string e.o]) (.agg #[.int .i64 e'.t, .int .i64 e'.cl, .int .i64 e'.sq, .int .i64 e'.op, .string e'.k, .string e'.v, .string e'.o])).run Tryd.prog u = .ok (entEqB e e') u := fun u => eqEnt_run 9997 e e' u
      cases hq : entEqB e e'
      · rw [hq] at hE HS
        by_cases hs : l'.length < l.length
        all_goals
          go_wp2
          go_quiet (fail)
          go_wp2
          go_ret
          exact ⟨by rw [HC.out, HS.out]; simp, hB.trans ⟨rfl, rfl, rfl, Nat.le_refl _, fun _ _ => rfl⟩⟩
      · rw [hq] at hE HS
        by_cases hs : l'.length < l.length
        all_goals
          go_wp2
          go_quiet (fail)
          go_wp2
          go_roundw
          case rel => exact ⟨k + 1, by omega, by omega, by go_num, by rw [HC.out, HS.out]; simp; omega, hB.trans ⟨rfl, rfl, rfl, Nat.le_refl _, fun _ _ => rfl⟩⟩
          case measure => simp [intOf]; omega
    · have hend : Hid (comK (l.drop k) (l'.drop k) = 0) := comK_end l l' k hlt
      by_cases hs : l'.length < l.length
      · have hk2 : ¬ k < l'.length := by omega
        go_wp2
        go_quiet (fail)
        go_wp2
        go_ret
        exact ⟨by rw [HC.out, hend.out]; simp, hB.trans ⟨rfl, rfl, rfl, Nat.le_refl _, fun _ _ => rfl⟩⟩
      · have hk2 : ¬ k < l.length := by omega
        go_wp2
        go_quiet (fail)
        go_wp2
        go_ret
        exact ⟨by rw [HC.out, hend.out]; simp, hB.trans ⟨rfl, rfl, rfl, Nat.le_refl _, fun _ _ => rfl⟩⟩
end Go.Proofs.YtjoflnnomebkpaaDoor
