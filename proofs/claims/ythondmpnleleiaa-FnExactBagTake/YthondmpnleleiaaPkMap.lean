/-
  impl.wallsOf, (walls).lose; spec.l3walled.
-/
import Derived.Test.YthondmpnleleiaaPkSz
import Derived.Maps.OwnSet
namespace Go.Proofs.Ythondmpnleleiaa
open Go.RowKit Go.Maps
set_option linter.unusedVariables false
set_option linter.unusedSimpArgs false

theorem law3 : Keyed Try.prog 3 := int_keyed Try.underlying3
theorem zeroUnit (w : World) : (zeroValue 93).run Try.prog w = .ok (.agg #[]) w := by kernel_rfl
/-- the set of the numbers ws -/
def wallSet (ws : List Int) : DataW Unit := setOf (.agg []) (ws.map (Lit.int .i64))
theorem wallSet_snoc (ws : List Int) (y : Int) : wallSet (ws ++ [y]) = (wallSet ws).put (Lit.int .i64 y) (.agg []) := by
  unfold wallSet
  rw [List.map_append]
  exact setOf_snoc _ _ _
theorem any_intW (x : Int) : ∀ l : List Int, l.any ((fun y : Lit => y.sameKey (.int .i64 x)) ∘ Lit.int .i64) = l.contains x
  | [] => rfl
  | a :: r => by
    rw [List.any_cons, List.contains_cons, any_intW x r]
    congr 1
    show decide (IntKind.i64 = IntKind.i64 ∧ a = x) = (x == a)
    by_cases e : a = x
    · subst e
      simp
    · have e' : ¬ x = a := fun h => e h.symm
      simp [e, e']
theorem has_wallSet (ws : List Int) (x : Int) : Maps.has (wallSet ws) (.int .i64 x) = ws.contains x := by
  unfold wallSet
  rw [has_setOf _ _ _ (fun y hy => by obtain ⟨_, _, rfl⟩ := List.mem_map.1 hy; trivial), List.any_map]
  exact any_intW x _
theorem wf_small {y : Int} (h0 : 0 ≤ y) (h1 : y ≤ 1000) : (Lit.int .i64 y).wf = true := WalkArith.wf_i64 (by omega)

/-- a set of numbers in block b -/
def SetAt (w : World) (b : Nat) (ws : List Int) : Prop := w.ownsMap Try.prog 3 (unitElem (H := Unit)) b ws.length (wallSet ws)
theorem SetAt.alloc {w : World} {b : Nat} {ws : List Int} (h : SetAt w b ws) (o : Obj) : SetAt (w.alloc o) b ws := World.ownsMap.alloc h o
theorem SetAt.below {w w' : World} {b : Nat} {ws : List Int} (h : SetAt w b ws) (hb : Below w.heap.size w w') : SetAt w' b ws := World.ownsMap.kept (row := none) h ⟨hb.os, hb.tape, hb.output, hb.size, fun k hk _ => hb.block k hk⟩ (by simp)

set_option maxHeartbeats 2000000 in
set_option maxRecDepth 100000 in
theorem wallsOf_any (v : Value) (ws : List Int) (w : World) (hv : Ix w v ws) (hr : ∀ y ∈ ws, 0 ≤ y ∧ y ≤ 1000) (hl' : ws.length ≤ 1048576) :
    Calls Try.prog 59 #[v] w fun e w' => e = .returned (.map (some w.heap.size)) ∧ SetAt w' w.heap.size ws ∧ Below w.heap.size w w' := by
  have hmm := @run_makeMap Try.prog
  obtain ⟨hl, a, cap, rfl, hc⟩ := hv
  go_enter Try.func59, Try.ntmps59
  go_wp2
  go_loopw [9] (fun i wr => ∃ k : Nat, k ≤ ws.length ∧ i = .int .i64 k ∧ wr.ownsMap Try.prog 3 (unitElem (H := Unit)) w.heap.size k (wallSet (ws.take k)) ∧ Below w.heap.size w wr) (fun i _ => ws.length - (intOf i).toNat)
  case atStart => exact ⟨0, Nat.zero_le _, rfl, World.ownsMap_made _ _ _ _, (Below.refl _ _).alloc (Nat.le_refl _) _⟩
  case round =>
    obtain ⟨k, hk, rfl, hown, hnx⟩ := hrel
    by_cases hlt : k < ws.length
    · obtain ⟨b, off, rfl, hj⟩ := hc k hlt
      have hck : wr.cell? ⟨b, off + k, none⟩ = some (.int .i64 ws[k]) := (hnx.cell (p := ⟨b, off + k, none⟩) (cell_lt (hj k hlt))).trans (hj k hlt)
      have hy := hr _ (List.getElem_mem hlt)
      have HT : Hid (ws.take (k + 1) = ws.take k ++ [ws[k]]) := List.take_succ_eq_append_getElem hlt
      have hkey : keyOf Try.prog 3 (.int .i64 ws[k]) = some (.int .i64 ws[k]) := keyOf_int_mk Try.underlying3 (wf_small hy.1 hy.2)
      clear hc hj hr
      generalize ws[k] = y at *
      go_wp2_with (at_mapUpdate; refine wpList_mapUpdate_own _ rfl _ _ _ 83 rfl 3 93 law3 Try.underlying83 (unitElem (H := Unit)) w.heap.size k _ rfl hown (by unfold maxLen; omega) _ _ _ rfl rfl hkey _ [] unitElem_mk ?_; intro w1 hown1 hgrow1)
      go_roundw
      case rel => exact ⟨k + 1, by omega, by go_num, by rw [HT.out, wallSet_snoc]; exact hown1, hnx.grown hgrow1 hnx.size (fun j hj => by cases hj; exact Nat.le_refl _)⟩
      case measure => simp [intOf]; omega
    · obtain rfl : k = ws.length := by omega
      rw [List.take_length] at hown
      go_wp2
      go_ret
      exact ⟨rfl, hown, hnx⟩

set_option maxHeartbeats 2000000 in
set_option maxRecDepth 100000 in
theorem lose_any (b : Nat) (ws : List Int) (f t : Int) (w : World) (h : SetAt w b ws) (hf : 0 ≤ f ∧ f ≤ 1000) (ht : 0 ≤ t ∧ t ≤ 1000) :
    Calls Try.prog 60 #[.map (some b), .int .i64 f, .int .i64 t] w fun e w' => e = .returned (.bool (ws.contains f || ws.contains t)) ∧ Below w.heap.size w w' := by
  have hk1 : keyOf Try.prog 3 (.int .i64 f) = some (.int .i64 f) := keyOf_int_mk Try.underlying3 (wf_small hf.1 hf.2)
  have hk2 : keyOf Try.prog 3 (.int .i64 t) = some (.int .i64 t) := keyOf_int_mk Try.underlying3 (wf_small ht.1 ht.2)
  have H : Hid (SetAt w b ws) := h
  clear h
  cases h1 : ws.contains f
  · cases h2 : ws.contains t
    · go_enter Try.func60, Try.ntmps60
      have g1 : True := trivial
      go_wp2_with (first
        | (at_lookup; clear g1; refine wpList_lookup_own_unit _ rfl _ _ 83 rfl 3 93 law3 Try.underlying83 (zeroUnit _) b ws.length _ rfl H.out _ _ rfl hk1 ?_; rw [has_wallSet, h1])
        | (at_lookup; refine wpList_lookup_own_unit _ rfl _ _ 83 rfl 3 93 law3 Try.underlying83 (zeroUnit _) b ws.length _ rfl (H.out.alloc _) _ _ rfl hk2 ?_; rw [has_wallSet, h2]))
      go_ret
      exact ⟨rfl, ((Below.refl _ _).alloc (Nat.le_refl _) _).alloc (by simp) _⟩
    · go_enter Try.func60, Try.ntmps60
      have g1 : True := trivial
      go_wp2_with (first
        | (at_lookup; clear g1; refine wpList_lookup_own_unit _ rfl _ _ 83 rfl 3 93 law3 Try.underlying83 (zeroUnit _) b ws.length _ rfl H.out _ _ rfl hk1 ?_; rw [has_wallSet, h1])
        | (at_lookup; refine wpList_lookup_own_unit _ rfl _ _ 83 rfl 3 93 law3 Try.underlying83 (zeroUnit _) b ws.length _ rfl (H.out.alloc _) _ _ rfl hk2 ?_; rw [has_wallSet, h2]))
      go_ret
      exact ⟨rfl, ((Below.refl _ _).alloc (Nat.le_refl _) _).alloc (by simp) _⟩
  · go_enter Try.func60, Try.ntmps60
    have g1 : True := trivial
    go_wp2_with (first
      | (at_lookup; clear g1; refine wpList_lookup_own_unit _ rfl _ _ 83 rfl 3 93 law3 Try.underlying83 (zeroUnit _) b ws.length _ rfl H.out _ _ rfl hk1 ?_; rw [has_wallSet, h1])
      | (at_lookup; refine wpList_lookup_own_unit _ rfl _ _ 83 rfl 3 93 law3 Try.underlying83 (zeroUnit _) b ws.length _ rfl (H.out.alloc _) _ _ rfl hk2 ?_))
    go_ret
    exact ⟨rfl, ((Below.refl _ _).alloc (Nat.le_refl _) _).alloc (by simp) _⟩

theorem has_not_takeW {x : Int} {l : List Int} {k : Nat} (h : x ∉ l.take k) (hlt : k < l.length) (hne : ¬ l[k] = x) : x ∉ l.take (k + 1) := by
  rw [List.take_succ_eq_append_getElem hlt, List.mem_append]
  rintro (h' | h')
  · exact h h'
  · exact hne (List.mem_singleton.1 h').symm

set_option maxHeartbeats 2000000 in
set_option maxRecDepth 100000 in
theorem l3walled_any (n : Int) (a1 : Option Addr) (n1 cap1 : Nat) (v : Value) (ws : List Int) (x : Int) (w : World) (hv : Ix w v ws) :
    Calls Try.prog 35 #[.agg #[.int .i64 n, .slice a1 n1 cap1, v], .int .i64 x] w fun e w' => e = .returned (.bool (ws.contains x)) ∧ Below w.heap.size w w' := by
  obtain ⟨hl, a, cap, rfl, hc⟩ := hv
  unfold maxLen at hl
  have hb0 : Hid (Below w.heap.size w (w.alloc (.cells #[.int .i64 n, .slice a1 n1 cap1, .slice a ws.length cap] 29))) := (Below.refl _ _).alloc (Nat.le_refl _) _
  go_enter Try.func35, Try.ntmps35
  go_wp2
  go_loopw [5] (fun i wr => ∃ k : Nat, k ≤ ws.length ∧ i = .int .i64 k ∧ x ∉ ws.take k ∧ wr = w.alloc (.cells #[.int .i64 n, .slice a1 n1 cap1, .slice a ws.length cap] 29)) (fun i _ => ws.length - (intOf i).toNat)
  case atStart => exact ⟨0, Nat.zero_le _, rfl, by simp, rfl⟩
  case round =>
    obtain ⟨k, hk, rfl, hx, rfl⟩ := hrel
    have HX : Hid (x ∉ ws.take k) := hx
    clear hx
    by_cases hlt : k < ws.length
    · obtain ⟨b, off, rfl, hj⟩ := hc k hlt
      have hck := hj k hlt
      have hbl := cell_lt hck
      by_cases he : ws[k] = x
      · have HR : Hid (ws.contains x = true) := by
          show _ = _
          rw [List.contains_iff_mem, ← he]; exact List.getElem_mem hlt
        rw [he] at hck
        clear hc hj he
        go_wp2
        go_ret
        exact ⟨by rw [HR.out]; rfl, hb0.out⟩
      · have HN : Hid (x ∉ ws.take (k + 1)) := has_not_takeW HX.out hlt he
        clear hc hj
        generalize ws[k] = y at *
        go_wp2
        go_roundw
        case rel => exact ⟨k + 1, by omega, by go_num, HN.out, trivial⟩
        case measure => simp [intOf]; omega
    · have HR : Hid (ws.contains x = false) := by
        show _ = _
        have h := HX.out
        rw [List.take_of_length_le (by omega)] at h
        simpa using h
      go_wp2
      go_ret
      exact ⟨by rw [HR.out]; rfl, hb0.out⟩
end Go.Proofs.Ythondmpnleleiaa
