/-
  laws.szPairS, laws.szSessionS.
-/
import Derived.Test.YtelfejhopjbhpaaTbBase
import Derived.Test.YtelfejhopjbhpaaBlk
namespace Go.Proofs.Ytelfejhopjbhpaa
open Go.RowKit Go.Maps
set_option linter.unusedVariables false
set_option linter.unusedSimpArgs false

set_option maxHeartbeats 2000000 in
set_option maxRecDepth 100000 in
theorem szPair_any (p : Pr) (left : Int) (h0 : 0 ≤ left) (h1 : left ≤ 1048576) (hf : p.k.size ≤ maxLen ∧ p.v.size ≤ maxLen) (w : World) :
    Calls Try.prog 72 #[.agg #[.string p.k, .string p.v], .int .i64 left] w fun x w' => (∃ s : Int, x = .returned (.int .i64 s) ∧ s ≤ left ∧ (0 ≤ s → p.k.size ≤ 1048576 ∧ p.v.size ≤ 1048576)) ∧ Below w.heap.size w w' := by
  unfold maxLen at hf
  go_enter Try.func72, Try.ntmps72
  go_wp2
  all_goals go_ret
  all_goals refine ⟨⟨_, rfl, by omega, fun h => by omega⟩, (Below.refl _ _).alloc (Nat.le_refl _) _⟩
set_option maxHeartbeats 4000000 in
set_option maxRecDepth 100000 in
theorem szPairS_u (v : Value) (l : List Pr) (w : World) (hv : Sl prC 2 w v l) (hf : ∀ p ∈ l, p.k.size ≤ maxLen ∧ p.v.size ≤ maxLen) (left : Int) (h0 : 0 ≤ left) (h1 : left ≤ 1048576) :
    Calls Try.prog 46 #[v, .int .i64 left] w fun r w' => (∃ s : Int, r = .returned (.int .i64 s) ∧ s ≤ left ∧ (0 ≤ s → l.length ≤ 1048576 ∧ ∀ p ∈ l, p.k.size ≤ 1048576 ∧ p.v.size ≤ 1048576)) ∧ Below w.heap.size w w' := by
  have HV : Hid (Sl prC 2 w v l) := hv
  obtain ⟨hl, a, cap, rfl, _⟩ := hv
  unfold maxLen at hl
  have HF : Hid (∀ p ∈ l, p.k.size ≤ maxLen ∧ p.v.size ≤ maxLen) := hf
  clear hf
  go_enter Try.func46, Try.ntmps46
  go_wp2
  · go_ret
    exact ⟨⟨_, rfl, by omega, by omega⟩, Below.refl _ _⟩
  · go_loopw [1, 5] (fun s i wr => ∃ (k : Nat) (x : Int), k ≤ l.length ∧ i = .int .i64 k ∧ s = .int .i64 x ∧ 0 ≤ x ∧ x ≤ left ∧ (∀ p ∈ l.take k, p.k.size ≤ 1048576 ∧ p.v.size ≤ 1048576) ∧ Below w.heap.size w wr) (fun _ i _ => l.length - (RowKit.intOf i).toNat)
    case atStart => exact ⟨0, _, Nat.zero_le _, rfl, rfl, by omega, by omega, by simp, Below.refl _ _⟩
    case round =>
      obtain ⟨k, x, hk, rfl, rfl, hx, hx', hA, hB⟩ := hrel
      by_cases hlt : k < l.length
      · obtain ⟨b, off, rfl, hj⟩ := Ps.at_ (HV.out.below hB) hlt
        have hjk := hj k hlt
        obtain ⟨c0, c1⟩ := hjk
        have hfk := HF.out l[k] (List.getElem_mem hlt)
        have HA : Hid (∀ p ∈ l.take k, p.k.size ≤ 1048576 ∧ p.v.size ≤ 1048576) := hA
        have HT : Hid (l.take (k + 1) = l.take k ++ [l[k]]) := List.take_succ_eq_append_getElem hlt
        clear hj hA
        generalize l[k] = p at *
        go_wp2_with (go_at_call 72; refine (szPair_any p x hx (by omega) hfk _).mono ?_; rintro r w1 ⟨⟨s, rfl, hs, hsm⟩, hb⟩)
        · go_ret
          exact ⟨⟨_, rfl, by omega, by omega⟩, hB.trans (hb.mono hB.size)⟩
        · go_roundw
          case rel => exact ⟨k + 1, s, by omega, by go_num, rfl, by omega, by omega, (by rw [HT.out]; intro p' hp'; rcases List.mem_append.1 hp' with hp' | hp'; exact HA.out p' hp'; rw [List.mem_singleton.1 hp']; exact hsm (by omega)), hB.trans (hb.mono hB.size)⟩
          case measure => simp [RowKit.intOf]; omega
      · rw [List.take_of_length_le (by omega)] at hA
        go_wp2
        go_ret
        exact ⟨⟨_, rfl, by omega, fun _ => ⟨by omega, hA⟩⟩, hB⟩
set_option maxHeartbeats 2000000 in
set_option maxRecDepth 100000 in
theorem szSession_any (p : Se) (left : Int) (h0 : 0 ≤ left) (h1 : left ≤ 1048576) (hf : p.v.size ≤ maxLen) (w : World) :
    Calls Try.prog 73 #[.agg #[.int .i64 p.cl, .int .i64 p.sq, .int .i64 p.cd, .string p.v], .int .i64 left] w fun x w' => (∃ s : Int, x = .returned (.int .i64 s) ∧ s ≤ left ∧ (0 ≤ s → p.v.size ≤ 1048576)) ∧ Below w.heap.size w w' := by
  unfold maxLen at hf
  go_enter Try.func73, Try.ntmps73
  go_wp2
  all_goals go_ret
  all_goals refine ⟨⟨_, rfl, by omega, fun h => by omega⟩, (Below.refl _ _).alloc (Nat.le_refl _) _⟩
set_option maxHeartbeats 4000000 in
set_option maxRecDepth 100000 in
theorem szSessionS_u (v : Value) (l : List Se) (w : World) (hv : Sl seC 4 w v l) (hf : ∀ p ∈ l, p.v.size ≤ maxLen) (left : Int) (h0 : 0 ≤ left) (h1 : left ≤ 1048576) :
    Calls Try.prog 47 #[v, .int .i64 left] w fun r w' => (∃ s : Int, r = .returned (.int .i64 s) ∧ s ≤ left ∧ (0 ≤ s → l.length ≤ 1048576 ∧ ∀ p ∈ l, p.v.size ≤ 1048576)) ∧ Below w.heap.size w w' := by
  have HV : Hid (Sl seC 4 w v l) := hv
  obtain ⟨hl, a, cap, rfl, _⟩ := hv
  unfold maxLen at hl
  have HF : Hid (∀ p ∈ l, p.v.size ≤ maxLen) := hf
  clear hf
  go_enter Try.func47, Try.ntmps47
  go_wp2
  · go_ret
    exact ⟨⟨_, rfl, by omega, by omega⟩, Below.refl _ _⟩
  · go_loopw [1, 5] (fun s i wr => ∃ (k : Nat) (x : Int), k ≤ l.length ∧ i = .int .i64 k ∧ s = .int .i64 x ∧ 0 ≤ x ∧ x ≤ left ∧ (∀ p ∈ l.take k, p.v.size ≤ 1048576) ∧ Below w.heap.size w wr) (fun _ i _ => l.length - (RowKit.intOf i).toNat)
    case atStart => exact ⟨0, _, Nat.zero_le _, rfl, rfl, by omega, by omega, by simp, Below.refl _ _⟩
    case round =>
      obtain ⟨k, x, hk, rfl, rfl, hx, hx', hA, hB⟩ := hrel
      by_cases hlt : k < l.length
      · obtain ⟨b, off, rfl, hj⟩ := Ss.at_ (HV.out.below hB) hlt
        have hjk := hj k hlt
        obtain ⟨c0, c1, c2, c3⟩ := hjk
        have hfk := HF.out l[k] (List.getElem_mem hlt)
        have HA : Hid (∀ p ∈ l.take k, p.v.size ≤ 1048576) := hA
        have HT : Hid (l.take (k + 1) = l.take k ++ [l[k]]) := List.take_succ_eq_append_getElem hlt
        clear hj hA
        generalize l[k] = p at *
        go_wp2_with (go_at_call 73; refine (szSession_any p x hx (by omega) hfk _).mono ?_; rintro r w1 ⟨⟨s, rfl, hs, hsm⟩, hb⟩)
        · go_ret
          exact ⟨⟨_, rfl, by omega, by omega⟩, hB.trans (hb.mono hB.size)⟩
        · go_roundw
          case rel => exact ⟨k + 1, s, by omega, by go_num, rfl, by omega, by omega, (by rw [HT.out]; intro p' hp'; rcases List.mem_append.1 hp' with hp' | hp'; exact HA.out p' hp'; rw [List.mem_singleton.1 hp']; exact hsm (by omega)), hB.trans (hb.mono hB.size)⟩
          case measure => simp [RowKit.intOf]; omega
      · rw [List.take_of_length_le (by omega)] at hA
        go_wp2
        go_ret
        exact ⟨⟨_, rfl, by omega, fun _ => ⟨by omega, hA⟩⟩, hB⟩

end Go.Proofs.Ytelfejhopjbhpaa
