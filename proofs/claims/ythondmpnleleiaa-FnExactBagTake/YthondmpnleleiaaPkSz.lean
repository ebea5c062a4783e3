/-
  laws.szPacket, szPacketS, szBag.
-/
import Derived.Test.YthondmpnleleiaaPkBase
import Derived.Test.YthondmpnleleiaaSzB
import Derived.Test.YthondmpnleleiaaIntsU
namespace Go.Proofs.Ythondmpnleleiaa
open Go.RowKit
set_option linter.unusedVariables false
set_option linter.unusedSimpArgs false

/-- what packets say -/
def cont (l : List Pk) : List Pkt := l.map Prod.fst
theorem cont_len (l : List Pk) : (cont l).length = l.length := by simp [cont]
/-- how many bytes they bear -/
def bulk : List Pkt → Nat
  | [] => 0
  | p :: l => p.bs.length + bulk l
theorem bulk_app (l k : List Pkt) : bulk (l ++ k) = bulk l + bulk k := by
  induction l with
  | nil => simp [bulk]
  | cons p l ih => rw [List.cons_append, bulk, ih, bulk]; omega
theorem bulk_take (l : List Pk) (k : Nat) (h : k < l.length) : bulk (cont (l.take (k + 1))) = bulk (cont (l.take k)) + l[k].1.bs.length := by
  rw [List.take_succ_eq_append_getElem h, cont, List.map_append, bulk_app]
  rfl
theorem bulk_mem {l : List Pkt} {p : Pkt} (h : p ∈ l) : p.bs.length ≤ bulk l := by
  induction l with
  | nil => cases h
  | cons q l ih =>
    rw [bulk]
    rcases List.mem_cons.1 h with rfl | h
    · omega
    · have := ih h; omega
theorem bulk_take_le (l : List Pk) (k : Nat) : bulk (cont (l.take k)) ≤ bulk (cont l) := by
  have h : bulk (cont l) = bulk (cont (l.take k)) + bulk (cont (l.drop k)) := by
    rw [← bulk_app, cont, cont, cont, ← List.map_append, List.take_append_drop]
  omega
theorem Pks.bs {w : World} {v : Value} {l : List Pk} (h : Pks w v l) (k : Nat) (hk : k < l.length) : Bs w l[k].2 l[k].1.bs := h.2.1 _ (List.getElem_mem hk)
theorem Bs.sh {w : World} {v : Value} {l : List Int} (h : Bs w v l) : ∃ a cap, v = .slice a l.length cap := by
  obtain ⟨_, _, a, cap, e, _⟩ := h
  exact ⟨a, cap, e⟩

set_option maxHeartbeats 1000000 in
theorem szPacket_any (i f t : Int) (a : Option Addr) (n cap k : Nat) (hk : k ≤ 1048576) (hn : n ≤ maxLen) (w : World) :
    Calls Try.prog 66 #[.agg #[.int .i64 i, .int .i64 f, .int .i64 t, .slice a n cap], .int .i64 k] w fun e w' => e = .returned (.int .i64 (if n ≤ k then ((k - n : Nat) : Int) else -1)) ∧ Below w.heap.size w w' := by
  have hb0 : Hid (Below w.heap.size w (w.alloc (.cells #[.int .i64 i, .int .i64 f, .int .i64 t, .slice a n cap] 90))) := (Below.refl _ _).alloc (Nat.le_refl _) _
  by_cases h : n ≤ k
  · rw [if_pos h]
    go_enter Try.func66, Try.ntmps66
    go_wp2_with (go_at_call 81; refine (szByteS_any a n cap k hk hn _).mono ?_; rintro e w1 ⟨rfl, rfl⟩; rw [if_pos h])
    go_ret
    exact ⟨rfl, hb0.out⟩
  · rw [if_neg h]
    go_enter Try.func66, Try.ntmps66
    go_wp2_with (go_at_call 81; refine (szByteS_any a n cap k hk hn _).mono ?_; rintro e w1 ⟨rfl, rfl⟩; rw [if_neg h])
    go_ret
    exact ⟨rfl, hb0.out⟩

set_option maxHeartbeats 2000000 in
theorem szPacketS_u (v : Value) (l : List Pk) (w : World) (hv : Pks w v l) (left : Nat) (h1 : left ≤ 1048576) :
    Calls Try.prog 30 #[v, .int .i64 left] w fun r w' =>
      ((∃ s : Nat, r = .returned (.int .i64 s) ∧ s + l.length + bulk (cont l) = left) ∨ r = .returned (.int .i64 (-1))) ∧ Below w.heap.size w w' := by
  have HV : Hid (Pks w v l) := hv
  obtain ⟨hl, _, a, cap, rfl, hc⟩ := hv
  unfold maxLen at hl
  by_cases hll : l.length ≤ left
  · have HL : Hid (((left - l.length : Nat) : Int) = (left : Int) - l.length) := by show _ = _; omega
    go_enter Try.func30, Try.ntmps30
    go_wp2
    go_loopw [1, 5] (fun s i wr => ∃ (k x : Nat), k ≤ l.length ∧ i = .int .i64 k ∧ s = .int .i64 (x : Int) ∧ x + l.length + bulk (cont (l.take k)) = left ∧ Below w.heap.size w wr) (fun _ i _ => l.length - (intOf i).toNat)
    case atStart => exact ⟨0, left - l.length, Nat.zero_le _, rfl, by rw [HL.out], by simp [cont, bulk]; omega, Below.refl _ _⟩
    case round =>
      obtain ⟨k, x, hk, rfl, rfl, hx, hB⟩ := hrel
      by_cases hlt : k < l.length
      · obtain ⟨b, off, rfl, hj⟩ := hc k hlt
        obtain ⟨c0, c1, c2, c3⟩ := (hj k hlt).below hB
        obtain ⟨a', cap', e3⟩ := (HV.out.bs k hlt).sh
        have hnn : l[k].1.bs.length ≤ maxLen := (HV.out.bs k hlt).1
        have HBT : Hid (bulk (cont (l.take (k + 1))) = bulk (cont (l.take k)) + l[k].1.bs.length) := bulk_take l k hlt
        rw [e3] at c3
        have hsz := hB.size
        clear hc hj e3
        generalize l[k] = p at *
        by_cases hn : p.1.bs.length ≤ x
        · have HN : Hid (((x - p.1.bs.length : Nat) : Int) = (x : Int) - p.1.bs.length) := by show _ = _; omega
          go_wp2_with (go_at_call 66; refine (szPacket_any _ _ _ _ _ _ x (by omega) hnn _).mono ?_; rintro r w1 ⟨rfl, hb⟩; rw [if_pos hn])
          go_roundw
          case rel => exact ⟨k + 1, x - p.1.bs.length, by omega, by go_num, rfl, by have := HBT.out; omega, hB.trans (hb.mono (by omega))⟩
          case measure => simp [intOf]; omega
        · go_wp2_with (go_at_call 66; refine (szPacket_any _ _ _ _ _ _ x (by omega) hnn _).mono ?_; rintro r w1 ⟨rfl, hb⟩; rw [if_neg hn])
          go_ret
          exact ⟨.inr rfl, hB.trans (hb.mono (by omega))⟩
      · obtain rfl : k = l.length := by omega
        rw [List.take_length] at hx
        go_wp2
        go_ret
        exact ⟨.inl ⟨_, rfl, hx⟩, hB⟩
  · go_enter Try.func30, Try.ntmps30
    go_wp2
    go_ret
    exact ⟨.inr rfl, Below.refl _ _⟩

set_option maxHeartbeats 2000000 in
theorem szBag_u (n : Int) (v u : Value) (l : List Pk) (ws : List Int) (w : World) (hv : Pks w v l) (hu : Ix w u ws) :
    Calls Try.prog 7 #[.agg #[.int .i64 n, v, u], .int .i64 1048576] w fun r w' =>
      (∃ s : Int, r = .returned (.int .i64 s) ∧ s ≤ 1048576 ∧ (0 ≤ s → l.length + bulk (cont l) ≤ 1048576 ∧ ws.length ≤ 1048576)) ∧ Below w.heap.size w w' := by
  have HV : Hid (∀ w', Below w.heap.size w w' → Calls Try.prog 30 #[v, .int .i64 1048576] w' fun r w'' => ((∃ s : Nat, r = .returned (.int .i64 s) ∧ s + l.length + bulk (cont l) = 1048576) ∨ r = .returned (.int .i64 (-1))) ∧ Below w'.heap.size w' w'') := fun w' hb => szPacketS_u v l w' (hv.below hb) 1048576 (by omega)
  have HU : Hid (∀ w', Below w.heap.size w w' → ∀ s : Nat, s ≤ 1048576 → Calls Try.prog 31 #[u, .int .i64 s] w' fun r w'' => (∃ s : Int, r = .returned (.int .i64 s) ∧ s ≤ 1048576 ∧ (0 ≤ s → ws.length ≤ 1048576)) ∧ w'' = w') := fun w' hb s hs => szIntS_left u ws w' (hu.below hb) s (by omega) (by omega)
  obtain ⟨_, _, a, cap, rfl, _⟩ := hv
  obtain ⟨_, a', cap', rfl, _⟩ := hu
  have hb0 : Hid (Below w.heap.size w (w.alloc (.cells #[.int .i64 n, .slice a l.length cap, .slice a' ws.length cap'] 25))) := (Below.refl _ _).alloc (Nat.le_refl _) _
  go_enter Try.func7, Try.ntmps7
  go_wp2_with (first
    | (go_at_call 30; refine (HV.out _ hb0.out).mono ?_; rintro r w1 ⟨hr, hb1⟩; have HB1 : Hid (Below w.heap.size w w1) := hb0.out.trans (hb1.mono (by simp)); have hcc := (bcell hb1).1; clear hb1; rcases hr with ⟨s, rfl, hs⟩ | rfl)
    | (go_at_call 31; refine (HU.out _ HB1.out s (by omega)).mono ?_; rintro r w2 ⟨⟨s2, rfl, hs2, hs3⟩, rfl⟩))
  · go_ret
    exact ⟨⟨_, rfl, by omega, by omega⟩, HB1.out⟩
  · go_ret
    exact ⟨⟨_, rfl, by omega, fun _ => by omega⟩, HB1.out⟩
  · go_ret
    exact ⟨⟨_, rfl, by omega, by omega⟩, HB1.out⟩
end Go.Proofs.Ythondmpnleleiaa
