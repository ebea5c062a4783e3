/-
  impl.isAddress, packetFits, packetsFit, bagFits; spec.l3address.
-/
import Derived.Test.YthondmpnleleiaaPkSz
import Derived.Test.YthondmpnleleiaaRises
import Derived.Test.YthondmpnleleiaaL1in
namespace Go.Proofs.Ythondmpnleleiaa
open Go.RowKit
set_option linter.unusedVariables false
set_option linter.unusedSimpArgs false

def addrB (a : Int) : Bool := inB a 1 7 || inB a 11 18
/-- a packet's sender, receiver and length are in order -/
def pkF (f t : Int) (n : Nat) : Bool := addrB f && addrB t && decide (f ≠ t) && inB n 1 16384
/-- packets in order, their numbers from last + 1 to next - 1, rising -/
def pksB (next : Int) : Int → List Pkt → Bool
  | _, [] => true
  | last, p :: l => (inB p.id (last + 1) (next - 1) && pkF p.fr p.to p.bs.length) && pksB next p.id l
def bagB (n : Int) (l : List Pkt) (ws : List Int) : Bool := inB n 1 1099511627776 && (decide (l.length ≤ 4096) && pksB n 0 l) && riseB 7 0 ws
theorem pksB_drop (next last : Int) (l : List Pkt) (k : Nat) (h : k < l.length) : pksB next last (l.drop k) = ((inB l[k].id (last + 1) (next - 1) && pkF l[k].fr l[k].to l[k].bs.length) && pksB next l[k].id (l.drop (k + 1))) := by
  rw [List.drop_eq_getElem_cons h]; rfl

theorem isAddress_any (a : Int) (w : World) : Calls Try.prog 92 #[.int .i64 a] w fun e w' => e = .returned (.bool (addrB a)) ∧ w' = w := by
  unfold addrB
  cases h1 : inB a 1 7
  · cases h2 : inB a 11 18
    · go_enter Try.func92, Try.ntmps92
      have g1 : True := trivial
      go_wp2_with (first
        | (go_at_call 40; clear g1; refine (within_any _ _ _ _).mono ?_; rintro e w1 ⟨rfl, hw⟩; obtain rfl := hw.symm; rw [h1])
        | (go_at_call 40; refine (within_any _ _ _ _).mono ?_; rintro e w1 ⟨rfl, hw⟩; obtain rfl := hw.symm; rw [h2]))
      go_ret
      exact ⟨rfl, rfl⟩
    · go_enter Try.func92, Try.ntmps92
      have g1 : True := trivial
      go_wp2_with (first
        | (go_at_call 40; clear g1; refine (within_any _ _ _ _).mono ?_; rintro e w1 ⟨rfl, hw⟩; obtain rfl := hw.symm; rw [h1])
        | (go_at_call 40; refine (within_any _ _ _ _).mono ?_; rintro e w1 ⟨rfl, hw⟩; obtain rfl := hw.symm; rw [h2]))
      go_ret
      exact ⟨rfl, rfl⟩
  · go_enter Try.func92, Try.ntmps92
    go_wp2_with (go_at_call 40; refine (within_any _ _ _ _).mono ?_; rintro e w1 ⟨rfl, hw⟩; obtain rfl := hw.symm; rw [h1])
    go_ret
    exact ⟨rfl, rfl⟩
theorem l3address_any (a : Int) (w : World) : Calls Try.prog 48 #[.int .i64 a] w fun e w' => e = .returned (.bool (addrB a)) ∧ w' = w := by
  unfold addrB
  cases h1 : inB a 1 7
  · cases h2 : inB a 11 18
    · go_enter Try.func48, Try.ntmps48
      have g1 : True := trivial
      go_wp2_with (first
        | (go_at_call 34; clear g1; refine (l1in_any _ _ _ _).mono ?_; rintro e w1 ⟨rfl, hw⟩; obtain rfl := hw.symm; rw [h1])
        | (go_at_call 34; refine (l1in_any _ _ _ _).mono ?_; rintro e w1 ⟨rfl, hw⟩; obtain rfl := hw.symm; rw [h2]))
      go_ret
      exact ⟨rfl, rfl⟩
    · go_enter Try.func48, Try.ntmps48
      have g1 : True := trivial
      go_wp2_with (first
        | (go_at_call 34; clear g1; refine (l1in_any _ _ _ _).mono ?_; rintro e w1 ⟨rfl, hw⟩; obtain rfl := hw.symm; rw [h1])
        | (go_at_call 34; refine (l1in_any _ _ _ _).mono ?_; rintro e w1 ⟨rfl, hw⟩; obtain rfl := hw.symm; rw [h2]))
      go_ret
      exact ⟨rfl, rfl⟩
  · go_enter Try.func48, Try.ntmps48
    go_wp2_with (go_at_call 34; refine (l1in_any _ _ _ _).mono ?_; rintro e w1 ⟨rfl, hw⟩; obtain rfl := hw.symm; rw [h1])
    go_ret
    exact ⟨rfl, rfl⟩

set_option maxHeartbeats 2000000 in
theorem packetFits_any (i f t : Int) (a : Option Addr) (n cap : Nat) (hn : n ≤ maxLen) (w : World) :
    Calls Try.prog 82 #[.agg #[.int .i64 i, .int .i64 f, .int .i64 t, .slice a n cap]] w fun e w' => e = .returned (.bool (pkF f t n)) ∧ Below w.heap.size w w' := by
  have hb0 : Hid (Below w.heap.size w (w.alloc (.cells #[.int .i64 i, .int .i64 f, .int .i64 t, .slice a n cap] 48))) := (Below.refl _ _).alloc (Nat.le_refl _) _
  unfold maxLen at hn
  unfold pkF
  cases h1 : addrB f
  · go_enter Try.func82, Try.ntmps82
    go_wp2_with (go_at_call 92; refine (isAddress_any _ _).mono ?_; rintro e w1 ⟨rfl, hw⟩; subst hw; rw [h1])
    go_ret
    exact ⟨rfl, hb0.out⟩
  · cases h2 : addrB t
    · go_enter Try.func82, Try.ntmps82
      have g1 : True := trivial
      go_wp2_with (first
        | (go_at_call 92; clear g1; refine (isAddress_any _ _).mono ?_; rintro e w1 ⟨rfl, hw⟩; subst hw; rw [h1])
        | (go_at_call 92; refine (isAddress_any _ _).mono ?_; rintro e w1 ⟨rfl, hw⟩; subst hw; rw [h2]))
      go_ret
      exact ⟨rfl, hb0.out⟩
    · by_cases h3 : f = t
      · subst h3
        rw [show decide (f ≠ f) = false by simp]
        go_enter Try.func82, Try.ntmps82
        have g1 : True := trivial
        go_wp2_with (first
          | (go_at_call 92; clear g1; refine (isAddress_any _ _).mono ?_; rintro e w1 ⟨rfl, hw⟩; subst hw; rw [h1])
          | (go_at_call 92; refine (isAddress_any _ _).mono ?_; rintro e w1 ⟨rfl, hw⟩; subst hw; rw [h2]))
        go_ret
        exact ⟨rfl, hb0.out⟩
      · rw [show decide (f ≠ t) = true by simp [h3]]
        go_enter Try.func82, Try.ntmps82
        have g1 : True := trivial
        go_wp2_with (first
          | (go_at_call 92; clear g1; refine (isAddress_any _ _).mono ?_; rintro e w1 ⟨rfl, hw⟩; subst hw; rw [h1])
          | (go_at_call 92; refine (isAddress_any _ _).mono ?_; rintro e w1 ⟨rfl, hw⟩; subst hw; rw [h2])
          | (go_at_call 40; refine (within_any _ _ _ _).mono ?_; rintro e w1 ⟨rfl, hw⟩; subst hw))
        go_ret
        exact ⟨by simp [h3], hb0.out⟩

set_option maxHeartbeats 4000000 in
set_option maxRecDepth 100000 in
theorem packetsFit_any (n : Int) (hn1 : 1 ≤ n) (hn2 : n ≤ 1099511627776) (v : Value) (a2 : Option Addr) (n2 cap2 : Nat) (l : List Pk) (w : World) (hv : Pks w v l) :
    Calls Try.prog 68 #[.agg #[.int .i64 n, v, .slice a2 n2 cap2]] w fun e w' => e = .returned (.bool (decide (l.length ≤ 4096) && pksB n 0 (cont l))) ∧ Below w.heap.size w w' := by
  have HV : Hid (Pks w v l) := hv
  obtain ⟨hl, _, a, cap, rfl, hc⟩ := hv
  unfold maxLen at hl
  by_cases h4 : l.length ≤ 4096
  case neg =>
    rw [show decide (l.length ≤ 4096) = false by simp [h4]]
    go_enter Try.func68, Try.ntmps68
    go_wp2
    go_ret
    exact ⟨rfl, (Below.refl _ _).alloc (Nat.le_refl _) _⟩
  rw [show decide (l.length ≤ 4096) = true by simp [h4], Bool.true_and]
  go_enter Try.func68, Try.ntmps68
  go_wp2
  go_loopw [3, 13] (fun t i wr => ∃ (k : Nat) (x : Int), k ≤ l.length ∧ i = .int .i64 k ∧ t = .int .i64 x ∧ 0 ≤ x ∧ x ≤ n ∧ pksB n 0 (cont l) = pksB n x ((cont l).drop k) ∧ Below (w.heap.size + 1) (w.alloc (.cells #[.int .i64 n, .slice a l.length cap, .slice a2 n2 cap2] 29)) wr) (fun _ i _ => l.length - (intOf i).toNat)
  case atStart => exact ⟨0, 0, Nat.zero_le _, rfl, rfl, by omega, by omega, by simp, Below.refl _ _⟩
  case round =>
    obtain ⟨k, x, hk, rfl, rfl, hx, hx', hr, hB⟩ := hrel
    have HR : Hid (pksB n 0 (cont l) = pksB n x ((cont l).drop k)) := hr
    have hB0 : Below w.heap.size w wr := ((Below.refl _ _).alloc (Nat.le_refl _) _).trans (hB.mono (Nat.le_succ _))
    have b0 : wr.cell? ⟨w.heap.size, 0, none⟩ = some (.int .i64 n) := (hB.cell (p := ⟨w.heap.size, 0, none⟩) (Nat.lt_succ_self _)).trans (by simp [go_sem])
    have hsz := hB.size
    simp only [World.size_alloc] at hsz
    have HB : Hid (Below (w.heap.size + 1) (w.alloc (.cells #[.int .i64 n, .slice a l.length cap, .slice a2 n2 cap2] 29)) wr) := hB
    clear hr hB
    by_cases hlt : k < l.length
    · obtain ⟨b, off, rfl, hj⟩ := hc k hlt
      obtain ⟨c0, c1, c2, c3⟩ := (hj k hlt).below hB0
      obtain ⟨a', cap', e3⟩ := (HV.out.bs k hlt).sh
      have hnn : l[k].1.bs.length ≤ maxLen := (HV.out.bs k hlt).1
      rw [e3] at c3
      have HD : Hid (pksB n x ((cont l).drop k) = ((inB l[k].1.id (x + 1) (n - 1) && pkF l[k].1.fr l[k].1.to l[k].1.bs.length) && pksB n l[k].1.id ((cont l).drop (k + 1)))) := by
        have h := pksB_drop n x (cont l) k (by rw [cont_len]; exact hlt)
        show _ = _
        simpa [cont] using h
      clear hc hj e3 hB0
      generalize l[k].1 = p at *
      have hbA : Hid (Below (w.heap.size + 1) (w.alloc (.cells #[.int .i64 n, .slice (some ⟨b, off, none⟩) l.length cap, .slice a2 n2 cap2] 29)) (wr.alloc (.cells #[.int .i64 p.id, .int .i64 p.fr, .int .i64 p.to, .slice a' p.bs.length cap'] 48))) := HB.out.alloc hsz _
      have b0' : (wr.alloc (.cells #[.int .i64 p.id, .int .i64 p.fr, .int .i64 p.to, .slice a' p.bs.length cap'] 48)).cell? ⟨w.heap.size, 0, none⟩ = some (.int .i64 n) := by rw [World.cell?_alloc_lt _ _ _ (by show w.heap.size < wr.heap.size; omega)]; exact b0
      cases hy : inB p.id (x + 1) (n - 1)
      · rw [hy] at HD
        go_wp2_with (go_at_call 40; refine (within_any _ _ _ _).mono ?_; rintro e w1 ⟨rfl, hw⟩; subst hw; rw [hy])
        go_ret
        exact ⟨by rw [HR.out, HD.out]; rfl, ((Below.refl _ _).alloc (Nat.le_refl _) _).trans (hbA.out.mono (Nat.le_succ _))⟩
      · rw [hy] at HD
        have hyi := (inB_iff _ _ _).1 hy
        cases hp : pkF p.fr p.to p.bs.length
        · rw [hp] at HD
          go_wp2_with (first
            | (go_at_call 40; refine (within_any _ _ _ _).mono ?_; rintro e w1 ⟨rfl, hw⟩; subst hw; rw [hy])
            | (go_at_call 82; refine (packetFits_any _ _ _ _ _ _ hnn _).mono ?_; rintro e w1 ⟨rfl, hb1⟩; rw [hp]))
          go_ret
          exact ⟨by rw [HR.out, HD.out]; rfl, ((Below.refl _ _).alloc (Nat.le_refl _) _).trans ((hbA.out.trans (hb1.mono (by simp; omega))).mono (Nat.le_succ _))⟩
        · rw [hp] at HD
          go_wp2_with (first
            | (go_at_call 40; refine (within_any _ _ _ _).mono ?_; rintro e w1 ⟨rfl, hw⟩; subst hw; rw [hy])
            | (go_at_call 82; refine (packetFits_any _ _ _ _ _ _ hnn _).mono ?_; rintro e w1 ⟨rfl, hb1⟩; rw [hp]; have hcc := (bcell hb1).1; have HB1 : Hid (Below (w.heap.size + 1) (w.alloc (.cells #[.int .i64 n, .slice (some ⟨b, off, none⟩) l.length cap, .slice a2 n2 cap2] 29)) w1) := hbA.out.trans (hb1.mono (by simp; omega)); clear hb1))
          go_roundw
          case rel => exact ⟨k + 1, p.id, by omega, by go_num, rfl, by omega, by omega, by rw [HR.out, HD.out]; rfl, HB1.out⟩
          case measure => simp [intOf]; omega
    · have hd : (cont l).drop k = [] := List.drop_of_length_le (by rw [cont_len]; omega)
      go_wp2
      go_ret
      exact ⟨by rw [HR.out, hd]; rfl, hB0⟩

set_option maxHeartbeats 2000000 in
theorem bagFits_any (n : Int) (v u : Value) (l : List Pk) (ws : List Int) (w : World) (hv : Pks w v l) (hu : Ix w u ws) :
    Calls Try.prog 38 #[.agg #[.int .i64 n, v, u]] w fun e w' => e = .returned (.bool (bagB n (cont l) ws)) ∧ Below w.heap.size w w' := by
  have HU : Hid (∀ w', Below w.heap.size w w' → Calls Try.prog 69 #[u, .int .i64 7] w' fun e w'' => e = .returned (.bool (riseB 7 0 ws)) ∧ w'' = w') := fun w' hb => serversRise_any u ws 7 w' (hu.below hb) (by omega) (by omega)
  obtain ⟨_, a2, cap2, rfl, _⟩ := hu
  have HV : Hid (1 ≤ n → n ≤ 1099511627776 → ∀ w', Below w.heap.size w w' → Calls Try.prog 68 #[.agg #[.int .i64 n, v, .slice a2 ws.length cap2]] w' fun e w'' => e = .returned (.bool (decide (l.length ≤ 4096) && pksB n 0 (cont l))) ∧ Below w'.heap.size w' w'') := fun h1 h2 w' hb => packetsFit_any n h1 h2 v a2 ws.length cap2 l w' (hv.below hb)
  obtain ⟨_, _, a, cap, rfl, _⟩ := hv
  have hb0 : Hid (Below w.heap.size w (w.alloc (.cells #[.int .i64 n, .slice a l.length cap, .slice a2 ws.length cap2] 29))) := (Below.refl _ _).alloc (Nat.le_refl _) _
  unfold bagB
  rw [cont_len]
  cases h1 : inB n 1 1099511627776
  · go_enter Try.func38, Try.ntmps38
    go_wp2_with (go_at_call 40; refine (within_any _ _ _ _).mono ?_; rintro e w1 ⟨rfl, hw⟩; subst hw; rw [h1])
    go_ret
    exact ⟨rfl, hb0.out⟩
  · have hni := (inB_iff _ _ _).1 h1
    cases h2 : (decide (l.length ≤ 4096) && pksB n 0 (cont l))
    · rw [h2] at HV
      go_enter Try.func38, Try.ntmps38
      go_wp2_with (first
        | (go_at_call 40; refine (within_any _ _ _ _).mono ?_; rintro e w1 ⟨rfl, hw⟩; subst hw; rw [h1])
        | (go_at_call 68; refine (HV.out hni.1 hni.2 _ hb0.out).mono ?_; rintro e w1 ⟨rfl, hb1⟩))
      go_ret
      exact ⟨rfl, hb0.out.trans (hb1.mono (by simp))⟩
    · rw [h2] at HV
      go_enter Try.func38, Try.ntmps38
      go_wp2_with (first
        | (go_at_call 40; refine (within_any _ _ _ _).mono ?_; rintro e w1 ⟨rfl, hw⟩; subst hw; rw [h1])
        | (go_at_call 68; refine (HV.out hni.1 hni.2 _ hb0.out).mono ?_; rintro e w1 ⟨rfl, hb1⟩; have hcc := (bcell hb1).1; have HB1 : Hid (Below w.heap.size w w1) := hb0.out.trans (hb1.mono (by simp)); clear hb1)
        | (go_at_call 69; refine (HU.out _ HB1.out).mono ?_; rintro e w2 ⟨rfl, rfl⟩))
      go_ret
      exact ⟨rfl, HB1.out⟩
end Go.Proofs.Ythondmpnleleiaa
