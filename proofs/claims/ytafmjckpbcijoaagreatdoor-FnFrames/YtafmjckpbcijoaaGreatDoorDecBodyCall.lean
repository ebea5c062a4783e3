/-
  impl.decodeBody at a body of one kind.
-/
import Derived.Test.YtafmjckpbcijoaaGreatDoorGround4
namespace Go.Proofs.YtafmjckpbcijoaaGreatDoor
open Go.RowKit
set_option linter.unusedVariables false
set_option linter.unusedSimpArgs false

theorem methF_call (X : Value) (w : World) : (method 300 66 X "loop.example/s01586/impl.fault").run Tryz.prog w = .ok (130, X) w := by kernel_rfl

set_option maxHeartbeats 4000000 in
set_option maxRecDepth 100000 in
theorem decodeBody_call (a : Option Addr) (len c : Nat) (l : List Int) (lo hi : Int) (w : World) (A : Nat → Addr) (B : Nat) (hs : Sents w A B) (hv : Bs w (.slice a len c) l) (hc : len ≤ c)
    (left : RSt) (f : Int) (P : Nat → World → Value → Prop)
    (hP : ∀ b w w' X, P b w X → w.grownBy w' (some b) → P b w' X)
    (hRead : ∀ b w D, Sents w A B → Rd w b A B D (some (l.drop 9)) → inB (l[8]?.getD 0) lo hi = true → Calls Tryz.prog 63 #[.int .i64 (l[8]?.getD 0), .pointer (some ⟨b, 0, none⟩)] w fun e w' => ∃ X, e = .returned (.iface 66 X) ∧ P b w' X ∧ Rd w' b A B D left ∧ w.grownBy w' (some b))
    (hFault : ∀ b w X, P b w X → Calls Tryz.prog 130 #[X] w fun e w' => e = .returned (.int .i64 f) ∧ Below w.heap.size w w') :
    Calls Tryz.prog 39 #[.slice a len c, .int .i64 lo, .int .i64 hi] w fun e w' =>
      ((decC l lo hi left f).1 = 0 → ∃ b X, w.heap.size ≤ b ∧ P b w' X ∧ e = .returned (.tuple #[.iface 66 X, .nilIface])) ∧
      ((decC l lo hi left f).1 ≠ 0 → e = .returned (.tuple #[.nilIface, refV (A (decC l lo hi left f).1) (decC l lo hi left f).2])) ∧ Below w.heap.size w w' := by
  have HO : Hid _ := openFrame_any a len c l w A B hs hv hc w.heap.size hv.lt
  have hd := fun h => (hv.drop hc hv.lt 8 h)
  have HR : ∀ b w D, Sents w A B → Rd w b A B D (some (l.drop 9)) → inB (l[8]?.getD 0) lo hi = true → Hid (Calls Tryz.prog 63 #[.int .i64 (l[8]?.getD 0), .pointer (some ⟨b, 0, none⟩)] w fun e w' => ∃ X, e = .returned (.iface 66 X) ∧ P b w' X ∧ Rd w' b A B D left ∧ w.grownBy w' (some b)) := hRead
  have HF : ∀ b w X, P b w X → Hid (Calls Tryz.prog 130 #[X] w fun e w' => e = .returned (.int .i64 f) ∧ Below w.heap.size w w') := hFault
  clear hRead hFault
  have el : len = l.length := by obtain ⟨_, _, _, _, e, _⟩ := hv; injection e
  subst el
  by_cases h1 : sumC l = 0
  · have hlen := sumC_len h1
    rw [if_pos h1] at HO
    obtain ⟨d1, a2, n2, c2, e2, hc2, _⟩ := hd (by omega)
    rw [e2] at d1 HO
    have HV : Hid (Bs w (.slice a2 n2 c2) (l.drop 8)) := d1
    have en : n2 = l.length - 8 := by
      obtain ⟨_, _, _, _, e, _⟩ := d1
      injection e with _ e _
      rw [e, List.length_drop]
    obtain ⟨hm, h8, a', c', e, hcell⟩ := d1
    injection e with e1' e2' e3'
    subst e1' e3'
    obtain ⟨b2, o2, rfl, hj⟩ := hcell 0 (by rw [List.length_drop]; omega)
    have k0 := hj 0 (by rw [List.length_drop]; omega)
    have hk8 : (l.drop 8)[0]?.getD 0 = l[8]?.getD 0 := by simp
    rw [hk8, Nat.add_zero] at k0
    have hkb := byte_at h8 0
    rw [hk8] at hkb
    clear hj hcell hd e2
    have hop : openC l lo hi = if inB (l[8]?.getD 0) lo hi = false then 4 else 0 := by simp [openC, h1]
    have HD : Hid (decC l lo hi left f = if openC l lo hi ≠ 0 then (openC l lo hi, 0) else if left ≠ some [] then (5, 0) else if f ≠ 0 then (6, f) else (0, 0)) := rfl
    generalize decC l lo hi left f = R at HD
    generalize l[8]?.getD 0 = K at *
    by_cases h4 : inB K lo hi = true
    · have hn1 : 1 ≤ n2 := by rw [en]; omega
      have hd9 := HV.out.drop hc2 HV.out.lt 1 (by rw [List.length_drop]; omega)
      rw [List.drop_drop] at hd9
      obtain ⟨a3, n3, c3, e3, hc3, hD3⟩ := hd9.2
      have t1 : ∀ wx, (Instr.slice 22 (.slice (some ⟨b2, o2, none⟩) n2 c2) (some (.int .i64 1)) none none).run Tryz.prog wx = .ok (sliced (some ⟨b2, o2, none⟩) 1 n2 c2 1) wx := slice_l _ n2 c2 1 hn1
      rw [e3] at t1 hd9
      have HB9 : Hid (Bs w (.slice a3 n3 c3) (l.drop 9)) := hd9.1
      clear e3 hd9
      have HRd : ∀ w1, Below w.heap.size w w1 → Sents (w1.alloc (.cells #[.slice a3 n3 c3, .nilIface] 105)) A B ∧ Rd (w1.alloc (.cells #[.slice a3 n3 c3, .nilIface] 105)) w1.heap.size A B (w1.heap.size + 1) (some (l.drop 9)) := fun w1 hb => by
        have hs1 := hs.below hb
        refine ⟨hs1.below ((Below.refl _ _).alloc (Nat.le_refl _) _), hs1.le, by omega, by simp, by simp, ⟨.slice a3 n3 c3, by simp, (HB9.out.below hb).below ((Below.refl _ _).alloc (Nat.le_refl _) _), ⟨_, _, _, rfl, hc3, fun hp => ?_⟩⟩, by simp⟩
        obtain ⟨x, rfl, hx⟩ := hD3 hp
        exact ⟨x, rfl, by have := hb.size; omega⟩
      clear en e2'
      have hop0 : openC l lo hi = 0 := by rw [hop, h4]; rfl
      rw [hop0] at HD
      have HE : ∀ b w D, Sents w A B → Rd w b A B D left → Hid (Calls Tryz.prog 64 #[.pointer (some ⟨b, 0, none⟩)] w fun e w' => e = .returned (endV A left) ∧ w.grownBy w' (some b)) := fun b w D hs h => end_any b w A B D left hs h
      by_cases hl : left = some []
      · have hev : endV A left = .nilIface := by rw [endV, if_pos hl]
        rw [hev] at HE
        by_cases hf : f = 0
        · have hR : R = (0, 0) := by rw [HD.out]; simp [hl, hf]
          subst hR
          subst hf
          have hM := methF_call
          go_enter Tryz.func39, Tryz.ntmps39
          go_wp2_with (first
            | (go_at_call 62; refine Calls.mono HO.out ?_; rintro e w1 ⟨rfl, hb⟩; have k1 := (hb.cell (p := ⟨b2, o2, none⟩) (cell_lt k0)).trans k0)
            | (go_at_call 52; refine (within_any _ _ _ _).mono ?_; rw [h4]; rintro e w2 ⟨rfl, rfl⟩)
            | (go_at_call 63; refine Calls.mono (HR _ _ _ (HRd _ hb).1 (HRd _ hb).2 h4).out ?_; rintro e w3 ⟨X, rfl, hX, hrd, hg⟩; have hB3 : Below w.heap.size w w3 := (hb.trans ((Below.refl _ _).alloc hb.size _)).trans (grown_below hg hb.size (by have := hb.size; simp; omega)); have hs3 := hs.below hB3)
            | (go_at_call 64; refine Calls.mono (HE _ _ _ hs3 hrd).out ?_; rintro e w4 ⟨rfl, hg4⟩; have hB4 := hB3.trans (grown_below hg4 hb.size hB3.size); have hX4 := hP _ _ _ _ hX hg4)
            | (go_at_call 130; refine Calls.mono (HF _ _ _ hX4).out ?_; rintro e w5 ⟨rfl, hb5⟩; have hB5 := hB4.trans (hb5.mono hB4.size); have hX5 := hP _ _ _ _ hX4 (grown_of_below hb5 _); have g6 := (hs.below hB5).g6))
          go_ret2
          exact ⟨fun _ => ⟨_, X, hb.size, hX5, rfl⟩, fun h => absurd rfl h, hB5⟩
        · have hR : R = (6, f) := by rw [HD.out]; simp [hl, hf]
          subst hR
          have nf : (f != 0) = true := by simpa using hf
          have hM := methF_call
          go_enter Tryz.func39, Tryz.ntmps39
          go_wp2_with (first
            | (go_at_call 62; refine Calls.mono HO.out ?_; rintro e w1 ⟨rfl, hb⟩; have k1 := (hb.cell (p := ⟨b2, o2, none⟩) (cell_lt k0)).trans k0)
            | (go_at_call 52; refine (within_any _ _ _ _).mono ?_; rw [h4]; rintro e w2 ⟨rfl, rfl⟩)
            | (go_at_call 63; refine Calls.mono (HR _ _ _ (HRd _ hb).1 (HRd _ hb).2 h4).out ?_; rintro e w3 ⟨X, rfl, hX, hrd, hg⟩; have hB3 : Below w.heap.size w w3 := (hb.trans ((Below.refl _ _).alloc hb.size _)).trans (grown_below hg hb.size (by have := hb.size; simp; omega)); have hs3 := hs.below hB3)
            | (go_at_call 64; refine Calls.mono (HE _ _ _ hs3 hrd).out ?_; rintro e w4 ⟨rfl, hg4⟩; have hB4 := hB3.trans (grown_below hg4 hb.size hB3.size); have hX4 := hP _ _ _ _ hX hg4)
            | (go_at_call 130; refine Calls.mono (HF _ _ _ hX4).out ?_; rintro e w5 ⟨rfl, hb5⟩; have hB5 := hB4.trans (hb5.mono hB4.size); have hX5 := hP _ _ _ _ hX4 (grown_of_below hb5 _); have g6 := (hs.below hB5).g6))
          go_quiet (fail)
          go_wp2
          go_ret2
          exact ⟨fun h => absurd h (by decide), fun _ => rfl, ⟨hB5.os, hB5.tape, hB5.output, hB5.size, hB5.block⟩⟩
      · have hev : endV A left = refV (A 5) 0 := by rw [endV, if_neg hl]
        rw [hev] at HE
        have hR : R = (5, 0) := by rw [HD.out]; simp [hl]
        subst hR
        go_enter Tryz.func39, Tryz.ntmps39
        go_wp2_with (first
          | (go_at_call 62; refine Calls.mono HO.out ?_; rintro e w1 ⟨rfl, hb⟩; have k1 := (hb.cell (p := ⟨b2, o2, none⟩) (cell_lt k0)).trans k0)
          | (go_at_call 52; refine (within_any _ _ _ _).mono ?_; rw [h4]; rintro e w2 ⟨rfl, rfl⟩)
          | (go_at_call 63; refine Calls.mono (HR _ _ _ (HRd _ hb).1 (HRd _ hb).2 h4).out ?_; rintro e w3 ⟨X, rfl, hX, hrd, hg⟩; have hB3 : Below w.heap.size w w3 := (hb.trans ((Below.refl _ _).alloc hb.size _)).trans (grown_below hg hb.size (by have := hb.size; simp; omega)); have hs3 := hs.below hB3)
          | (go_at_call 64; refine Calls.mono (HE _ _ _ hs3 hrd).out ?_; rintro e w4 ⟨rfl, hg4⟩; have hB4 := hB3.trans (grown_below hg4 hb.size hB3.size)))
        go_ret2
        exact ⟨fun h => absurd h (by decide), fun _ => rfl, hB4⟩
    · have h4' : inB K lo hi = false := by simpa using h4
      have hR : R = (4, 0) := by rw [HD.out, hop, h4']; rfl
      subst hR
      have g4 := hs.g4
      go_enter Tryz.func39, Tryz.ntmps39
      go_wp2_with (first
        | (go_at_call 62; refine Calls.mono HO.out ?_; rintro e w1 ⟨rfl, hb⟩; have k1 := (hb.cell (p := ⟨b2, o2, none⟩) (cell_lt k0)).trans k0; have g4' := (hs.below hb).g4)
        | (go_at_call 52; refine (within_any _ _ _ _).mono ?_; rw [h4']; rintro e w2 ⟨rfl, rfl⟩))
      go_quiet (fail)
      go_wp2
      go_ret2
      exact ⟨fun h => absurd h (by decide), fun _ => rfl, ⟨hb.os, hb.tape, hb.output, hb.size, hb.block⟩⟩
  · have hop : openC l lo hi = sumC l := by simp [openC, h1]
    have hR : decC l lo hi left f = (sumC l, 0) := by rw [decC, hop, if_pos h1]
    rw [hR]
    rw [if_neg h1] at HO
    go_enter Tryz.func39, Tryz.ntmps39
    go_wp2_with (go_at_call 62; refine Calls.mono HO.out ?_; rintro e w1 ⟨rfl, hb⟩)
    go_ret2
    exact ⟨fun h => absurd h h1, fun _ => rfl, hb⟩
end Go.Proofs.YtafmjckpbcijoaaGreatDoor
