/-
  laws.eqPacket, eqPacketS.
-/
import Derived.Test.YthondmpnleleiaaPkSz
import Derived.Deep.RegionHeld3
namespace Go.Proofs.Ythondmpnleleiaa
open Go.RowKit
set_option linter.unusedVariables false
set_option linter.unusedSimpArgs false

set_option maxHeartbeats 2000000 in
set_option maxRecDepth 100000 in
theorem eqPacket_same (i f t : Int) (a a' : Option Addr) (n n' cap cap' : Nat) (l : List Int) (w : World) (hv : Bs w (.slice a n cap) l) (hu : Bs w (.slice a' n' cap') l) :
    Calls Try.prog 63 #[.agg #[.int .i64 i, .int .i64 f, .int .i64 t, .slice a n cap], .agg #[.int .i64 i, .int .i64 f, .int .i64 t, .slice a' n' cap']] w fun e w' => e = .returned (.bool true) ∧ Below w.heap.size w w' := by
  have HT : Hid (∀ w', Below w.heap.size w w' → Calls Try.prog 18 #[.slice a n cap, .slice a' n' cap'] w' fun e w'' => e = .returned (.bool true) ∧ Below w'.heap.size w' w'') := fun w' hb => eqByteS_same _ _ l w' (hv.below hb) (hu.below hb)
  have hb0 : Hid (Below w.heap.size w ((w.alloc (.cells #[.int .i64 i, .int .i64 f, .int .i64 t, .slice a n cap] 48)).alloc (.cells #[.int .i64 i, .int .i64 f, .int .i64 t, .slice a' n' cap'] 48))) := ((Below.refl _ _).alloc (Nat.le_refl _) _).alloc (by simp) _
  clear hv hu
  go_enter Try.func63, Try.ntmps63
  go_wp2_with (go_at_call 18; refine (HT.out _ hb0.out).mono ?_; rintro e w1 ⟨rfl, hb1⟩)
  go_ret
  exact ⟨rfl, hb0.out.trans (hb1.mono (by simp; omega))⟩

set_option maxHeartbeats 4000000 in
set_option maxRecDepth 100000 in
theorem eqPacketS_same (v u : Value) (l L : List Pk) (w : World) (hv : Pks w v l) (hu : Pks w u L) (hc : cont l = cont L) :
    Calls Try.prog 42 #[v, u] w fun r w' => r = .returned (.bool true) ∧ Below w.heap.size w w' := by
  have HV : Hid (Pks w v l) := hv
  have HU : Hid (Pks w u L) := hu
  have hll : l.length = L.length := by rw [← cont_len l, hc, cont_len]
  obtain ⟨hl, _, a, cap, rfl, hca⟩ := hv
  obtain ⟨_, _, a', cap', rfl, hca'⟩ := hu
  rw [← hll]
  unfold maxLen at hl
  have HLL : Hid (l.length = L.length) := hll
  clear hll
  go_enter Try.func42, Try.ntmps42
  go_wp2
  go_loopw [5] (fun i wr => ∃ k : Nat, k ≤ l.length ∧ i = .int .i64 k ∧ Below w.heap.size w wr) (fun i _ => l.length - (intOf i).toNat)
  case atStart => exact ⟨0, Nat.zero_le _, rfl, Below.refl _ _⟩
  case round =>
    obtain ⟨k, hk, rfl, hB⟩ := hrel
    have hsz := hB.size
    by_cases hlt : k < l.length
    · have hlt' : k < L.length := by have := HLL.out; omega
      obtain ⟨b, off, rfl, hcell⟩ := hca k hlt
      obtain ⟨b', off', rfl, hcell'⟩ := hca' k hlt'
      obtain ⟨c0, c1, c2, c3⟩ := (hcell k hlt).below hB
      obtain ⟨e0, e1, e2, e3⟩ := (hcell' k hlt').below hB
      have hbs : Bs wr l[k].2 l[k].1.bs := (HV.out.bs k hlt).below hB
      have hbu : Bs wr L[k].2 L[k].1.bs := (HU.out.bs k hlt').below hB
      have hcc : l[k].1 = L[k].1 := by
        have h1 : (cont l)[k]? = some l[k].1 := by simp [cont, hlt]
        have h2 : (cont L)[k]? = some L[k].1 := by simp [cont, hlt']
        rw [hc, h2] at h1
        injection h1 with h1
        exact h1.symm
      rw [← hcc] at e0 e1 e2 hbu
      obtain ⟨x, cx, ex⟩ := hbs.sh
      obtain ⟨y, cy, ey⟩ := hbu.sh
      rw [ex] at c3 hbs
      rw [ey] at e3 hbu
      have HQ : Hid (∀ w', Below wr.heap.size wr w' → Calls Try.prog 63 #[.agg #[.int .i64 l[k].1.id, .int .i64 l[k].1.fr, .int .i64 l[k].1.to, .slice x l[k].1.bs.length cx], .agg #[.int .i64 l[k].1.id, .int .i64 l[k].1.fr, .int .i64 l[k].1.to, .slice y l[k].1.bs.length cy]] w' fun e w'' => e = .returned (.bool true) ∧ Below w'.heap.size w' w'') := fun w' hb => eqPacket_same _ _ _ _ _ _ _ _ _ _ w' (hbs.below hb) (hbu.below hb)
      have hbl := cell_lt (hcell k hlt).1
      have hbl' := cell_lt (hcell' k hlt').1
      clear hcell hcell' hca hca' ex ey hbs hbu hcc hc
      generalize l[k].1 = p at *
      go_wp2
      go_region_held3 (fun w' => w'.cell? ⟨b, off + k * 4, none⟩ = some (.int .i64 p.id) ∧ w'.cell? ⟨b, off + k * 4 + 1, none⟩ = some (.int .i64 p.fr) ∧ w'.cell? ⟨b, off + k * 4 + 2, none⟩ = some (.int .i64 p.to) ∧ w'.cell? ⟨b, off + k * 4 + 3, none⟩ = some (.slice x p.bs.length cx) ∧ w'.cell? ⟨b', off' + k * 4, none⟩ = some (.int .i64 p.id) ∧ w'.cell? ⟨b', off' + k * 4 + 1, none⟩ = some (.int .i64 p.fr) ∧ w'.cell? ⟨b', off' + k * 4 + 2, none⟩ = some (.int .i64 p.to) ∧ w'.cell? ⟨b', off' + k * 4 + 3, none⟩ = some (.slice y p.bs.length cy)) (simp [*, go_sem])
        (first
          | (go_at_call 63; refine (HQ.out _ ((Below.refl _ _).drew)).mono ?_; rintro r w1 ⟨rfl, hb⟩; have q1 := fun (o : Nat) => hb.cell (p := ⟨b, o, none⟩) (show b < wr.heap.size by omega); have q2 := fun (o : Nat) => hb.cell (p := ⟨b', o, none⟩) (show b' < wr.heap.size by omega)))
      all_goals go_wp2
      go_roundw
      case rel => exact ⟨k + 1, by omega, by go_num, hB.trans (((Below.refl _ _).drew).trans (hb.mono hsz))⟩
      case measure => simp [intOf]; omega
    · go_wp2
      go_ret
      exact ⟨rfl, hB⟩
end Go.Proofs.Ythondmpnleleiaa
