/-
  spec.l1src in memory; spec.l1next, spec.l1pick: the draws out of a code.
-/
import Derived.Test.YtafmjckpbcijoaaGreatDoorGround
namespace Go.Proofs.YtafmjckpbcijoaaGreatDoor
open Go.RowKit
set_option linter.unusedVariables false

/-- the source in block g over the bytes l has given k of them -/
def Src (w : World) (g : Nat) (v : Value) (l : List Int) (k : Nat) : Prop :=
  g < w.heap.size ∧ (∀ i, w.frozen? ⟨g, i, none⟩ = false) ∧ Bs w v l ∧ w.cell? ⟨g, 0, none⟩ = some v ∧ w.cell? ⟨g, 1, none⟩ = some (.int .i64 k)

theorem src_set {w : World} {v : Value} {l : List Int} (h : Bs w v l) {b i : Nat} {x : Value} (hx : w.cell? ⟨b, i, none⟩ = some x) (hn : ∀ n, x ≠ .int .u8 n) (y : Value) : Bs (w.setCell ⟨b, i, none⟩ y) v l := by
  obtain ⟨hl, h8, a, cap, rfl, hc⟩ := h
  refine ⟨hl, h8, a, cap, rfl, fun j hj => ?_⟩
  obtain ⟨b', off, rfl, hj'⟩ := hc j hj
  refine ⟨b', off, rfl, fun m hm => ?_⟩
  have hcm := hj' m hm
  by_cases e : (⟨b, i, none⟩ : Addr) = ⟨b', off + m, none⟩
  · rw [← e, hx] at hcm
    injection hcm with hcm
    exact absurd hcm (hn _)
  · rw [World.cell?_setCell_other w _ _ _ e]; exact hcm

theorem Src.start (w : World) (v : Value) (l : List Int) (h : Bs w v l) (T : Nat) : Src (w.alloc (.cells #[v, .int .i64 0] T)) w.heap.size v l 0 := by
  refine ⟨by simp, fun i => by simp, h.below ((Below.refl _ _).alloc (Nat.le_refl _) _), ?_, ?_⟩ <;> rw [World.cell?_alloc_new] <;> rfl

theorem World.grownBy.trans' {w w1 w2 : World} {row : Option Nat} (h : w.grownBy w1 row) (k : w1.grownBy w2 row) : w.grownBy w2 row :=
  ⟨k.os.trans h.os, k.tape.trans h.tape, k.output.trans h.output, Nat.le_trans h.size k.size, fun i hi hne => (k.block i (Nat.lt_of_lt_of_le hi h.size) hne).trans (h.block i hi hne)⟩

/-- what the source gives at place k -/
def nextV (l : List Int) (k : Nat) : Int := if k < l.length then l[k]?.getD 0 else (((k * 167 + k / 3 * 41 + l.length * 29) % 256 : Nat) : Int)
theorem nextV_byte {l : List Int} (h : ∀ x ∈ l, 0 ≤ x ∧ x ≤ 255) (k : Nat) : 0 ≤ nextV l k ∧ nextV l k ≤ 255 := by
  unfold nextV
  split
  · exact byte_at h k
  · omega

set_option maxHeartbeats 2000000 in
set_option maxRecDepth 100000 in
theorem l1next_any (g : Nat) (w : World) (v : Value) (l : List Int) (k : Nat) (hL : l.length ≤ 1048576) (hk : k ≤ 1000000000) (h : Src w g v l k) :
    Calls Tryz.prog 50 #[.pointer (some ⟨g, 0, none⟩)] w fun e w' => e = .returned (.int .i64 (nextV l k)) ∧ Src w' g v l (k + 1) ∧ w.grownBy w' (some g) := by
  obtain ⟨hg, hf, hb, h0, h1⟩ := h
  have HE : ∀ m, Hid (Src ((w.drewN m).setCell ⟨g, 1, none⟩ (.int .i64 ((k + 1 : Nat) : Int))) g v l (k + 1) ∧ w.grownBy ((w.drewN m).setCell ⟨g, 1, none⟩ (.int .i64 ((k + 1 : Nat) : Int))) (some g)) := fun m => by
    refine ⟨⟨by simpa [World.setCell] using hg, fun i => ?_, src_set (w := w.drewN m) hb h1 (by intro n; simp) _, ?_, World.cell?_setCell_same (w.drewN m) _ _ h1⟩, ?_⟩
    · rw [World.frozen?_setCell]; exact hf i
    · rw [World.cell?_setCell_other _ _ _ _ (by intro h; injection h with _ h2 _; cases h2)]; exact h0
    · exact ⟨rfl, rfl, rfl, by simp [World.setCell], fun j _ hj => Below.heap_setCell _ _ _ _ (fun e => hj (by rw [e]))⟩
  have hf1 := hf 1
  have hby := nextV_byte hb.2.1 k
  obtain ⟨hl, h8, a, cap, rfl, hc⟩ := hb
  by_cases hlt : k < l.length
  · have hn : nextV l k = l[k]?.getD 0 := by unfold nextV; rw [if_pos hlt]
    rw [hn] at hby ⊢
    obtain ⟨b, off, rfl, hcell⟩ := hc k hlt
    have hck := hcell k hlt
    have hlt' : (k : Int) < (l.length : Int) := by omega
    clear hcell hc h8 hf hn
    generalize l[k]?.getD 0 = cc at hck hby ⊢
    obtain ⟨y0, y1⟩ := hby
    go_enter Tryz.func50, Tryz.ntmps50
    go_wp2
    go_quiet (fail)
    go_wp2
    go_quiet (fail)
    go_wp2
    go_ret
    exact ⟨rfl, (HE _).out.1, (HE _).out.2⟩
  · have hn : nextV l k = (((k * 167 + k / 3 * 41 + l.length * 29) % 256 : Nat) : Int) := by unfold nextV; rw [if_neg hlt]
    rw [hn] at hby ⊢
    have hlt' : ¬ (k : Int) < (l.length : Int) := by omega
    clear hc h8 hf
    go_enter Tryz.func50, Tryz.ntmps50
    go_wp2
    go_quiet (fail)
    go_wp2
    go_quiet (fail)
    go_wp2
    go_ret
    exact ⟨by simp, (HE _).out.1, (HE _).out.2⟩

/-- how many bytes a pick takes, and what it is -/
def pickK (n : Nat) : Nat := if n ≤ 256 then 1 else if n ≤ 65536 then 2 else 4
def pickX (l : List Int) (k n : Nat) : Int := if n ≤ 256 then nextV l k else if n ≤ 65536 then nextV l k * 256 + nextV l (k + 1) else (nextV l k * 256 + nextV l (k + 1)) * 65536 + nextV l (k + 1 + 1) * 256 + nextV l (k + 1 + 1 + 1)
def pickV (l : List Int) (k n : Nat) : Nat := (pickX l k n).toNat % n
theorem pickV_lt (l : List Int) (k n : Nat) (hn : 0 < n) : pickV l k n < n := Nat.mod_lt _ hn
theorem pickK_le (n : Nat) : pickK n ≤ 4 := by unfold pickK; split <;> (try split) <;> omega

theorem toNat_mod (x : Int) (n : Nat) (h : 0 ≤ x) : ((x.toNat % n : Nat) : Int) = x % (n : Int) := by rw [Int.natCast_emod, Int.toNat_of_nonneg h]

theorem Src.byte {w : World} {g : Nat} {v : Value} {l : List Int} {k : Nat} (h : Src w g v l k) (j : Nat) : 0 ≤ nextV l j ∧ nextV l j ≤ 255 := nextV_byte h.2.2.1.2.1 j

set_option maxHeartbeats 2000000 in
set_option maxRecDepth 100000 in
theorem l1pick_any (g : Nat) (w : World) (v : Value) (l : List Int) (k n : Nat) (hL : l.length ≤ 1048576) (hk : k ≤ 900000000) (hn : 0 < n) (hN : n ≤ 4294967296) (h : Src w g v l k) :
    Calls Tryz.prog 23 #[.pointer (some ⟨g, 0, none⟩), .int .i64 n] w fun e w' => e = .returned (.int .i64 (pickV l k n : Nat)) ∧ Src w' g v l (k + pickK n) ∧ w.grownBy w' (some g) := by
  have b0 := h.byte k
  have b1 := h.byte (k + 1)
  have b2 := h.byte (k + 1 + 1)
  have b3 := h.byte (k + 1 + 1 + 1)
  have HS : Hid (Src w g v l k) := h
  have HG : Hid (w.grownBy w (some g)) := ⟨rfl, rfl, rfl, Nat.le_refl _, fun _ _ _ => rfl⟩
  have g0 : True := trivial
  have g1 : True := trivial
  have g2 : True := trivial
  clear h
  by_cases h1 : n ≤ 256
  · have hv : (pickV l k n : Int) = nextV l k % (n : Int) := by
      unfold pickV pickX
      rw [if_pos h1]
      exact toNat_mod _ _ b0.1
    have hkk : pickK n = 1 := by unfold pickK; rw [if_pos h1]
    rw [hv, hkk]
    have hgt : ¬ (256 : Int) < n := by omega
    go_enter Tryz.func23, Tryz.ntmps23
    go_wp2_with (go_at_call 50; refine (l1next_any g _ v l _ hL (by omega) HS.out).mono ?_; rintro e w1 ⟨rfl, hs1, hg1⟩; replace HS : Hid (Src w1 g v l (k + 1)) := hs1; replace HG : Hid (w.grownBy w1 (some g)) := hg1; clear hs1 hg1; obtain ⟨c0, c1⟩ := b0)
    go_ret
    exact ⟨by simp, HS.out, HG.out⟩
  · by_cases h2 : n ≤ 65536
    · have hv : (pickV l k n : Int) = (nextV l k * 256 + nextV l (k + 1)) % (n : Int) := by
        unfold pickV pickX
        rw [if_neg h1, if_pos h2]
        exact toNat_mod _ _ (by omega)
      have hkk : pickK n = 1 + 1 := by unfold pickK; rw [if_neg h1, if_pos h2]
      rw [hv, hkk]
      have hgt : (256 : Int) < n := by omega
      have hgt2 : ¬ (65536 : Int) < n := by omega
      go_enter Tryz.func23, Tryz.ntmps23
      go_wp2_with (first
        | (go_at_call 50; clear g0; refine (l1next_any g _ v l k hL (by omega) HS.out).mono ?_; rintro e w1 ⟨rfl, hs1, hg1⟩; replace HS : Hid (Src w1 g v l (k + 1)) := hs1; replace HG : Hid (w.grownBy w1 (some g)) := hg1; clear hs1 hg1; obtain ⟨c0, c1⟩ := b0)
        | (go_at_call 50; refine (l1next_any g _ v l (k + 1) hL (by omega) HS.out).mono ?_; rintro e w2 ⟨rfl, hs1, hg1⟩; have HS2 : Hid (Src w2 g v l (k + 1 + 1)) := hs1; have HG2 : Hid (w.grownBy w2 (some g)) := World.grownBy.trans' HG.out hg1; clear hs1 hg1; obtain ⟨c2, c3⟩ := b1))
      go_ret
      exact ⟨by simp, HS2.out, HG2.out⟩
    · have hv : (pickV l k n : Int) = ((nextV l k * 256 + nextV l (k + 1)) * 65536 + nextV l (k + 1 + 1) * 256 + nextV l (k + 1 + 1 + 1)) % (n : Int) := by
        unfold pickV pickX
        rw [if_neg h1, if_neg h2]
        exact toNat_mod _ _ (by omega)
      have hkk : pickK n = 1 + 1 + 1 + 1 := by unfold pickK; rw [if_neg h1, if_neg h2]
      rw [hv, hkk]
      have hgt : (256 : Int) < n := by omega
      have hgt2 : (65536 : Int) < n := by omega
      go_enter Tryz.func23, Tryz.ntmps23
      go_wp2_with (first
        | (go_at_call 50; clear g0; refine (l1next_any g _ v l k hL (by omega) HS.out).mono ?_; rintro e w1 ⟨rfl, hs1, hg1⟩; replace HS : Hid (Src w1 g v l (k + 1)) := hs1; replace HG : Hid (w.grownBy w1 (some g)) := hg1; clear hs1 hg1; obtain ⟨c0, c1⟩ := b0)
        | (go_at_call 50; clear g1; refine (l1next_any g _ v l (k + 1) hL (by omega) HS.out).mono ?_; rintro e w2 ⟨rfl, hs1, hg1⟩; have HS2 : Hid (Src w2 g v l (k + 1 + 1)) := hs1; have HG2 : Hid (w.grownBy w2 (some g)) := World.grownBy.trans' HG.out hg1; clear hs1 hg1; obtain ⟨c2, c3⟩ := b1)
        | (go_at_call 50; clear g2; refine (l1next_any g _ v l (k + 1 + 1) hL (by omega) HS2.out).mono ?_; rintro e w3 ⟨rfl, hs1, hg1⟩; have HS3 : Hid (Src w3 g v l (k + 1 + 1 + 1)) := hs1; have HG3 : Hid (w.grownBy w3 (some g)) := World.grownBy.trans' HG2.out hg1; clear hs1 hg1; obtain ⟨c4, c5⟩ := b2)
        | (go_at_call 50; refine (l1next_any g _ v l (k + 1 + 1 + 1) hL (by omega) HS3.out).mono ?_; rintro e w4 ⟨rfl, hs1, hg1⟩; have HS4 : Hid (Src w4 g v l (k + 1 + 1 + 1 + 1)) := hs1; have HG4 : Hid (w.grownBy w4 (some g)) := World.grownBy.trans' HG3.out hg1; clear hs1 hg1; obtain ⟨c6, c7⟩ := b3))
      go_ret
      exact ⟨by simp, HS4.out, HG4.out⟩

end Go.Proofs.YtafmjckpbcijoaaGreatDoor
