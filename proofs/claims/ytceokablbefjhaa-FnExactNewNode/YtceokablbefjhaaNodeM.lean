/-
  laws.markNode, laws.heldNode at a node whose lists, but for the log, are none.
-/
import Derived.Test.YtceokablbefjhaaMarkOwn
namespace Go.Proofs.Ytceokablbefjhaa
open Go.RowKit
set_option linter.unusedVariables false
set_option linter.unusedSimpArgs false

theorem markIntS_none (k : Int) (w : World) : Calls Try.prog 71 #[.slice none 0 0, .int .i64 k] w fun r w' => r = .returned (.int .i64 k) ∧ w' = w := by
  go_enter Try.func71, Try.ntmps71
  go_wp2
  go_loopw [1, 5] (fun c i wr => c = .int .i64 k ∧ i = .int .i64 0 ∧ wr = w) (fun _ _ _ => 0)
  case atStart => exact ⟨rfl, rfl, rfl⟩
  case round =>
    obtain ⟨rfl, rfl, rfl⟩ := hrel
    go_wp2
    go_ret
    exact ⟨rfl, rfl⟩
theorem heldIntS_none (k : Int) (w : World) : Calls Try.prog 73 #[.slice none 0 0, .int .i64 k] w fun r w' => r = .returned (.int .i64 k) ∧ w' = w := by
  go_enter Try.func73, Try.ntmps73
  go_wp2
  go_loopw [1, 5] (fun c i wr => c = .int .i64 k ∧ i = .int .i64 0 ∧ wr = w) (fun _ _ _ => 0)
  case atStart => exact ⟨rfl, rfl, rfl⟩
  case round =>
    obtain ⟨rfl, rfl, rfl⟩ := hrel
    go_wp2
    go_ret
    exact ⟨rfl, rfl⟩

set_option maxHeartbeats 4000000 in
set_option maxRecDepth 100000 in
theorem markNode_r (i0 i1 i2 i3 i4 i5 i6 i7 i8 i9 i10 i11 : Int) (a : Option Addr) (cap : Nat) (w : World) {lo hi : Nat} (l : List Ent) (ho : EntsR lo hi w (.slice a l.length cap) l) (hhi : hi ≤ w.heap.size) (hn : l.length ≤ 1048576) :
    Calls Try.prog 38 #[.agg #[.int .i64 i0, .int .i64 i1, .int .i64 i2, .int .i64 i3, .int .i64 i4, .int .i64 i5, .int .i64 i6, .int .i64 i7, .int .i64 i8, .int .i64 i9, .int .i64 i10, .int .i64 i11, .slice a l.length cap, .slice none 0 0, .slice none 0 0, .slice none 0 0, .slice none 0 0, .slice none 0 0], .int .i64 1] w fun r w' => r = .returned (.int .i64 ((1 + 7 * l.length : Nat) : Int)) ∧ EntsM lo hi w' a l.length ∧ Turned lo hi w w' := by
  have hT : Hid (Turned lo hi w (w.alloc (.cells #[.int .i64 i0, .int .i64 i1, .int .i64 i2, .int .i64 i3, .int .i64 i4, .int .i64 i5, .int .i64 i6, .int .i64 i7, .int .i64 i8, .int .i64 i9, .int .i64 i10, .int .i64 i11, .slice a l.length cap, .slice none 0 0, .slice none 0 0, .slice none 0 0, .slice none 0 0, .slice none 0 0] 61))) := Turned.of_below lo hi ((Below.refl _ _).alloc (Nat.le_refl _) _)
  have HO : Hid (EntsR lo hi (w.alloc (.cells #[.int .i64 i0, .int .i64 i1, .int .i64 i2, .int .i64 i3, .int .i64 i4, .int .i64 i5, .int .i64 i6, .int .i64 i7, .int .i64 i8, .int .i64 i9, .int .i64 i10, .int .i64 i11, .slice a l.length cap, .slice none 0 0, .slice none 0 0, .slice none 0 0, .slice none 0 0, .slice none 0 0] 61)) (.slice a l.length cap) l) := ho.keep fun k _ k2 => Below.heap_alloc w _ k (by omega)
  clear ho
  go_enter Try.func38, Try.ntmps38
  go_wp2_with (first
    | (go_at_call 86; refine (markEntryS_r a cap _ l HO.out hn).mono ?_; rintro e w1 ⟨rfl, hM, hG⟩; have c13 : w1.cell? ⟨w.heap.size, 13, none⟩ = some (.slice none 0 0) := (hG.cell (b := w.heap.size) (o := 13) (by simp) (by omega)).trans (by simp [go_sem]); have c14 : w1.cell? ⟨w.heap.size, 14, none⟩ = some (.slice none 0 0) := (hG.cell (b := w.heap.size) (o := 14) (by simp) (by omega)).trans (by simp [go_sem]); have c15 : w1.cell? ⟨w.heap.size, 15, none⟩ = some (.slice none 0 0) := (hG.cell (b := w.heap.size) (o := 15) (by simp) (by omega)).trans (by simp [go_sem]); have c16 : w1.cell? ⟨w.heap.size, 16, none⟩ = some (.slice none 0 0) := (hG.cell (b := w.heap.size) (o := 16) (by simp) (by omega)).trans (by simp [go_sem]); have c17 : w1.cell? ⟨w.heap.size, 17, none⟩ = some (.slice none 0 0) := (hG.cell (b := w.heap.size) (o := 17) (by simp) (by omega)).trans (by simp [go_sem]); have HM : Hid (EntsM lo hi w1 a l.length) := hM; have HT : Hid (Turned lo hi w w1) := hT.out.trans hG; clear hM hG)
    | (go_at_call 71; refine (markIntS_none _ _).mono ?_; rintro e w2 ⟨rfl, hw⟩; obtain rfl := hw.symm; clear hw))
  go_ret
  exact ⟨rfl, HM.out, HT.out⟩

set_option maxHeartbeats 4000000 in
set_option maxRecDepth 100000 in
theorem heldNode_m (i0 i1 i2 i3 i4 i5 i6 i7 i8 i9 i10 i11 : Int) (a : Option Addr) (n cap : Nat) (w : World) {lo hi : Nat} (hm : EntsM lo hi w a n) (hhi : hi ≤ w.heap.size) (hn : n ≤ 1048576) :
    Calls Try.prog 39 #[.agg #[.int .i64 i0, .int .i64 i1, .int .i64 i2, .int .i64 i3, .int .i64 i4, .int .i64 i5, .int .i64 i6, .int .i64 i7, .int .i64 i8, .int .i64 i9, .int .i64 i10, .int .i64 i11, .slice a n cap, .slice none 0 0, .slice none 0 0, .slice none 0 0, .slice none 0 0, .slice none 0 0], .int .i64 1] w fun r w' => r = .returned (.int .i64 ((1 + 7 * n : Nat) : Int)) ∧ Below w.heap.size w w' := by
  have HM : Hid (EntsM lo hi (w.alloc (.cells #[.int .i64 i0, .int .i64 i1, .int .i64 i2, .int .i64 i3, .int .i64 i4, .int .i64 i5, .int .i64 i6, .int .i64 i7, .int .i64 i8, .int .i64 i9, .int .i64 i10, .int .i64 i11, .slice a n cap, .slice none 0 0, .slice none 0 0, .slice none 0 0, .slice none 0 0, .slice none 0 0] 61)) a n) := hm.keep fun k _ k2 => Below.heap_alloc w _ k (by omega)
  have hB0 : Hid (Below w.heap.size w (w.alloc (.cells #[.int .i64 i0, .int .i64 i1, .int .i64 i2, .int .i64 i3, .int .i64 i4, .int .i64 i5, .int .i64 i6, .int .i64 i7, .int .i64 i8, .int .i64 i9, .int .i64 i10, .int .i64 i11, .slice a n cap, .slice none 0 0, .slice none 0 0, .slice none 0 0, .slice none 0 0, .slice none 0 0] 61))) := (Below.refl _ _).alloc (Nat.le_refl _) _
  clear hm
  go_enter Try.func39, Try.ntmps39
  go_wp2_with (first
    | (go_at_call 95; refine (heldEntryS_m a n cap _ HM.out hn).mono ?_; rintro e w1 ⟨rfl, hb⟩; have c13 : w1.cell? ⟨w.heap.size, 13, none⟩ = some (.slice none 0 0) := (hb.cell (p := ⟨w.heap.size, 13, none⟩) (by simp)).trans (by simp [go_sem]); have c14 : w1.cell? ⟨w.heap.size, 14, none⟩ = some (.slice none 0 0) := (hb.cell (p := ⟨w.heap.size, 14, none⟩) (by simp)).trans (by simp [go_sem]); have c15 : w1.cell? ⟨w.heap.size, 15, none⟩ = some (.slice none 0 0) := (hb.cell (p := ⟨w.heap.size, 15, none⟩) (by simp)).trans (by simp [go_sem]); have c16 : w1.cell? ⟨w.heap.size, 16, none⟩ = some (.slice none 0 0) := (hb.cell (p := ⟨w.heap.size, 16, none⟩) (by simp)).trans (by simp [go_sem]); have c17 : w1.cell? ⟨w.heap.size, 17, none⟩ = some (.slice none 0 0) := (hb.cell (p := ⟨w.heap.size, 17, none⟩) (by simp)).trans (by simp [go_sem]); have HB : Hid (Below w.heap.size w w1) := hB0.out.trans (hb.mono (by simp)); clear hb)
    | (go_at_call 73; refine (heldIntS_none _ _).mono ?_; rintro e w2 ⟨rfl, hw⟩; obtain rfl := hw.symm; clear hw))
  go_ret
  exact ⟨rfl, HB.out⟩
end Go.Proofs.Ytceokablbefjhaa
