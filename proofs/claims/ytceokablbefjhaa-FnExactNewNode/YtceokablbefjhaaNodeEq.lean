/-
  Two nodes, field by field.
-/
import Derived.Test.YtceokablbefjhaaEntsU
import Derived.Test.YtceokablbefjhaaIntsU
namespace Go.Proofs.Ytceokablbefjhaa
open Go.RowKit
set_option linter.unusedVariables false
set_option linter.unusedSimpArgs false

set_option maxHeartbeats 4000000 in
set_option maxRecDepth 100000 in
theorem eqNode_u (i0 i1 i2 i3 i4 i5 i6 i7 i8 i9 i10 i11 : Int) (l12 : List Ent) (l13 l14 l15 l16 l17 : List Int) (w : World) (v12 u12 : Value) (v13 u13 : Value) (v14 u14 : Value) (v15 u15 : Value) (v16 u16 : Value) (v17 u17 : Value) (h12 : Es w v12 l12) (k12 : Es w u12 l12) (h13 : Ix w v13 l13) (k13 : Ix w u13 l13) (h14 : Ix w v14 l14) (k14 : Ix w u14 l14) (h15 : Ix w v15 l15) (k15 : Ix w u15 l15) (h16 : Ix w v16 l16) (k16 : Ix w u16 l16) (h17 : Ix w v17 l17) (k17 : Ix w u17 l17) :
    Calls Try.prog 35 #[.agg #[.int .i64 i0, .int .i64 i1, .int .i64 i2, .int .i64 i3, .int .i64 i4, .int .i64 i5, .int .i64 i6, .int .i64 i7, .int .i64 i8, .int .i64 i9, .int .i64 i10, .int .i64 i11, v12, v13, v14, v15, v16, v17], .agg #[.int .i64 i0, .int .i64 i1, .int .i64 i2, .int .i64 i3, .int .i64 i4, .int .i64 i5, .int .i64 i6, .int .i64 i7, .int .i64 i8, .int .i64 i9, .int .i64 i10, .int .i64 i11, u12, u13, u14, u15, u16, u17]] w fun e w' => e = .returned (.bool true) ∧ Below w.heap.size w w' := by
  have H12 : Hid (Es w v12 l12) := h12
  obtain ⟨_, _, a12, cap12, rfl, _⟩ := h12
  have K12 : Hid (Es w u12 l12) := k12
  obtain ⟨_, _, d12, dap12, rfl, _⟩ := k12
  have H13 : Hid (Ix w v13 l13) := h13
  obtain ⟨_, a13, cap13, rfl, _⟩ := h13
  have K13 : Hid (Ix w u13 l13) := k13
  obtain ⟨_, d13, dap13, rfl, _⟩ := k13
  have H14 : Hid (Ix w v14 l14) := h14
  obtain ⟨_, a14, cap14, rfl, _⟩ := h14
  have K14 : Hid (Ix w u14 l14) := k14
  obtain ⟨_, d14, dap14, rfl, _⟩ := k14
  have H15 : Hid (Ix w v15 l15) := h15
  obtain ⟨_, a15, cap15, rfl, _⟩ := h15
  have K15 : Hid (Ix w u15 l15) := k15
  obtain ⟨_, d15, dap15, rfl, _⟩ := k15
  have H16 : Hid (Ix w v16 l16) := h16
  obtain ⟨_, a16, cap16, rfl, _⟩ := h16
  have K16 : Hid (Ix w u16 l16) := k16
  obtain ⟨_, d16, dap16, rfl, _⟩ := k16
  have H17 : Hid (Ix w v17 l17) := h17
  obtain ⟨_, a17, cap17, rfl, _⟩ := h17
  have K17 : Hid (Ix w u17 l17) := k17
  obtain ⟨_, d17, dap17, rfl, _⟩ := k17
  have hb0 : Hid (Below w.heap.size w ((w.alloc (.cells #[.int .i64 i0, .int .i64 i1, .int .i64 i2, .int .i64 i3, .int .i64 i4, .int .i64 i5, .int .i64 i6, .int .i64 i7, .int .i64 i8, .int .i64 i9, .int .i64 i10, .int .i64 i11, .slice a12 l12.length cap12, .slice a13 l13.length cap13, .slice a14 l14.length cap14, .slice a15 l15.length cap15, .slice a16 l16.length cap16, .slice a17 l17.length cap17] 61)).alloc (.cells #[.int .i64 i0, .int .i64 i1, .int .i64 i2, .int .i64 i3, .int .i64 i4, .int .i64 i5, .int .i64 i6, .int .i64 i7, .int .i64 i8, .int .i64 i9, .int .i64 i10, .int .i64 i11, .slice d12 l12.length dap12, .slice d13 l13.length dap13, .slice d14 l14.length dap14, .slice d15 l15.length dap15, .slice d16 l16.length dap16, .slice d17 l17.length dap17] 61))) := ((Below.refl _ _).alloc (Nat.le_refl _) _).alloc (by simp) _
  have g0 : True := trivial
  have g1 : True := trivial
  have g2 : True := trivial
  have g3 : True := trivial
  have g4 : True := trivial
  go_enter Try.func35, Try.ntmps35
  go_wp2_with (first
    | (go_at_call 85; refine (eqEntryS_same _ _ l12 _ (H12.out.below hb0.out) (K12.out.below hb0.out)).mono ?_; rintro e w1 ⟨rfl, hb⟩; have z1 : w.heap.size + 1 < w1.heap.size := (by have := hb.size; simp at this; omega); have c13 : w1.cell? ⟨w.heap.size, 13, none⟩ = some (.slice a13 l13.length cap13) := (hb.cell (p := ⟨w.heap.size, 13, none⟩) (by simp <;> omega)).trans (by simp [go_sem]); have x13 : w1.cell? ⟨w.heap.size + 1, 13, none⟩ = some (.slice d13 l13.length dap13) := (hb.cell (p := ⟨w.heap.size + 1, 13, none⟩) (by simp <;> omega)).trans (by simp [go_sem]); have c14 : w1.cell? ⟨w.heap.size, 14, none⟩ = some (.slice a14 l14.length cap14) := (hb.cell (p := ⟨w.heap.size, 14, none⟩) (by simp <;> omega)).trans (by simp [go_sem]); have x14 : w1.cell? ⟨w.heap.size + 1, 14, none⟩ = some (.slice d14 l14.length dap14) := (hb.cell (p := ⟨w.heap.size + 1, 14, none⟩) (by simp <;> omega)).trans (by simp [go_sem]); have c15 : w1.cell? ⟨w.heap.size, 15, none⟩ = some (.slice a15 l15.length cap15) := (hb.cell (p := ⟨w.heap.size, 15, none⟩) (by simp <;> omega)).trans (by simp [go_sem]); have x15 : w1.cell? ⟨w.heap.size + 1, 15, none⟩ = some (.slice d15 l15.length dap15) := (hb.cell (p := ⟨w.heap.size + 1, 15, none⟩) (by simp <;> omega)).trans (by simp [go_sem]); have c16 : w1.cell? ⟨w.heap.size, 16, none⟩ = some (.slice a16 l16.length cap16) := (hb.cell (p := ⟨w.heap.size, 16, none⟩) (by simp <;> omega)).trans (by simp [go_sem]); have x16 : w1.cell? ⟨w.heap.size + 1, 16, none⟩ = some (.slice d16 l16.length dap16) := (hb.cell (p := ⟨w.heap.size + 1, 16, none⟩) (by simp <;> omega)).trans (by simp [go_sem]); have c17 : w1.cell? ⟨w.heap.size, 17, none⟩ = some (.slice a17 l17.length cap17) := (hb.cell (p := ⟨w.heap.size, 17, none⟩) (by simp <;> omega)).trans (by simp [go_sem]); have x17 : w1.cell? ⟨w.heap.size + 1, 17, none⟩ = some (.slice d17 l17.length dap17) := (hb.cell (p := ⟨w.heap.size + 1, 17, none⟩) (by simp <;> omega)).trans (by simp [go_sem]); have HB : Hid (Below w.heap.size w w1) := hb0.out.trans (hb.mono (by simp <;> omega)); clear hb)
    | (go_at_call 69; clear g0; refine (eqIntS_same _ _ l13 _ (H13.out.below HB.out) (K13.out.below HB.out)).mono ?_; rintro e w2 ⟨rfl, hb⟩; have z2 : w1.heap.size ≤ w2.heap.size := hb.size; replace c14 : w2.cell? ⟨w.heap.size, 14, none⟩ = some (.slice a14 l14.length cap14) := (hb.cell (p := ⟨w.heap.size, 14, none⟩) (show w.heap.size < w1.heap.size by omega)).trans c14; replace x14 : w2.cell? ⟨w.heap.size + 1, 14, none⟩ = some (.slice d14 l14.length dap14) := (hb.cell (p := ⟨w.heap.size + 1, 14, none⟩) (show w.heap.size + 1 < w1.heap.size by omega)).trans x14; replace c15 : w2.cell? ⟨w.heap.size, 15, none⟩ = some (.slice a15 l15.length cap15) := (hb.cell (p := ⟨w.heap.size, 15, none⟩) (show w.heap.size < w1.heap.size by omega)).trans c15; replace x15 : w2.cell? ⟨w.heap.size + 1, 15, none⟩ = some (.slice d15 l15.length dap15) := (hb.cell (p := ⟨w.heap.size + 1, 15, none⟩) (show w.heap.size + 1 < w1.heap.size by omega)).trans x15; replace c16 : w2.cell? ⟨w.heap.size, 16, none⟩ = some (.slice a16 l16.length cap16) := (hb.cell (p := ⟨w.heap.size, 16, none⟩) (show w.heap.size < w1.heap.size by omega)).trans c16; replace x16 : w2.cell? ⟨w.heap.size + 1, 16, none⟩ = some (.slice d16 l16.length dap16) := (hb.cell (p := ⟨w.heap.size + 1, 16, none⟩) (show w.heap.size + 1 < w1.heap.size by omega)).trans x16; replace c17 : w2.cell? ⟨w.heap.size, 17, none⟩ = some (.slice a17 l17.length cap17) := (hb.cell (p := ⟨w.heap.size, 17, none⟩) (show w.heap.size < w1.heap.size by omega)).trans c17; replace x17 : w2.cell? ⟨w.heap.size + 1, 17, none⟩ = some (.slice d17 l17.length dap17) := (hb.cell (p := ⟨w.heap.size + 1, 17, none⟩) (show w.heap.size + 1 < w1.heap.size by omega)).trans x17; replace HB : Hid (Below w.heap.size w w2) := HB.out.trans (hb.mono (by omega)); clear hb)
    | (go_at_call 69; clear g1; refine (eqIntS_same _ _ l14 _ (H14.out.below HB.out) (K14.out.below HB.out)).mono ?_; rintro e w3 ⟨rfl, hb⟩; have z3 : w2.heap.size ≤ w3.heap.size := hb.size; replace c15 : w3.cell? ⟨w.heap.size, 15, none⟩ = some (.slice a15 l15.length cap15) := (hb.cell (p := ⟨w.heap.size, 15, none⟩) (show w.heap.size < w2.heap.size by omega)).trans c15; replace x15 : w3.cell? ⟨w.heap.size + 1, 15, none⟩ = some (.slice d15 l15.length dap15) := (hb.cell (p := ⟨w.heap.size + 1, 15, none⟩) (show w.heap.size + 1 < w2.heap.size by omega)).trans x15; replace c16 : w3.cell? ⟨w.heap.size, 16, none⟩ = some (.slice a16 l16.length cap16) := (hb.cell (p := ⟨w.heap.size, 16, none⟩) (show w.heap.size < w2.heap.size by omega)).trans c16; replace x16 : w3.cell? ⟨w.heap.size + 1, 16, none⟩ = some (.slice d16 l16.length dap16) := (hb.cell (p := ⟨w.heap.size + 1, 16, none⟩) (show w.heap.size + 1 < w2.heap.size by omega)).trans x16; replace c17 : w3.cell? ⟨w.heap.size, 17, none⟩ = some (.slice a17 l17.length cap17) := (hb.cell (p := ⟨w.heap.size, 17, none⟩) (show w.heap.size < w2.heap.size by omega)).trans c17; replace x17 : w3.cell? ⟨w.heap.size + 1, 17, none⟩ = some (.slice d17 l17.length dap17) := (hb.cell (p := ⟨w.heap.size + 1, 17, none⟩) (show w.heap.size + 1 < w2.heap.size by omega)).trans x17; replace HB : Hid (Below w.heap.size w w3) := HB.out.trans (hb.mono (by omega)); clear hb)
    | (go_at_call 69; clear g2; refine (eqIntS_same _ _ l15 _ (H15.out.below HB.out) (K15.out.below HB.out)).mono ?_; rintro e w4 ⟨rfl, hb⟩; have z4 : w3.heap.size ≤ w4.heap.size := hb.size; replace c16 : w4.cell? ⟨w.heap.size, 16, none⟩ = some (.slice a16 l16.length cap16) := (hb.cell (p := ⟨w.heap.size, 16, none⟩) (show w.heap.size < w3.heap.size by omega)).trans c16; replace x16 : w4.cell? ⟨w.heap.size + 1, 16, none⟩ = some (.slice d16 l16.length dap16) := (hb.cell (p := ⟨w.heap.size + 1, 16, none⟩) (show w.heap.size + 1 < w3.heap.size by omega)).trans x16; replace c17 : w4.cell? ⟨w.heap.size, 17, none⟩ = some (.slice a17 l17.length cap17) := (hb.cell (p := ⟨w.heap.size, 17, none⟩) (show w.heap.size < w3.heap.size by omega)).trans c17; replace x17 : w4.cell? ⟨w.heap.size + 1, 17, none⟩ = some (.slice d17 l17.length dap17) := (hb.cell (p := ⟨w.heap.size + 1, 17, none⟩) (show w.heap.size + 1 < w3.heap.size by omega)).trans x17; replace HB : Hid (Below w.heap.size w w4) := HB.out.trans (hb.mono (by omega)); clear hb)
    | (go_at_call 69; clear g3; refine (eqIntS_same _ _ l16 _ (H16.out.below HB.out) (K16.out.below HB.out)).mono ?_; rintro e w5 ⟨rfl, hb⟩; have z5 : w4.heap.size ≤ w5.heap.size := hb.size; replace c17 : w5.cell? ⟨w.heap.size, 17, none⟩ = some (.slice a17 l17.length cap17) := (hb.cell (p := ⟨w.heap.size, 17, none⟩) (show w.heap.size < w4.heap.size by omega)).trans c17; replace x17 : w5.cell? ⟨w.heap.size + 1, 17, none⟩ = some (.slice d17 l17.length dap17) := (hb.cell (p := ⟨w.heap.size + 1, 17, none⟩) (show w.heap.size + 1 < w4.heap.size by omega)).trans x17; replace HB : Hid (Below w.heap.size w w5) := HB.out.trans (hb.mono (by omega)); clear hb)
    | (go_at_call 69; clear g4; refine (eqIntS_same _ _ l17 _ (H17.out.below HB.out) (K17.out.below HB.out)).mono ?_; rintro e w6 ⟨rfl, hb⟩; have z6 : w5.heap.size ≤ w6.heap.size := hb.size; replace HB : Hid (Below w.heap.size w w6) := HB.out.trans (hb.mono (by omega)); clear hb))
  go_ret
  exact ⟨rfl, HB.out⟩
end Go.Proofs.Ytceokablbefjhaa
