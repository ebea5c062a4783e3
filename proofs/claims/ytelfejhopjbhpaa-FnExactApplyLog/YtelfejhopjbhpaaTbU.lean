/-
  Tables and answers as a law takes them.
-/
import Derived.Test.YtelfejhopjbhpaaTbRow
import Derived.Test.YtelfejhopjbhpaaTbSz
import Derived.Test.YtelfejhopjbhpaaTbTo
import Derived.Test.YtelfejhopjbhpaaTbEq
import Derived.Test.YtelfejhopjbhpaaTbMk
import Derived.Test.YtelfejhopjbhpaaTbHd
import Derived.Test.YtelfejhopjbhpaaTbCmdP
import Derived.Test.YtelfejhopjbhpaaLawTurn
import Derived.Test.YtelfejhopjbhpaaBlk
namespace Go.Proofs.Ytelfejhopjbhpaa
open Go.RowKit Go.Maps
set_option linter.unusedVariables false
set_option linter.unusedSimpArgs false

/-- a table of one's own: pairs and sessions each in a span of its own -/
structure TabR (lo hi : Nat) (w : World) (v u : Value) (ps : List Pr) (ss : List Se) : Prop where
  ex : ∃ l1 h1 l2 h2, lo ≤ l1 ∧ l1 ≤ h1 ∧ h1 ≤ hi ∧ lo ≤ l2 ∧ l2 ≤ h2 ∧ h2 ≤ hi ∧ (h1 ≤ l2 ∨ h2 ≤ l1) ∧ RowR prC 2 l1 h1 w v ps ∧ RowR seC 4 l2 h2 w u ss
theorem TabR.keep {lo hi : Nat} {w w' : World} {v u : Value} {ps : List Pr} {ss : List Se} (h : TabR lo hi w v u ps ss) (hk : ∀ k, lo ≤ k → k < hi → w'.heap[k]? = w.heap[k]?) : TabR lo hi w' v u ps ss := by
  obtain ⟨l1, h1, l2, h2, g1, g2, g3, g4, g5, g6, g7, hP, hS⟩ := h
  exact ⟨l1, h1, l2, h2, g1, g2, g3, g4, g5, g6, g7, hP.keep fun k a b => hk k (by omega) (by omega), hS.keep fun k a b => hk k (by omega) (by omega)⟩
theorem TabR.wide {lo hi lo' hi' : Nat} {w : World} {v u : Value} {ps : List Pr} {ss : List Se} (h : TabR lo hi w v u ps ss) (a1 : lo' ≤ lo) (a2 : hi ≤ hi') : TabR lo' hi' w v u ps ss := by
  obtain ⟨l1, h1, l2, h2, g1, g2, g3, g4, g5, g6, g7, hP, hS⟩ := h
  exact ⟨l1, h1, l2, h2, by omega, g2, by omega, by omega, g5, by omega, g7, hP, hS⟩
theorem TabR.prs {lo hi : Nat} {w : World} {v u : Value} {ps : List Pr} {ss : List Se} (h : TabR lo hi w v u ps ss) : Ps w v ps := by
  obtain ⟨l1, h1, l2, h2, g1, g2, g3, g4, g5, g6, g7, hP, hS⟩ := h
  exact hP.sl
theorem TabR.ses {lo hi : Nat} {w : World} {v u : Value} {ps : List Pr} {ss : List Se} (h : TabR lo hi w v u ps ss) : Ss w u ss := by
  obtain ⟨l1, h1, l2, h2, g1, g2, g3, g4, g5, g6, g7, hP, hS⟩ := h
  exact hS.sl
theorem TabO.r {w : World} {B : Nat} {v u : Value} {ps : List Pr} {ss : List Se} (h : TabO w B v u ps ss) (hn : ps.length ≤ maxLen) (hm : ss.length ≤ maxLen) (hB : B ≤ w.heap.size) : TabR B w.heap.size w v u ps ss := by
  obtain ⟨l1, h1, g1, g2, g3, g4, hP⟩ := h.prs.r prLaw hn hB
  obtain ⟨l2, h2, g5, g6, g7, g8, hS⟩ := h.ses.r seLaw hm hB
  by_cases e1 : l1 = h1
  · subst e1
    refine ⟨B, B, l2, h2, Nat.le_refl _, Nat.le_refl _, hB, g5, g6, g7, .inl g5, ⟨hP.len, hP.sh, fun h0 => ?_⟩, hS⟩
    obtain ⟨q, cap, e, u1, u2, _⟩ := hP.row h0
    omega
  by_cases e2 : l2 = h2
  · subst e2
    refine ⟨l1, h1, B, B, g1, g2, g3, Nat.le_refl _, Nat.le_refl _, hB, .inr g1, hP, ⟨hS.len, hS.sh, fun h0 => ?_⟩⟩
    obtain ⟨q, cap, e, u1, u2, _⟩ := hS.row h0
    omega
  have d1 := g4 l1 (Nat.le_refl _) (by omega)
  have d2 := g8 l2 (Nat.le_refl _) (by omega)
  have d3 := g4 (h1 - 1) (by omega) (by omega)
  have d4 := g8 (h2 - 1) (by omega) (by omega)
  have e3 : l1 = h1 - 1 := by rw [d1] at d3; injection d3
  have e4 : l2 = h2 - 1 := by rw [d2] at d4; injection d4
  have e5 : l1 ≠ l2 := fun e => h.apart l2 d2 (by rw [← e]; exact d1)
  exact ⟨l1, h1, l2, h2, g1, g2, g3, g5, g6, g7, by omega, hP, hS⟩

set_option maxHeartbeats 2000000 in
set_option maxRecDepth 100000 in
theorem szTable_u (v u : Value) (ps : List Pr) (ss : List Se) (w : World) (hv : Ps w v ps) (hu : Ss w u ss) (hf : ∀ p ∈ ps, p.k.size ≤ maxLen ∧ p.v.size ≤ maxLen) (hg : ∀ p ∈ ss, p.v.size ≤ maxLen) :
    Calls Try.prog 18 #[.agg #[v, u], .int .i64 1048576] w fun e w' => (∃ s : Int, e = .returned (.int .i64 s) ∧ s ≤ 1048576 ∧ (0 ≤ s → (ps.length ≤ 1048576 ∧ ∀ p ∈ ps, p.k.size ≤ 1048576 ∧ p.v.size ≤ 1048576) ∧ (ss.length ≤ 1048576 ∧ ∀ p ∈ ss, p.v.size ≤ 1048576))) ∧ Below w.heap.size w w' := by
  have HP : Hid (∀ w', Below w.heap.size w w' → Calls Try.prog 46 #[v, .int .i64 1048576] w' fun r w'' => (∃ s : Int, r = .returned (.int .i64 s) ∧ s ≤ 1048576 ∧ (0 ≤ s → ps.length ≤ 1048576 ∧ ∀ p ∈ ps, p.k.size ≤ 1048576 ∧ p.v.size ≤ 1048576)) ∧ Below w'.heap.size w' w'') := fun w' hb => szPairS_u v ps w' (hv.below hb) hf 1048576 (by omega) (by omega)
  have HS : Hid (∀ w', Below w.heap.size w w' → ∀ left : Int, 0 ≤ left → left ≤ 1048576 → Calls Try.prog 47 #[u, .int .i64 left] w' fun r w'' => (∃ s : Int, r = .returned (.int .i64 s) ∧ s ≤ left ∧ (0 ≤ s → ss.length ≤ 1048576 ∧ ∀ p ∈ ss, p.v.size ≤ 1048576)) ∧ Below w'.heap.size w' w'') := fun w' hb left h0 h1 => szSessionS_u u ss w' (hu.below hb) hg left h0 h1
  obtain ⟨_, a, cap, rfl, _⟩ := hv
  obtain ⟨_, a2, cap2, rfl, _⟩ := hu
  have hb0 : Hid (Below w.heap.size w (w.alloc (.cells #[.slice a ps.length cap, .slice a2 ss.length cap2] 50))) := (Below.refl _ _).alloc (Nat.le_refl _) _
  go_enter Try.func18, Try.ntmps18
  go_wp2_with (first
    | (go_at_call 46; refine (HP.out _ hb0.out).mono ?_; rintro e w1 ⟨⟨s1, rfl, hs1, hs1'⟩, hb1⟩; have HB1 : Hid (Below w.heap.size w w1) := hb0.out.trans (hb1.mono (by simp)); have x0 : w1.cell? ⟨w.heap.size, 0, none⟩ = some (.slice a ps.length cap) := (hb1.cell (p := ⟨w.heap.size, 0, none⟩) (by simp)).trans (by simp [go_sem]); have x1 : w1.cell? ⟨w.heap.size, 1, none⟩ = some (.slice a2 ss.length cap2) := (hb1.cell (p := ⟨w.heap.size, 1, none⟩) (by simp)).trans (by simp [go_sem]); clear hb1)
    | (go_at_call 47; refine (HS.out _ HB1.out _ (by omega) (by omega)).mono ?_; rintro e w2 ⟨⟨s2, rfl, hs2, hs2'⟩, hb2⟩; have HB2 : Hid (Below w.heap.size w w2) := HB1.out.trans (hb2.mono HB1.out.size); clear hb2))
  all_goals go_ret
  all_goals first
    | exact ⟨⟨_, rfl, by omega, fun h => ⟨hs1' (by omega), hs2' (by omega)⟩⟩, HB2.out⟩
    | exact ⟨⟨_, rfl, by omega, fun h => by omega⟩, HB2.out⟩
    | exact ⟨⟨_, rfl, by omega, fun h => by omega⟩, HB1.out⟩

set_option maxHeartbeats 4000000 in
set_option maxRecDepth 100000 in
theorem toTable_u (v u : Value) (ps : List Pr) (ss : List Se) (w : World) (hv : Ps w v ps) (hu : Ss w u ss) (hn : ps.length ≤ 1048576) (hm : ss.length ≤ 1048576) :
    Calls Try.prog 21 #[.agg #[v, u]] w fun e w' => ∃ z : Nat × Nat, e = .returned (.agg #[.slice (some ⟨z.1, 0, none⟩) ps.length ps.length, .slice (some ⟨z.2, 0, none⟩) ss.length ss.length]) ∧ TabR w.heap.size w'.heap.size w' (.slice (some ⟨z.1, 0, none⟩) ps.length ps.length) (.slice (some ⟨z.2, 0, none⟩) ss.length ss.length) ps ss ∧ Below w.heap.size w w' := by
  have HP : Hid (∀ w', Below w.heap.size w w' → Calls Try.prog 51 #[v] w' fun x w'' => ∃ q, x = .returned (.slice (some ⟨q, 0, none⟩) ps.length ps.length) ∧ RowR prC 2 w'.heap.size w''.heap.size w'' (.slice (some ⟨q, 0, none⟩) ps.length ps.length) ps ∧ Below w'.heap.size w' w'') := fun w' hb => toPairS_u v ps w' (hv.below hb) hn
  have HS : Hid (∀ w', Below w.heap.size w w' → Calls Try.prog 52 #[u] w' fun x w'' => ∃ q, x = .returned (.slice (some ⟨q, 0, none⟩) ss.length ss.length) ∧ RowR seC 4 w'.heap.size w''.heap.size w'' (.slice (some ⟨q, 0, none⟩) ss.length ss.length) ss ∧ Below w'.heap.size w' w'') := fun w' hb => toSessionS_u u ss w' (hu.below hb) hm
  obtain ⟨_, a, cap, rfl, _⟩ := hv
  obtain ⟨_, a2, cap2, rfl, _⟩ := hu
  have hb0 : Hid (Below w.heap.size w (((w.alloc (.cells #[.slice a ps.length cap, .slice a2 ss.length cap2] 50)).alloc (.cells #[.slice none 0 0, .slice none 0 0] 29)).alloc (.cells #[.slice none 0 0, .slice none 0 0] 29))) := (((Below.refl _ _).alloc (Nat.le_refl _) _).alloc (by simp) _).alloc (by simp; omega) _
  go_enter Try.func21, Try.ntmps21
  go_wp2_with (first
    | (go_at_call 51; refine (HP.out _ hb0.out).mono ?_; rintro e w1 ⟨q1, rfl, ho1, hb1⟩; have hz1 : w.heap.size + 3 ≤ w1.heap.size := (by have := hb1.size; simp at this; omega); have HB1 : Hid (Below w.heap.size w w1) := hb0.out.trans (hb1.mono (by simp; omega)); have HO1 : Hid (RowR prC 2 (w.heap.size + 3) w1.heap.size w1 (.slice (some ⟨q1, 0, none⟩) ps.length ps.length) ps) := ho1.wide (by simp) (Nat.le_refl _); have BX1 : Hid (Blk w1 (w.heap.size) #[.slice a ps.length cap, .slice a2 ss.length cap2] 50) := (((Blk.new w _ _).alloc _).alloc _).below hb1 (by simp; omega); have BR1 : Hid (Blk w1 (w.heap.size + 1) #[.slice none 0 0, .slice none 0 0] 29) := ((Blk.new' (w.alloc _) _ _ (by simp)).alloc _).below hb1 (by simp); have BO1 : Hid (Blk w1 (w.heap.size + 1 + 1) #[.slice none 0 0, .slice none 0 0] 29) := (Blk.new' ((w.alloc _).alloc _) _ _ (by simp)).below hb1 (by simp); have x0 : w1.cell? ⟨w.heap.size, 0, none⟩ = some (.slice a ps.length cap) := BX1.out.cell 0; have x1 : w1.cell? ⟨w.heap.size, 1, none⟩ = some (.slice a2 ss.length cap2) := BX1.out.cell 1; have o0 : w1.cell? ⟨w.heap.size + 1 + 1, 0, none⟩ = some (.slice none 0 0) := BO1.out.cell 0; have o1 : w1.cell? ⟨w.heap.size + 1 + 1, 1, none⟩ = some (.slice none 0 0) := BO1.out.cell 1; have fo := BO1.out.free; clear ho1 hb1)
    | (go_at_call 52; refine (HS.out _ (HB1.out.setCell (by show w.heap.size ≤ w.heap.size + 1 + 1; omega) _)).mono ?_; rintro e w2 ⟨q2, rfl, ho2, hb2⟩; have hz2 : w1.heap.size ≤ w2.heap.size := (by have := hb2.size; simpa [World.setCell] using this); have HB2 : Hid (Below w.heap.size w w2) := (HB1.out.setCell (by show w.heap.size ≤ w.heap.size + 1 + 1; omega) _).trans (hb2.mono (by simp [World.setCell]; omega)); have HO2 : Hid (RowR seC 4 w1.heap.size w2.heap.size w2 (.slice (some ⟨q2, 0, none⟩) ss.length ss.length) ss) := ho2.wide (by simp [World.setCell]) (Nat.le_refl _); have HP2 : Hid (RowR prC 2 (w.heap.size + 3) w1.heap.size w2 (.slice (some ⟨q1, 0, none⟩) ps.length ps.length) ps) := HO1.out.keep (fun k h1 h2 => by rw [hb2.block k (by simp [World.setCell]; omega), Below.heap_setCell _ _ _ _ (by simp only []; omega)]); have BR2 : Hid (Blk w2 (w.heap.size + 1) #[.slice none 0 0, .slice none 0 0] 29) := (BR1.out.set_other _ (by simp)).below hb2 (by simp [World.setCell]; omega); have BO2 : Hid (Blk w2 (w.heap.size + 1 + 1) #[.slice (some ⟨q1, 0, none⟩) ps.length ps.length, .slice none 0 0] 29) := (show Blk (w1.setCell ⟨w.heap.size + 1 + 1, 0, none⟩ (.slice (some ⟨q1, 0, none⟩) ps.length ps.length)) (w.heap.size + 1 + 1) #[.slice (some ⟨q1, 0, none⟩) ps.length ps.length, .slice none 0 0] 29 by simpa using BO1.out.set 0 (.slice (some ⟨q1, 0, none⟩) ps.length ps.length)).below hb2 (by simp [World.setCell]; omega); clear x0 x1 o0 o1 fo; have o0 : w2.cell? ⟨w.heap.size + 1 + 1, 0, none⟩ = some (.slice (some ⟨q1, 0, none⟩) ps.length ps.length) := BO2.out.cell 0; have o1 : w2.cell? ⟨w.heap.size + 1 + 1, 1, none⟩ = some (.slice none 0 0) := BO2.out.cell 1; have r0 : w2.cell? ⟨w.heap.size + 1, 0, none⟩ = some (.slice none 0 0) := BR2.out.cell 0; have r1 : w2.cell? ⟨w.heap.size + 1, 1, none⟩ = some (.slice none 0 0) := BR2.out.cell 1; have fo := BO2.out.free; have fr := BR2.out.free; clear ho2 hb2))
  refine bodyPost_ret (v := .agg #[.slice (some ⟨q1, 0, none⟩) ps.length ps.length, .slice (some ⟨q2, 0, none⟩) ss.length ss.length]) (by simp [results, Try.results21, go_sem, *]) rfl ⟨(q1, q2), rfl, ⟨w.heap.size + 3, w1.heap.size, w1.heap.size, w2.heap.size, by omega, by omega, by simp [World.setCell]; omega, by omega, hz2, by simp [World.setCell], .inl (Nat.le_refl _), ?_, ?_⟩, ?_⟩
  · exact HP2.out.keep fun k h1 h2 => by rw [Below.heap_setCell _ _ _ _ (by simp only []; omega), Below.heap_setCell _ _ _ _ (by simp only []; omega), Below.heap_setCell _ _ _ _ (by simp only []; omega)]
  · exact HO2.out.keep fun k h1 h2 => by rw [Below.heap_setCell _ _ _ _ (by simp only []; omega), Below.heap_setCell _ _ _ _ (by simp only []; omega), Below.heap_setCell _ _ _ _ (by simp only []; omega)]
  · exact ((HB2.out.setCell (by show w.heap.size ≤ w.heap.size + 1 + 1; omega) _).setCell (by show w.heap.size ≤ w.heap.size + 1; omega) _).setCell (by show w.heap.size ≤ w.heap.size + 1; omega) _

set_option maxHeartbeats 2000000 in
set_option maxRecDepth 100000 in
theorem eqTable_u (va : Option Addr) (vc : Nat) (ua : Option Addr) (uc : Nat) (va' : Option Addr) (vc' : Nat) (ua' : Option Addr) (uc' : Nat) (ps : List Pr) (ss : List Se) (w : World) (h1 : Ps w (.slice va ps.length vc) ps) (h2 : Ss w (.slice ua ss.length uc) ss) (h1' : Ps w (.slice va' ps.length vc') ps) (h2' : Ss w (.slice ua' ss.length uc') ss) :
    Calls Try.prog 13 #[.agg #[.slice va ps.length vc, .slice ua ss.length uc], .agg #[.slice va' ps.length vc', .slice ua' ss.length uc']] w fun e w' => e = .returned (.bool true) ∧ Below w.heap.size w w' := by
  have HP : Hid (∀ w', Below w.heap.size w w' → Calls Try.prog 38 #[.slice va ps.length vc, .slice va' ps.length vc'] w' fun e w'' => e = .returned (.bool true) ∧ Below w'.heap.size w' w'') := fun w' hb => eqPairS_same _ _ ps w' (h1.below hb) (h1'.below hb)
  have HS : Hid (∀ w', Below w.heap.size w w' → Calls Try.prog 39 #[.slice ua ss.length uc, .slice ua' ss.length uc'] w' fun e w'' => e = .returned (.bool true) ∧ Below w'.heap.size w' w'') := fun w' hb => eqSessionS_same _ _ ss w' (h2.below hb) (h2'.below hb)
  clear h1 h2 h1' h2'
  generalize ps.length = pn at *
  generalize ss.length = sn at *
  have hb0 : Hid (Below w.heap.size w ((w.alloc (.cells #[.slice va pn vc, .slice ua sn uc] 29)).alloc (.cells #[.slice va' pn vc', .slice ua' sn uc'] 29))) := ((Below.refl _ _).alloc (Nat.le_refl _) _).alloc (by simp) _
  go_enter Try.func13, Try.ntmps13
  go_wp2_with (first
    | (go_at_call 38; refine (HP.out _ hb0.out).mono ?_; rintro e w1 ⟨rfl, hb1⟩; have HB1 : Hid (Below w.heap.size w w1) := hb0.out.trans (hb1.mono (by simp; omega)); have x1 : w1.cell? ⟨w.heap.size, 1, none⟩ = some (.slice ua sn uc) := (hb1.cell (p := ⟨w.heap.size, 1, none⟩) (by simp <;> omega)).trans (by simp [go_sem]); have y1 : w1.cell? ⟨w.heap.size + 1, 1, none⟩ = some (.slice ua' sn uc') := (hb1.cell (p := ⟨w.heap.size + 1, 1, none⟩) (by simp <;> omega)).trans (by simp [go_sem]); clear hb1)
    | (go_at_call 39; refine (HS.out _ HB1.out).mono ?_; rintro e w2 ⟨rfl, hb2⟩; have HB2 : Hid (Below w.heap.size w w2) := HB1.out.trans (hb2.mono HB1.out.size); clear hb2))
  go_ret
  exact ⟨rfl, HB2.out⟩
set_option maxHeartbeats 2000000 in
set_option maxRecDepth 100000 in
theorem eqApplyAnswer_u (cd rs : Int) (tv : ByteArray) (va : Option Addr) (vc : Nat) (ua : Option Addr) (uc : Nat) (va' : Option Addr) (vc' : Nat) (ua' : Option Addr) (uc' : Nat) (ps : List Pr) (ss : List Se) (w : World) {lo hi lo' hi' : Nat} (h : TabR lo hi w (.slice va ps.length vc) (.slice ua ss.length uc) ps ss) (h' : TabR lo' hi' w (.slice va' ps.length vc') (.slice ua' ss.length uc') ps ss) :
    Calls Try.prog 23 #[.agg #[.int .i64 cd, .int .i64 rs, .string tv, .slice va ps.length vc, .slice ua ss.length uc], .agg #[.int .i64 cd, .int .i64 rs, .string tv, .slice va' ps.length vc', .slice ua' ss.length uc']] w fun e w' => e = .returned (.bool true) ∧ Below w.heap.size w w' := by
  have HT : Hid (∀ w', Below w.heap.size w w' → Calls Try.prog 13 #[.agg #[.slice va ps.length vc, .slice ua ss.length uc], .agg #[.slice va' ps.length vc', .slice ua' ss.length uc']] w' fun e w'' => e = .returned (.bool true) ∧ Below w'.heap.size w' w'') := fun w' hb => eqTable_u _ _ _ _ _ _ _ _ ps ss w' (h.prs.below hb) (h.ses.below hb) (h'.prs.below hb) (h'.ses.below hb)
  clear h h'
  generalize ps.length = pn at *
  generalize ss.length = sn at *
  have hb0 : Hid (Below w.heap.size w ((w.alloc (.cells #[.int .i64 cd, .int .i64 rs, .string tv, .slice va pn vc, .slice ua sn uc] 37)).alloc (.cells #[.int .i64 cd, .int .i64 rs, .string tv, .slice va' pn vc', .slice ua' sn uc'] 37))) := ((Below.refl _ _).alloc (Nat.le_refl _) _).alloc (by simp) _
  go_enter Try.func23, Try.ntmps23
  go_wp2_with (go_at_call 13; refine (HT.out _ hb0.out).mono ?_; rintro e w1 ⟨rfl, hb1⟩; have HB1 : Hid (Below w.heap.size w w1) := hb0.out.trans (hb1.mono (by simp; omega)); clear hb1)
  go_ret
  exact ⟨rfl, HB1.out⟩

theorem RowR.far {α : Type} {cs : α → List Value} {m lo hi l1 h1 : Nat} {w w' : World} {v : Value} {l : List α} (h : RowR cs m l1 h1 w v l) (ht : Turned lo hi w w') (hd : h1 ≤ lo ∨ hi ≤ l1) (hs : h1 ≤ w.heap.size) : RowR cs m l1 h1 w' v l := h.keep fun k a b => ht.block k (by omega) (by omega)
set_option maxHeartbeats 2000000 in
set_option maxRecDepth 100000 in
theorem markTable_u (va : Option Addr) (vc : Nat) (ua : Option Addr) (uc : Nat) (ps : List Pr) (ss : List Se) (w : World) {lo hi : Nat} (h : TabR lo hi w (.slice va ps.length vc) (.slice ua ss.length uc) ps ss) (hhi : hi ≤ w.heap.size) (hn : ps.length ≤ 1048576) (hm : ss.length ≤ 1048576) :
    Calls Try.prog 16 #[.agg #[.slice va ps.length vc, .slice ua ss.length uc], .int .i64 1] w fun e w' => e = .returned (.int .i64 ((1 + 2 * ps.length + 4 * ss.length : Nat) : Int)) ∧ TabR lo hi w' (.slice va ps.length vc) (.slice ua ss.length uc) (mkPrs 1 ps.length) (mkSes (1 + 2 * ps.length) ss.length) ∧ Turned lo hi w w' := by
  obtain ⟨l1, h1, l2, h2, g1, g2, g3, g4, g5, g6, g7, hP, hS⟩ := h
  have HP : Hid (∀ w', Below w.heap.size w w' → Calls Try.prog 42 #[.slice va ps.length vc, .int .i64 1] w' fun r w'' => r = .returned (.int .i64 ((1 + 2 * ps.length : Nat) : Int)) ∧ RowR prC 2 l1 h1 w'' (.slice va ps.length vc) (mkPrs 1 ps.length) ∧ Turned l1 h1 w' w'') := fun w' hb => markPairS_u _ ps 1 1 rfl w' (hP.keep fun k a b => hb.block k (by omega)) hn (by omega)
  have HS : Hid (∀ w' w'', Below w.heap.size w w' → Turned l1 h1 w' w'' → ∀ z : Int, z = ((1 + 2 * ps.length : Nat) : Int) → Calls Try.prog 43 #[.slice ua ss.length uc, .int .i64 z] w'' fun r w3 => r = .returned (.int .i64 ((1 + 2 * ps.length + 4 * ss.length : Nat) : Int)) ∧ RowR seC 4 l2 h2 w3 (.slice ua ss.length uc) (mkSes (1 + 2 * ps.length) ss.length) ∧ Turned l2 h2 w'' w3) := fun w' w'' hb ht z hz => by
    have := hb.size
    exact markSessionS_u _ ss z (1 + 2 * ps.length) hz w'' ((hS.keep fun k a b => hb.block k (by omega)).far ht (by omega) (by omega)) hm (by omega)
  have HF : Hid (∀ w' w'' w3, Below w.heap.size w w' → RowR prC 2 l1 h1 w'' (.slice va ps.length vc) (mkPrs 1 ps.length) → Turned l1 h1 w' w'' → RowR seC 4 l2 h2 w3 (.slice ua ss.length uc) (mkSes (1 + 2 * ps.length) ss.length) → Turned l2 h2 w'' w3 → TabR lo hi w3 (.slice va ps.length vc) (.slice ua ss.length uc) (mkPrs 1 ps.length) (mkSes (1 + 2 * ps.length) ss.length) ∧ Turned lo hi w w3) := fun w' w'' w3 hb hP' t1 hS' t2 => by
    have := hb.size
    have := t1.size
    exact ⟨⟨l1, h1, l2, h2, g1, g2, g3, g4, g5, g6, g7, hP'.far t2 (by omega) (by omega), hS'⟩, (Turned.of_below lo hi hb).trans ((t1.wide g1 g3).trans (t2.wide g4 g6))⟩
  clear hP hS
  have hb0 : Hid (Below w.heap.size w (w.alloc (.cells #[.slice va ps.length vc, .slice ua ss.length uc] 29))) := (Below.refl _ _).alloc (Nat.le_refl _) _
  have hso : h1 ≤ w.heap.size := by omega
  go_enter Try.func16, Try.ntmps16
  go_wp2_with (first
    | (go_at_call 42; refine (HP.out _ hb0.out).mono ?_; rintro e w1 ⟨rfl, hr1, ht1⟩; have HR1 : Hid (RowR prC 2 l1 h1 w1 (.slice va ps.length vc) (mkPrs 1 ps.length)) := hr1; have HT1 : Hid (Turned l1 h1 _ w1) := ht1; have x1 : w1.cell? ⟨w.heap.size, 1, none⟩ = some (.slice ua ss.length uc) := (ht1.cell (b := w.heap.size) (o := 1) (by simp) (Or.inr hso)).trans (by simp [go_sem]); clear hr1 ht1)
    | (go_at_call 43; refine (HS.out _ _ hb0.out HT1.out _ (by omega)).mono ?_; rintro e w2 ⟨rfl, hr2, ht2⟩; have HH : Hid (_ ∧ _) := HF.out _ _ _ hb0.out HR1.out HT1.out hr2 ht2; clear hr2 ht2))
  go_ret
  exact ⟨rfl, HH.out.1, HH.out.2⟩
set_option maxHeartbeats 2000000 in
set_option maxRecDepth 100000 in
theorem heldTable_u (va : Option Addr) (pn vc : Nat) (ua : Option Addr) (sn uc : Nat) (w : World) {lo hi : Nat} (h : TabR lo hi w (.slice va pn vc) (.slice ua sn uc) (mkPrs 1 pn) (mkSes (1 + 2 * pn) sn)) (hhi : hi ≤ w.heap.size) (hn : pn ≤ 1048576) (hm : sn ≤ 1048576) :
    Calls Try.prog 17 #[.agg #[.slice va pn vc, .slice ua sn uc], .int .i64 1] w fun e w' => e = .returned (.int .i64 ((1 + 2 * pn + 4 * sn : Nat) : Int)) ∧ Below w.heap.size w w' := by
  obtain ⟨l1, h1, l2, h2, g1, g2, g3, g4, g5, g6, g7, hP, hS⟩ := h
  have HP : Hid (∀ w', Below w.heap.size w w' → Calls Try.prog 44 #[.slice va pn vc, .int .i64 1] w' fun r w'' => r = .returned (.int .i64 ((1 + 2 * pn : Nat) : Int)) ∧ Below w'.heap.size w' w'') := fun w' hb => heldPairS_u _ pn 1 1 rfl w' (hP.keep fun k a b => hb.block k (by omega)) hn (by omega)
  have HS : Hid (∀ w', Below w.heap.size w w' → ∀ z : Int, z = ((1 + 2 * pn : Nat) : Int) → Calls Try.prog 45 #[.slice ua sn uc, .int .i64 z] w' fun r w'' => r = .returned (.int .i64 ((1 + 2 * pn + 4 * sn : Nat) : Int)) ∧ Below w'.heap.size w' w'') := fun w' hb z hz => heldSessionS_u _ sn z (1 + 2 * pn) hz w' (hS.keep fun k a b => hb.block k (by omega)) hm (by omega)
  clear hP hS
  have hb0 : Hid (Below w.heap.size w (w.alloc (.cells #[.slice va pn vc, .slice ua sn uc] 29))) := (Below.refl _ _).alloc (Nat.le_refl _) _
  go_enter Try.func17, Try.ntmps17
  go_wp2_with (first
    | (go_at_call 44; refine (HP.out _ hb0.out).mono ?_; rintro e w1 ⟨rfl, hb1⟩; have HB1 : Hid (Below w.heap.size w w1) := hb0.out.trans (hb1.mono (by simp)); have x1 : w1.cell? ⟨w.heap.size, 1, none⟩ = some (.slice ua sn uc) := (hb1.cell (p := ⟨w.heap.size, 1, none⟩) (by simp)).trans (by simp [go_sem]); clear hb1)
    | (go_at_call 45; refine (HS.out _ HB1.out _ (by omega)).mono ?_; rintro e w2 ⟨rfl, hb2⟩; have HB2 : Hid (Below w.heap.size w w2) := HB1.out.trans (hb2.mono HB1.out.size); clear hb2))
  go_ret
  exact ⟨rfl, HB2.out⟩
set_option maxHeartbeats 2000000 in
set_option maxRecDepth 100000 in
theorem markApplyAnswer_u (cd rs : Int) (tv : ByteArray) (va : Option Addr) (vc : Nat) (ua : Option Addr) (uc : Nat) (ps : List Pr) (ss : List Se) (w : World) {lo hi : Nat} (h : TabR lo hi w (.slice va ps.length vc) (.slice ua ss.length uc) ps ss) (hhi : hi ≤ w.heap.size) (hn : ps.length ≤ 1048576) (hm : ss.length ≤ 1048576) :
    Calls Try.prog 24 #[.agg #[.int .i64 cd, .int .i64 rs, .string tv, .slice va ps.length vc, .slice ua ss.length uc], .int .i64 1] w fun e w' => e = .returned (.int .i64 ((1 + 2 * ps.length + 4 * ss.length : Nat) : Int)) ∧ TabR lo hi w' (.slice va ps.length vc) (.slice ua ss.length uc) (mkPrs 1 ps.length) (mkSes (1 + 2 * ps.length) ss.length) ∧ Turned lo hi w w' := by
  have HT : Hid (∀ w', Below w.heap.size w w' → Calls Try.prog 16 #[.agg #[.slice va ps.length vc, .slice ua ss.length uc], .int .i64 1] w' fun e w'' => e = .returned (.int .i64 ((1 + 2 * ps.length + 4 * ss.length : Nat) : Int)) ∧ TabR lo hi w'' (.slice va ps.length vc) (.slice ua ss.length uc) (mkPrs 1 ps.length) (mkSes (1 + 2 * ps.length) ss.length) ∧ Turned lo hi w w'') := fun w' hb => (markTable_u _ _ _ _ ps ss w' (h.keep fun k a b => hb.block k (by omega)) (Nat.le_trans hhi hb.size) hn hm).mono fun e w'' hh => ⟨hh.1, hh.2.1, (Turned.of_below _ _ hb).trans hh.2.2⟩
  clear h
  have hb0 : Hid (Below w.heap.size w (w.alloc (.cells #[.int .i64 cd, .int .i64 rs, .string tv, .slice va ps.length vc, .slice ua ss.length uc] 37))) := (Below.refl _ _).alloc (Nat.le_refl _) _
  go_enter Try.func24, Try.ntmps24
  go_wp2_with (go_at_call 16; refine (HT.out _ hb0.out).mono ?_; rintro e w1 ⟨rfl, hr1, ht1⟩; have HR : Hid (_ ∧ _) := And.intro hr1 ht1; clear hr1 ht1)
  go_ret
  exact ⟨rfl, HR.out.1, HR.out.2⟩
set_option maxHeartbeats 2000000 in
set_option maxRecDepth 100000 in
theorem heldApplyAnswer_u (cd rs : Int) (tv : ByteArray) (va : Option Addr) (pn vc : Nat) (ua : Option Addr) (sn uc : Nat) (w : World) {lo hi : Nat} (h : TabR lo hi w (.slice va pn vc) (.slice ua sn uc) (mkPrs 1 pn) (mkSes (1 + 2 * pn) sn)) (hhi : hi ≤ w.heap.size) (hn : pn ≤ 1048576) (hm : sn ≤ 1048576) :
    Calls Try.prog 25 #[.agg #[.int .i64 cd, .int .i64 rs, .string tv, .slice va pn vc, .slice ua sn uc], .int .i64 1] w fun e w' => e = .returned (.int .i64 ((1 + 2 * pn + 4 * sn : Nat) : Int)) ∧ Below w.heap.size w w' := by
  have HT : Hid (∀ w', Below w.heap.size w w' → Calls Try.prog 17 #[.agg #[.slice va pn vc, .slice ua sn uc], .int .i64 1] w' fun e w'' => e = .returned (.int .i64 ((1 + 2 * pn + 4 * sn : Nat) : Int)) ∧ Below w'.heap.size w' w'') := fun w' hb => heldTable_u _ _ _ _ _ _ w' (h.keep fun k a b => hb.block k (by omega)) (Nat.le_trans hhi hb.size) hn hm
  clear h
  have hb0 : Hid (Below w.heap.size w (w.alloc (.cells #[.int .i64 cd, .int .i64 rs, .string tv, .slice va pn vc, .slice ua sn uc] 37))) := (Below.refl _ _).alloc (Nat.le_refl _) _
  go_enter Try.func25, Try.ntmps25
  go_wp2_with (go_at_call 17; refine (HT.out _ hb0.out).mono ?_; rintro e w1 ⟨rfl, hb1⟩; have HB1 : Hid (Below w.heap.size w w1) := hb0.out.trans (hb1.mono (by simp)); clear hb1)
  go_ret
  exact ⟨rfl, HB1.out⟩
set_option maxHeartbeats 2000000 in
set_option maxRecDepth 100000 in
theorem toCmd_u (cl sq op : Int) (k v o : ByteArray) (w : World) :
    Calls Try.prog 22 #[.agg #[.int .i64 cl, .int .i64 sq, .int .i64 op, .string k, .string v, .string o]] w fun e w' => e = .returned (.agg #[.int .i64 cl, .int .i64 sq, .int .i64 op, .string k, .string v, .string o]) ∧ Below w.heap.size w w' := by
  go_enter Try.func22, Try.ntmps22
  go_wp2
  refine bodyPost_ret (v := .agg #[.int .i64 cl, .int .i64 sq, .int .i64 op, .string k, .string v, .string o]) (by simp [results, Try.results22, go_sem]) rfl ⟨rfl, ?_⟩
  exact (((Below.refl _ _).alloc (Nat.le_refl _) _).alloc (by simp) _).alloc (by simp; omega) _
set_option maxHeartbeats 2000000 in
set_option maxRecDepth 100000 in
theorem szCmd_u (cl sq op : Int) (k v o : ByteArray) (hk : k.size ≤ maxLen) (hv : v.size ≤ maxLen) (ho : o.size ≤ maxLen) (left : Int) (h0 : 0 ≤ left) (h1 : left ≤ 1048576) (w : World) :
    Calls Try.prog 19 #[.agg #[.int .i64 cl, .int .i64 sq, .int .i64 op, .string k, .string v, .string o], .int .i64 left] w fun e w' => (∃ s : Int, e = .returned (.int .i64 s) ∧ s ≤ left ∧ (0 ≤ s → k.size ≤ 1048576 ∧ v.size ≤ 1048576 ∧ o.size ≤ 1048576)) ∧ Below w.heap.size w w' := by
  unfold maxLen at hk hv ho
  go_enter Try.func19, Try.ntmps19
  go_wp2
  all_goals go_ret
  all_goals exact ⟨⟨_, rfl, by omega, fun h => by omega⟩, (Below.refl _ _).alloc (Nat.le_refl _) _⟩

end Go.Proofs.Ytelfejhopjbhpaa
