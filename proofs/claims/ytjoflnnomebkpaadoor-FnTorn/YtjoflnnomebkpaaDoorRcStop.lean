/-
  impl.stopCode; what replay rests on.
-/
import Derived.Test.YtjoflnnomebkpaaDoorRcFrame
import Derived.Test.YtjoflnnomebkpaaDoorRcChange
import Derived.Test.YtjoflnnomebkpaaDoorRcApply
namespace Go.Proofs.YtjoflnnomebkpaaDoor
open Go.RowKit
set_option linter.unusedVariables false
set_option linter.unusedSimpArgs false

theorem Bs.takeR {w : World} {a : Option Addr} {n c : Nat} {l : List Int} (h : Bs w (.slice a n c) l) (k : Nat) (hk : k ≤ l.length) : Bs w (.slice a k c) (l.take k) := by
  obtain ⟨hl, h8, a', cap, e, hc⟩ := h
  injection e with e1 e2 e3
  subst e1 e3
  have hlt : (l.take k).length = k := by rw [List.length_take]; omega
  refine ⟨by omega, fun x hx => h8 x (List.mem_of_mem_take hx), a, c, by rw [hlt], fun i hi => ?_⟩
  rw [hlt] at hi
  obtain ⟨b, off, rfl, hj⟩ := hc i (by omega)
  refine ⟨b, off, rfl, fun j hj' => ?_⟩
  rw [hlt] at hj'
  rw [hj j (by omega), List.getElem?_take, if_pos hj']
theorem meth_hard_apply (x : Value) (w : World) : (method 344 97 x "loop.example/s01586/impl.apply").run Tryd.prog w = .ok (157, x) w := by kernel_rfl
theorem meth_add_apply (x : Value) (w : World) : (method 344 138 x "loop.example/s01586/impl.apply").run Tryd.prog w = .ok (166, x) w := by kernel_rfl
theorem meth_cut_apply (x : Value) (w : World) : (method 344 136 x "loop.example/s01586/impl.apply").run Tryd.prog w = .ok (163, x) w := by kernel_rfl
theorem recB_add_t {i : Int} {x : Ent} (h : recB ⟨2, 0, 0, i, x⟩ = true) : 1 ≤ x.t := by
  rw [recB_add] at h
  simp only [Bool.and_eq_true, entB, inB_iff] at h
  exact h.2.1.1
theorem lastT_01 (l : List Ent) (x t : Int) (hx : 1 ≤ x) : inB x (lastT 0 l) t = inB x (lastT 1 l) t := by
  unfold lastT
  split
  · unfold inB
    have h1 : decide (0 ≤ x) = true := by simp; omega
    have h2 : decide (1 ≤ x) = true := by simp; omega
    rw [h1, h2]
  · rfl
theorem addB_eq (s : Stt) (i : Int) (x : Ent) (hx : 1 ≤ x.t) : addB s.t s.log i x = fitsB s ⟨2, 0, 0, i, x⟩ := by
  unfold addB fitsB
  simp only [lastT_01 s.log x.t s.t hx]
  rfl
theorem folR_eq (s : Stt) (t v : Int) : folR s.t s.v t v = fitsB s ⟨1, t, v, 0, ent0⟩ := rfl
theorem cutB_eq (s : Stt) (i : Int) : decide (i ≤ (s.log.length : Int)) = fitsB s ⟨3, 0, 0, i, ent0⟩ := rfl

/-- stopCode at a refusal -/
theorem stopC_at (i : Nat) (h : i = 3 ∨ i = 4 ∨ i = 5 ∨ i = 6 ∨ i = 7 ∨ i = 8 ∨ i = 9) : 1 ≤ stopC i ∧ stopC i ≤ 5 := by
  rcases h with rfl | rfl | rfl | rfl | rfl | rfl | rfl <;> decide
set_option maxHeartbeats 4000000 in
theorem stopCode_any (i : Nat) (h : i = 3 ∨ i = 4 ∨ i = 5 ∨ i = 6 ∨ i = 7 ∨ i = 8 ∨ i = 9) (w : World) (A : Nat → Addr) (B : Nat) (hs : Sents w A B) :
    Calls Tryd.prog 96 #[refV (A i) 0] w fun e w' => e = .returned (.int .i64 (stopC i)) ∧ Below w.heap.size w w' := by
  have y1 : True := trivial
  have y2 : True := trivial
  have y3 : True := trivial
  have y4 : True := trivial
  have y5 : True := trivial
  have y6 : True := trivial
  have y7 : True := trivial
  have c1 := hs.g7
  have hB := Below.refl w.heap.size w
  rcases h with rfl | rfl | rfl | rfl | rfl | rfl | rfl
  all_goals
    go_enter Tryd.func96, Tryd.ntmps96
    go_wp2_with (first
      | (go_at_call 86; clear y1; refine (is_at hs _ 7 0 (by decide) (by decide) (by decide) (by decide)).mono ?_; rintro e w1 ⟨rfl, hb⟩; replace hs := hs.below hb; replace hB := hB.trans (hb.mono hB.size); have c2 := hs.g8)
      | (go_at_call 86; clear y2; refine (is_at hs _ 8 0 (by decide) (by decide) (by decide) (by decide)).mono ?_; rintro e w2 ⟨rfl, hb⟩; replace hs := hs.below hb; replace hB := hB.trans (hb.mono hB.size); have c3 := hs.g3)
      | (go_at_call 86; clear y3; refine (is_at hs _ 3 0 (by decide) (by decide) (by decide) (by decide)).mono ?_; rintro e w3 ⟨rfl, hb⟩; replace hs := hs.below hb; replace hB := hB.trans (hb.mono hB.size); have c4 := hs.g4)
      | (go_at_call 86; clear y4; refine (is_at hs _ 4 0 (by decide) (by decide) (by decide) (by decide)).mono ?_; rintro e w4 ⟨rfl, hb⟩; replace hs := hs.below hb; replace hB := hB.trans (hb.mono hB.size); have c5 := hs.g5)
      | (go_at_call 86; clear y5; refine (is_at hs _ 5 0 (by decide) (by decide) (by decide) (by decide)).mono ?_; rintro e w5 ⟨rfl, hb⟩; replace hs := hs.below hb; replace hB := hB.trans (hb.mono hB.size); have c6 := hs.g6)
      | (go_at_call 86; clear y6; refine (is_at hs _ 6 0 (by decide) (by decide) (by decide) (by decide)).mono ?_; rintro e w6 ⟨rfl, hb⟩; replace hs := hs.below hb; replace hB := hB.trans (hb.mono hB.size); have c7 := hs.g9)
      | (go_at_call 86; clear y7; refine (is_at hs _ 9 0 (by decide) (by decide) (by decide) (by decide)).mono ?_; rintro e w7 ⟨rfl, hb⟩; replace hs := hs.below hb; replace hB := hB.trans (hb.mono hB.size)))
    go_ret
    exact ⟨rfl, hB⟩

end Go.Proofs.YtjoflnnomebkpaaDoor
