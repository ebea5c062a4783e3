/-
  What the walks of spec's decoders use.
-/
import Derived.Test.YtafmjckpbcijoaaGreatDoorSText
import Derived.Test.YtafmjckpbcijoaaGreatDoorFour
import Derived.Test.YtafmjckpbcijoaaGreatDoorGround
namespace Go.Proofs.YtafmjckpbcijoaaGreatDoor
open Go.RowKit
set_option linter.unusedVariables false
set_option linter.unusedSimpArgs false

theorem infoL1rd : (Tryz.prog.info? 112).map (·.size) = some 3 := by kernel_rfl

theorem there_of_block {w w' : World} {b o n : Nat} (hb : w'.heap[b]? = w.heap[b]?) (h : w.there b o n) : w'.there b o n := fun j hj => by
  rw [World.cell?_of_block (w := w) hb, show w'.frozen? ⟨b, o + j, none⟩ = w.frozen? ⟨b, o + j, none⟩ by simp only [World.frozen?, hb]]
  exact h j hj
theorem range_of_block {w w' : World} {b o : Nat} {cs : List Value} (hb : w'.heap[b]? = w.heap[b]?) (h : w.rangeAt b o cs) : w'.rangeAt b o cs := fun j v hj => by
  rw [World.cell?_of_block (w := w) hb]
  exact h j v hj
theorem there_at {w w1 : World} {cs : Array Value} {t : TypeId} (hb : Below (w.alloc (.cells cs t)).heap.size (w.alloc (.cells cs t)) w1) : w1.there w.heap.size 0 cs.size :=
  there_of_block (hb.block _ (by simp)) (fun j hj => by rw [Nat.zero_add]; simp [World.cell?_alloc_new, hj])
theorem there_grown {w w' : World} {b q n : Nat} (h : w.grownBy w' (some b)) (hq : q < b) (hT : w.there q 0 n) (hb : b ≤ w.heap.size) : w'.there q 0 n :=
  there_of_block (h.block q (by omega) (by intro e; injection e with e; omega)) hT
theorem below_grown {w w' : World} {b B : Nat} (h : w.grownBy w' (some b)) (hq : B ≤ b) (hb : b ≤ w.heap.size) : Below B w w' :=
  ⟨h.os, h.tape, h.output, h.size, fun k hk => h.block k (by omega) (by intro e; injection e with e; omega)⟩

theorem SRd.start {w : World} {a : Option Addr} {len c : Nat} {l : List Int} (hv : Bs w (.slice a len c) l) (hc : len ≤ c) (k : Nat) (hk : k ≤ l.length) :
    SRd (w.alloc (.cells #[.slice a len c, .int .i64 k, .bool false] 112)) w.heap.size (.slice a len c) l (w.heap.size + 1) (some (l.drop k)) := by
  refine ⟨by omega, by simp, hv.below ((Below.refl _ _).alloc (Nat.le_refl _) _), ⟨_, _, _, rfl, hc, fun h => ?_⟩, fun i => by simp, by simp [World.cell?_alloc_new], k, hk, by simp [World.cell?_alloc_new], by simp [World.cell?_alloc_new], fun l' h => by injection h with h; exact h.symm⟩
  obtain ⟨x, hx, hx'⟩ := hv.lt h
  exact ⟨x, hx, by omega⟩

theorem openC_len {l : List Int} {lo hi : Int} (h0 : openC l lo hi = 0) : 9 ≤ l.length ∧ l.length ≤ 16384 := by
  refine sumC_len ?_
  unfold openC at h0
  split at h0
  · assumption
  · next h => exact Decidable.not_not.1 h
end Go.Proofs.YtafmjckpbcijoaaGreatDoor
