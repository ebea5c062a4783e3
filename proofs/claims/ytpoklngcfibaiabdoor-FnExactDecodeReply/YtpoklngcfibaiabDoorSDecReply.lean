/-
  spec.DecodeReply: what its walks use; a frame that is none.
-/
import Derived.Test.YtpoklngcfibaiabDoorSText
import Derived.Test.YtpoklngcfibaiabDoorFour
import Derived.Test.YtpoklngcfibaiabDoorImplDecReply
import Derived.Test.YtpoklngcfibaiabDoorGate
namespace Go.Proofs.YtpoklngcfibaiabDoor
open Go.RowKit
set_option linter.unusedVariables false
set_option linter.unusedSimpArgs false

theorem infoL1rd : (Tryd.prog.info? 34).map (·.size) = some 3 := by kernel_rfl

theorem there_of_block {w w' : World} {b o n : Nat} (hb : w'.heap[b]? = w.heap[b]?) (h : w.there b o n) : w'.there b o n := fun j hj => by
  rw [World.cell?_of_block (w := w) hb, show w'.frozen? ⟨b, o + j, none⟩ = w.frozen? ⟨b, o + j, none⟩ by simp only [World.frozen?, hb]]
  exact h j hj
theorem range_of_block {w w' : World} {b o : Nat} {cs : List Value} (hb : w'.heap[b]? = w.heap[b]?) (h : w.rangeAt b o cs) : w'.rangeAt b o cs := fun j v hj => by
  rw [World.cell?_of_block (w := w) hb]
  exact h j v hj
theorem there_at {w w1 : World} {cs : Array Value} {t : TypeId} (hb : Below (w.alloc (.cells cs t)).heap.size (w.alloc (.cells cs t)) w1) : w1.there w.heap.size 0 cs.size :=
  there_of_block (hb.block _ (by simp)) (fun j hj => by rw [Nat.zero_add]; simp [World.cell?_alloc_new, hj])
theorem there_grown {w w' : World} {b q n : Nat} (h : w.grownBy w' (some b)) (hq : q < b) (hT : w.there q 0 n) (hb : b ≤ w.heap.size) : w'.there q 0 n :=
  there_of_block (h.block q (by omega) (by intro e; injection e with e; omega)) hT
theorem below_grown {w w' : World} {b B : Nat} (h : w.grownBy w' (some b)) (hq : B ≤ b) (hb : b ≤ w.heap.size) : Below B w w' :=
  ⟨h.os, h.tape, h.output, h.size, fun k hk => h.block k (by omega) (by intro e; injection e with e; omega)⟩

theorem SRd.start {w : World} {a : Option Addr} {len c : Nat} {l : List Int} (hv : Bs w (.slice a len c) l) (hc : len ≤ c) (k : Nat) (hk : k ≤ l.length) :
    SRd (w.alloc (.cells #[.slice a len c, .int .i64 k, .bool false] 34)) w.heap.size (.slice a len c) l (w.heap.size + 1) (some (l.drop k)) := by
  refine ⟨by omega, by simp, hv.below ((Below.refl _ _).alloc (Nat.le_refl _) _), ⟨_, _, _, rfl, hc, fun h => ?_⟩, fun i => by simp, by simp [World.cell?_alloc_new], k, hk, by simp [World.cell?_alloc_new], by simp [World.cell?_alloc_new], fun l' h => by injection h with h; exact h.symm⟩
  obtain ⟨x, hx, hx'⟩ := hv.lt h
  exact ⟨x, hx, by omega⟩

theorem openC_len {l : List Int} {lo hi : Int} (h0 : openC l lo hi = 0) : 9 ≤ l.length ∧ l.length ≤ 16384 := by
  refine sumC_len ?_
  unfold openC at h0
  split at h0
  · assumption
  · next h => exact Decidable.not_not.1 h

set_option maxHeartbeats 4000000 in
set_option maxRecDepth 100000 in
theorem specDecReply_closed (a : Option Addr) (c : Nat) (l : List Int) (w : World) (hv : Bs w (.slice a l.length c) l) (hc : l.length ≤ c) (h0 : openC l 8 8 ≠ 0) :
    Calls Tryd.prog 4 #[.slice a l.length c] w fun e w' => e = .returned (.agg #[.int .i64 (openC l 8 8 : Nat), .int .i64 0, .int .i64 0, .int .i64 0, .int .i64 0, .int .i64 0, .string ⟨#[]⟩, .int .i64 0]) ∧ Below w.heap.size w w' := by
  have HO : Hid (∀ w', Below w.heap.size w w' → Calls Tryd.prog 9 #[.slice a l.length c, .int .i64 8, .int .i64 8] w' fun e w'' => e = .returned (.int .i64 (openC l 8 8 : Nat)) ∧ Below w'.heap.size w' w'') :=
    fun w' hb => l1open_any a l.length c l 8 8 w' (hv.below hb) hc _ hv.lt
  have h4 := openC_le l 8 8
  generalize openC l 8 8 = oc at *
  have hn : ((oc : Int) != 0) = true := by simpa using h0
  clear hv
  go_enter Tryd.func4, Tryd.ntmps4
  go_wp2_with (first
    | (go_at_call 9; refine Calls.mono (HO.out _ (Below.alloc (Below.refl _ _) (Nat.le_refl _) _)) ?_; rintro e w1 ⟨rfl, hb1⟩; have hB1 : Below w.heap.size w w1 := ((Below.refl _ _).alloc (Nat.le_refl _) _).trans (hb1.mono (by simp)); have hz1 : w.heap.size < w1.heap.size := (by have := hb1.size; simp at this; omega); have hT : w1.there w.heap.size 0 8 := there_at hb1)
    | (refine gate_store 26 (.tmp 2) (.tmp 18) rfl ?_; refine wpList_store_mid rfl 26 (.tmp 2) (.tmp 18) rfl w.heap.size 0 #[.int .i64 (oc : Nat), .int .i64 0, .int .i64 0, .int .i64 0, .int .i64 0, .int .i64 0, .string ⟨#[]⟩, .int .i64 0] rfl rfl hT infoRAns (by simp [Value.oneCell']) ?_; have hra4 := World.rangeAt_setCells_same _ w.heap.size 0 [.int .i64 (oc : Nat), .int .i64 0, .int .i64 0, .int .i64 0, .int .i64 0, .int .i64 0, .string ⟨#[]⟩, .int .i64 0] hT; have hld := run_loadVar_mid (P := Tryd.prog) _ w.heap.size 0 26 _ _ hra4 Tryd.underlying26 rfl infoRAns; have hB4 := below_setCells (Nat.le_refl _) [.int .i64 (oc : Nat), .int .i64 0, .int .i64 0, .int .i64 0, .int .i64 0, .int .i64 0, .string ⟨#[]⟩, .int .i64 0] 0 _ hB1; clear hra4; generalize (World.setCells _ w.heap.size 0 _) = W4 at hld hB4 ⊢))
  refine bodyPost_ret (v := .agg #[.int .i64 (oc : Nat), .int .i64 0, .int .i64 0, .int .i64 0, .int .i64 0, .int .i64 0, .string ⟨#[]⟩, .int .i64 0]) ?_ rfl ⟨rfl, hB4⟩
  exact results_cell Tryd.results4 rfl hld
end Go.Proofs.YtpoklngcfibaiabDoor
