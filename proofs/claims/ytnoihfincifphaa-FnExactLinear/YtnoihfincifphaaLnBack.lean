/-
  slices.Backward at commands: what it hands out.
-/
import Derived.Test.YtnoihfincifphaaLnBase
import Derived.RangeFuncNested
import Derived.RangeFuncBox
import Derived.RangeFuncLeaves
import Derived.Shelf.Abstract
import Derived.WalkKit
import Derived.OwnWalkIn
import Derived.TacticsInMore
import Derived.LoopNIn
import Derived.LoopIn
namespace Go.Proofs.Ytnoihfincifphaa
open Go.RowKit Go.Maps Go.Shelf
set_option linter.unusedVariables false
set_option linter.unusedSimpArgs false
attribute [local go_sem] Oper.semAt_some

/-- what lay below n, and block Bs, lie as they lay -/
def KpB (n Bs : Nat) (W W' : World) : Prop := Below n W W' ∧ W'.heap[Bs]? = W.heap[Bs]?
theorem KpB.refl (n Bs : Nat) (W : World) : KpB n Bs W W := ⟨Below.refl _ _, rfl⟩
theorem KpB.trans {n Bs : Nat} {A B C : World} (h : KpB n Bs A B) (k : KpB n Bs B C) : KpB n Bs A C := ⟨h.1.trans k.1, k.2.trans h.2⟩
theorem KpB.cell {n Bs : Nat} {A B : World} (h : KpB n Bs A B) (o : Nat) : B.cell? ⟨Bs, o, none⟩ = A.cell? ⟨Bs, o, none⟩ := World.cell?_of_block h.2
/-- an index and a command that fits -/
abbrev IxC : Type := { p : Nat × Cm // p.2.fits }
def ixE (x : IxC) : Array Value := #[.int .i64 x.1.1, .agg #[.int .i64 x.1.2.cl, .int .i64 x.1.2.sq, .int .i64 x.1.2.op, .string x.1.2.k, .string x.1.2.v, .string x.1.2.o]]
theorem cmD_fits : cmD.fits := ⟨by decide, by decide, by decide, by decide, by decide, by decide⟩
theorem cmAt_fits {os : List Cm} (h : ∀ c ∈ os, c.fits) (i : Nat) : (cmAt os i).fits := by
  by_cases hi : i < os.length
  · rw [cmAt_eq hi]; exact h _ (List.getElem_mem hi)
  · unfold cmAt; rw [List.getElem?_eq_none (by omega)]; exact cmD_fits
/-- what has come when k rounds are over -/
def bkL (os : List Cm) (h : ∀ c ∈ os, c.fits) (k : Nat) : List IxC := (List.range k).map fun j => ⟨(os.length - 1 - j, cmAt os (os.length - 1 - j)), cmAt_fits h _⟩
theorem bkL_succ (os : List Cm) (h : ∀ c ∈ os, c.fits) (k : Nat) : bkL os h (k + 1) = bkL os h k ++ [⟨(os.length - 1 - k, cmAt os (os.length - 1 - k)), cmAt_fits h _⟩] := by simp [bkL, List.range_succ]
theorem bkL_length (os : List Cm) (h : ∀ c ∈ os, c.fits) (k : Nat) : (bkL os h k).length = k := by simp [bkL]
theorem infoCmK : (Try.prog.info? 63).map (·.size) = some 6 := by kernel_rfl

set_option maxRecDepth 100000 in
set_option maxHeartbeats 4000000 in
theorem back1_in (F : Fence) (n : Nat) (h7 : F.fn 96) (hro : F.round = none) (hn : 1 ≤ n) (l Bs n₀ b off cap : Nat) (os : List Cm) (hos : ∀ c ∈ os, c.fits) (hl : os.length ≤ 4096) (hb : b < n₀) (J Jx : List IxC → World → Prop)
    (hY : ∀ pre x W, J pre W → pre.length < os.length → YieldAt F (n - 1) Try.prog l (ixE x) W fun e W' =>
      (e = .returned (.bool true) ∧ J (pre ++ [x]) W' ∧ KpB n₀ Bs W W') ∨ (e = .returned (.bool false) ∧ Jx (pre ++ [x]) W'))
    (W : World) (hBs : W.cell? ⟨Bs, 0, none⟩ = some (.slice (some ⟨b, off, none⟩) os.length cap)) (hc : ∀ j (h : j < os.length), W.rangeAt b (off + j * 6) (cmC os[j])) (h0 : J [] W) :
    CallsIn F n Try.prog 96 #[.func (.yield l) #[] #[], .pointer (some ⟨Bs, 0, none⟩)] W fun e W' => (∃ v, e = .returned v) ∧
      ((∃ ys, ys = bkL os hos os.length ∧ J ys W') ∨ (∃ pre, True ∧ Jx pre W')) := by
  have hd1 : IntKind.i64.wrap ((os.length : Int) - 1) = (os.length : Int) - 1 := by rw [IntKind.wrap_i64]; omega
  refine callsIn_of_wp Try.func96 rfl h7 ?_ hro
  simp only [Try.ntmps96, List.size_toArray, List.length_cons, List.length_nil, Nat.reduceAdd, Nat.reduceSub, Array.replicate_succ, Array.replicate_zero, List.push_toArray, List.append_toArray, List.nil_append, List.cons_append]
  gi_wp2
  gi_loopw [3] (fun i wr => ∃ k : Nat, k ≤ os.length ∧ i = .int .i64 ((os.length : Int) - 1 - k) ∧ J (bkL os hos k) wr ∧ KpB n₀ Bs W wr)
    (fun i _ => (RowKit.intOf i + 1).toNat)
  case atStart => exact ⟨0, Nat.zero_le _, by simp, h0, KpB.refl _ _ _⟩
  case round =>
    obtain ⟨k, hk, rfl, hJs, hnx⟩ := hrel
    have hcs : wr.cell? ⟨Bs, 0, none⟩ = some (.slice (some ⟨b, off, none⟩) os.length cap) := (hnx.cell 0).trans hBs
    by_cases hlt : k < os.length
    · obtain ⟨i, hi⟩ : ∃ i, i = os.length - 1 - k := ⟨_, rfl⟩
      have hil : i < os.length := by omega
      have hie : (os.length : Int) - 1 - k = (i : Int) := by omega
      obtain ⟨fn, tmps, assign, body, hy, hR⟩ := hY _ ⟨(i, cmAt os i), cmAt_fits hos i⟩ wr hJs (by rw [bkL_length]; exact hlt)
      have HJ3 : Hid (∀ W', J (bkL os hos k ++ [⟨(i, cmAt os i), cmAt_fits hos i⟩]) W' → J (bkL os hos (k + 1)) W') := fun W' h => by rw [bkL_succ]; subst hi; exact h
      have hr : wr.rangeAt b (off + i * 6) (cmC os[i]) := fun j v hj => (hnx.1.cell (p := ⟨b, off + i * 6 + j, none⟩) hb).trans (hc i hil j v hj)
      rw [← cmAt_eq hil] at hr
      obtain ⟨c, hcc⟩ : ∃ c, c = cmAt os i := ⟨_, rfl⟩
      have hcf : c.fits := by rw [hcc]; exact cmAt_fits hos i
      have hy' : (Instr.yield l #[.int .i64 i, .agg #[.int .i64 c.cl, .int .i64 c.sq, .int .i64 c.op, .string c.k, .string c.v, .string c.o]]).run Try.prog wr = .ok (.round l fn tmps assign body) wr := by rw [hcc]; exact hy
      rw [← hcc] at hr
      have c0 : wr.cell? ⟨b, off + i * 6, none⟩ = some (.int .i64 c.cl) := hr 0 _ rfl
      have c1 : wr.cell? ⟨b, off + i * 6 + 1, none⟩ = some (.int .i64 c.sq) := hr 1 _ rfl
      have c2 : wr.cell? ⟨b, off + i * 6 + 2, none⟩ = some (.int .i64 c.op) := hr 2 _ rfl
      have c3 : wr.cell? ⟨b, off + i * 6 + 3, none⟩ = some (.string c.k) := hr 3 _ rfl
      have c4 : wr.cell? ⟨b, off + i * 6 + 4, none⟩ = some (.string c.v) := hr 4 _ rfl
      have c5 : wr.cell? ⟨b, off + i * 6 + 5, none⟩ = some (.string c.o) := hr 5 _ rfl
      rw [hie]
      have hge : (0 : Int) ≤ (i : Int) := by omega
      have hd2 : IntKind.i64.wrap ((i : Int) - 1) = (i : Int) - 1 := by rw [IntKind.wrap_i64]; omega
      have HI : Hid (i = os.length - 1 - k) := hi
      clear hy hcc hr hc hBs hi hie
      gi_wp2
      refine hR.mono ?_
      rintro e W3 (⟨rfl, hJ3, hk3⟩ | ⟨rfl, hJx3⟩)
      · gi_wp2
        go_roundw
        case rel => exact ⟨k + 1, by omega, by have := HI.out; first | (congr 1; omega) | (simp; omega), HJ3.out _ hJ3, hnx.trans hk3⟩
        case measure => simp [RowKit.intOf]
      · gi_wp2
        refine bodyPost_ret (results_none rfl _ _ _) rfl ?_
        exact ⟨⟨_, rfl⟩, .inr ⟨_, trivial, hJx3⟩⟩
    · obtain rfl : k = os.length := by omega
      have hie : (os.length : Int) - 1 - (os.length : Int) = -1 := by omega
      rw [hie]
      gi_wp2
      go_end0
      exact ⟨⟨_, rfl⟩, .inl ⟨_, rfl, hJs⟩⟩
set_option maxRecDepth 100000 in
set_option maxHeartbeats 4000000 in
theorem back0_in (F : Fence) (n : Nat) (h7 : F.fn 96) (hro : F.round = none) (l Bs cap : Nat) (a : Option Addr) (J : List IxC → World → Prop) (W : World) (hBs : W.cell? ⟨Bs, 0, none⟩ = some (.slice a 0 cap)) (h0 : J [] W) :
    CallsIn F n Try.prog 96 #[.func (.yield l) #[] #[], .pointer (some ⟨Bs, 0, none⟩)] W fun e W' => (∃ v, e = .returned v) ∧ J [] W' := by
  refine callsIn_of_wp Try.func96 rfl h7 ?_ hro
  simp only [Try.ntmps96, List.size_toArray, List.length_cons, List.length_nil, Nat.reduceAdd, Nat.reduceSub, Array.replicate_succ, Array.replicate_zero, List.push_toArray, List.append_toArray, List.nil_append, List.cons_append]
  gi_wp2
  gi_loopw [3] (fun i wr => i = .int .i64 (-1) ∧ J [] wr) (fun _ _ => 0)
  case atStart => exact ⟨rfl, h0⟩
  case round =>
    obtain ⟨rfl, hJs⟩ := hrel
    gi_wp2
    go_end0
    exact ⟨⟨_, rfl⟩, hJs⟩
set_option maxHeartbeats 1000000 in
theorem back_any (a : Option Addr) (len cap : Nat) (w : World) :
    Calls Try.prog 77 #[.slice a len cap] w fun e w' => e = .returned (.func (.func 96) #[] #[.pointer (some ⟨w.heap.size, 0, none⟩)]) ∧ w' = w.alloc (.cells #[.slice a len cap] 31) := by
  go_enter Try.func77, Try.ntmps77
  go_wp2
  go_ret
  exact ⟨rfl, rfl⟩
theorem back_stops (F : Fence) (n : Nat) (h7 : F.fn 96) (hro : F.round = none) (hn : 1 ≤ n) (Bs n₀ : Nat) (a : Option Addr) (cap : Nat) (os : List Cm) (hos : ∀ c ∈ os, c.fits) (hl : os.length ≤ 4096) (w : World) (hBs : Bs < w.heap.size) (hn₀ : n₀ ≤ w.heap.size)
    (hc : w.cell? ⟨Bs, 0, none⟩ = some (.slice a os.length cap)) (hI : Cms w (.slice a os.length cap) os) (hlt : ∀ b off, a = some ⟨b, off, none⟩ → 0 < os.length → b < n₀) :
    SeqStopsK F n Try.prog 96 #[.pointer (some ⟨Bs, 0, none⟩)] ixE (KpB n₀ Bs) (fun ys => ys = bkL os hos os.length) (fun _ => True) os.length w := fun l J Jx W hW _ _ hY h0 => by
  have hc' := (hW.cell (p := ⟨Bs, 0, none⟩) hBs).trans hc
  by_cases h : 0 < os.length
  · obtain ⟨b, off, rfl, hr⟩ := (hI.below hW).at_ h
    exact back1_in F n h7 hro hn l Bs n₀ b off cap os hos hl (hlt b off rfl h) J Jx hY W hc' hr h0
  · obtain rfl : os = [] := List.eq_nil_of_length_eq_zero (by omega)
    exact (back0_in F n h7 hro l Bs cap a J W hc' h0).mono fun e W' ⟨he, hj⟩ => ⟨he, .inl ⟨_, rfl, hj⟩⟩
end Go.Proofs.Ytnoihfincifphaa
