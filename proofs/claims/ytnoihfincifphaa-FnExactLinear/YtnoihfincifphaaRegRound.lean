/-
  A region that draws its order, in a round of a range over a function: by an invariant.
-/
import Derived.Test.YtnoihfincifphaaRegInv
import Derived.RangeFuncNested
import Derived.RangeFuncCalls
import Derived.OrdersIn
namespace Go.Proofs.Ytnoihfincifphaa
open Go.RowKit
set_option linter.unusedVariables false

theorem wpAnyIn_inv {F : Fence} {n : Nat} {P : Program} {ops : Array Oper} {Q : Exit → Act → World → Prop} {md : Region.Mode} (J : Array Bool → Act → World → Prop)
    (hstep : ∀ L a w i, L.size = ops.size → i ∈ Region.ready md ops L → J L a w → wpOpIn F n P ops Q i (J (L.setIfInBounds i true)) a w)
    (hend : ∀ L a w, L.size = ops.size → Region.ready md ops L = [] → J L a w → Q .normal a w) :
    ∀ (fuel : Nat) (L : Array Bool) (a : Act) (w : World), L.size = ops.size → L.toList.count false ≤ fuel → J L a w → wpAnyIn F n P md ops Q fuel L a w
  | 0, L, a, w, hs, hc, hJ => by
    have hr : Region.ready md ops L = [] := by
      cases h : Region.ready md ops L with
      | nil => rfl
      | cons x xs =>
        obtain ⟨h1, h2⟩ := ready_mem (md := md) hs (show x ∈ Region.ready md ops L by rw [h]; simp)
        have : false ∈ L.toList := List.mem_iff_getElem?.2 ⟨x, by simpa using h2⟩
        have := List.count_pos_iff.2 this
        omega
    exact ⟨hr, hend L a w hs hr hJ⟩
  | fuel + 1, L, a, w, hs, hc, hJ => by
    refine ⟨fun h => hend L a w hs h hJ, fun i hi => ?_⟩
    obtain ⟨h1, h2⟩ := ready_mem hs hi
    refine wpOpIn_mono (fun a' w' hJ' => wpAnyIn_inv J hstep hend fuel _ a' w' (by simpa using hs) ?_ hJ') (hstep L a w i hs hi hJ)
    have := count_set L.toList i (by simpa using h2)
    simp only [Array.toList_setIfInBounds]
    omega
theorem region_round {l n id : Nat} {P : Program} {ops : Array Oper} {Q : Exit → Act → World → Prop} {a : Act} {w : World} (hm : P.follows .mixedOrders = true) (J : Array Bool → Act → World → Prop)
    (h0 : J (Array.replicate ops.size false) a w.drew)
    (hstep : ∀ L a w i, L.size = ops.size → i ∈ Region.ready .any ops L → J L a w → ∃ o, ops[i]? = some o ∧ o.guard = none ∧ (∀ c, o.op ≠ .defer c) ∧ o.uponIn (Fence.wide.inRound l) n P a (J (L.setIfInBounds i true)) Q ((execOp a.eval o).run P w))
    (hend : ∀ L a w, L.size = ops.size → Region.ready .any ops L = [] → J L a w → Q .normal a w) : (Code.region id ops true).wpIn (Fence.wide.inRound l) n P Q a w := by
  refine wpIn_region_any hm (wpAnyIn_inv J (fun L a w i hs hi hJ => ?_) hend ops.size _ a _ (by simp) (by simp) h0)
  obtain ⟨o, ho, hg, hd, hu⟩ := hstep L a w i hs hi hJ
  unfold wpOpIn
  rw [ho]
  simp only [Region.wanted, hg, if_true]
  refine ⟨fun _ _ => trivial, ?_⟩
  rw [show o.semAt (Fence.wide.inRound l).round a.eval = execOp a.eval o from Oper.semAt_some l _ _ hd]
  exact hu
theorem wpIn_named {F : Fence} {n : Nat} {P : Program} {c : Code} {Q : Exit → Act → World → Prop} {a : Act} {w : World} (h : ∀ a0, a0 = a → c.wpIn F n P Q a0 w) : c.wpIn F n P Q a w := h a rfl
theorem uponIn_val {F : Fence} {n : Nat} {P : Program} {o : Oper} {a : Act} {next : Act → World → Prop} {Q : Exit → Act → World → Prop} {r : Result Next} {v : Value} {w : World} (he : r = .ok (.value v) w) (h : next (a.put o.dst v) w) : o.uponIn F n P a next Q r := by rw [he]; exact h
theorem uponIn_skp {F : Fence} {n : Nat} {P : Program} {o : Oper} {a : Act} {next : Act → World → Prop} {Q : Exit → Act → World → Prop} {r : Result Next} {w : World} (he : r = .ok .skip w) (h : next (a.put o.dst undef) w) : o.uponIn F n P a next Q r := by rw [he]; exact h
end Go.Proofs.Ytnoihfincifphaa
