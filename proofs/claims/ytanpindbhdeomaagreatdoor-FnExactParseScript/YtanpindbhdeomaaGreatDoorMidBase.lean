/-
  Stores into new blocks; results out of a cell.
-/
import Derived.Test.YtanpindbhdeomaaGreatDoorGround
import Derived.Deep.MidRow
import Derived.Deep.WholeRow
namespace Go.Proofs.YtanpindbhdeomaaGreatDoor
open Go.RowKit
set_option linter.unusedVariables false
set_option linter.unusedSimpArgs false

theorem below_setCells {B g : Nat} {w0 : World} (hg : B ≤ g) : ∀ (vs : List Value) (o : Nat) (w : World), Below B w0 w → Below B w0 (w.setCells g o vs)
  | [], _, _, h => h
  | v :: vs, o, w, h => below_setCells hg vs (o + 1) _ (h.setCell (show B ≤ (⟨g, o, none⟩ : Addr).block from hg) v)

theorem wpl_store_new {w : World} {ops : Array Oper} {rest : List Oper} {o : Oper} {a : Act} {Q : Exit → Act → World → Prop} (hgd : o.guard = none) (ty : TypeId) (x y : Operand) (ho : o.op = .store ty x y)
    (c c' : Array Value) (hx : a.eval x = .pointer (some ⟨w.heap.size, 0, none⟩)) (hy : a.eval y = .agg c') (hi : (Tryz.prog.info? ty).map (·.size) = some c'.size) (hc : c.size = c'.size) (h1 : c'.all (·.oneCell') = true)
    (h : wpList Tryz.prog ops Q rest (a.put o.dst undef) (w.alloc (.cells c' ty))) : wpList Tryz.prog ops Q (o :: rest) a (w.alloc (.cells c ty)) :=
  wpList_plain hgd fun K hK => by
    unfold Oper.wp execOp
    simp only [ho, hx, hy, Sem.run_bind, Sem.run_pure, Result.andThen_ok, run_storeAt_new w ty c c' hi hc h1]
    exact hK _ _ h

theorem range_new (w : World) (cs : List Value) (t : TypeId) : (w.alloc (.cells cs.toArray t)).rangeAt w.heap.size 0 cs := by
  intro j v hj
  rw [Nat.zero_add, World.cell?_alloc_new]
  simpa using hj

theorem results_cell {fn : Func} {t : Tmp} {ty : TypeId} {tmps : Array Value} {a : Addr} {w : World} {v : Value} (hr : fn.results = #[.cell t ty]) (ht : tmps.getD t undef = .pointer (some a))
    (hl : (loadVar ty a).run Tryz.prog w = .ok v w) : (results fn tmps).run Tryz.prog w = .ok v w := by
  have e : tmps[t]?.getD undef = .pointer (some a) := by rw [← ht]; simp
  simp [results, hr, e, hl, asAddr]

/-- a variable that the call itself made is there still -/
theorem there_new {w w2 : World} {cs : Array Value} {t : TypeId} (hb : Below (w.alloc (.cells cs t)).heap.size (w.alloc (.cells cs t)) w2) (hlt : w.heap.size < w2.heap.size) (o : Obj) : (w2.alloc o).there w.heap.size 0 cs.size := by
  intro j hj
  have c := hb.cell (p := ⟨w.heap.size, 0 + j, none⟩) (by simp)
  have f := hb.frozen (p := ⟨w.heap.size, 0 + j, none⟩) (by simp)
  rw [World.cell?_alloc_lt _ _ ⟨w.heap.size, 0 + j, none⟩ hlt, World.frozen?_alloc_old _ _ ⟨w.heap.size, 0 + j, none⟩ (Nat.ne_of_lt hlt), c, f]
  simp [hj]
end Go.Proofs.YtanpindbhdeomaaGreatDoor
