/-
  A block of cells, whole: what it holds, over what leaves it; a struct loaded out of it and stored into it at one blow.
-/
import Derived.Test.YtanpindbhdeomaaGreatDoorGround
import Derived.Deep.MidRow
import Derived.Deep.WholeRow
namespace Go.Proofs.YtanpindbhdeomaaGreatDoor
open Go.RowKit
set_option linter.unusedVariables false

/-- block b holds the cells C, none frozen -/
def Blk (w : World) (b : Nat) (C : Array Value) (t : TypeId) : Prop := w.heap[b]? = some (.cells C t (0, 0))

section
variable {w w' : World} {b : Nat} {C : Array Value} {t : TypeId}

theorem Blk.cell (h : Blk w b C t) (j : Nat) : w.cell? ⟨b, j, none⟩ = C[j]? := cell_of_row w b j C t _ h
theorem Blk.free (h : Blk w b C t) (j : Nat) : w.frozen? ⟨b, j, none⟩ = false := by
  have : w.heap[b]? = some (.cells C t (0, 0)) := h
  simp [World.frozen?, this]
theorem Blk.lt (h : Blk w b C t) : b < w.heap.size := (Array.getElem?_eq_some_iff.1 h).1
theorem Blk.new (w : World) (C : Array Value) (t : TypeId) : Blk (w.alloc (.cells C t)) w.heap.size C t := heap_alloc_last w _
theorem Blk.new' (w : World) (C : Array Value) (t : TypeId) {k : Nat} (hk : k = w.heap.size) : Blk (w.alloc (.cells C t)) k C t := by subst hk; exact Blk.new w C t
theorem Blk.alloc (h : Blk w b C t) (o : Obj) : Blk (w.alloc o) b C t := (Below.heap_alloc w o b h.lt).trans h
theorem Blk.below {B : Nat} (h : Blk w b C t) (hb : Below B w w') (hlt : b < B) : Blk w' b C t := (hb.block b hlt).trans h
theorem Blk.keep (h : Blk w b C t) (hb : w'.heap[b]? = w.heap[b]?) : Blk w' b C t := hb.trans h
theorem Blk.drew (h : Blk w b C t) : Blk w.drew b C t := h
theorem Blk.set_other (h : Blk w b C t) {p : Addr} (v : Value) (hne : b ≠ p.block) : Blk (w.setCell p v) b C t := (Below.heap_setCell w p v b hne).trans h
theorem Blk.set (h : Blk w b C t) (j : Nat) (v : Value) : Blk (w.setCell ⟨b, j, none⟩ v) b (C.setIfInBounds j v) t := by
  unfold Blk
  rw [setCell_eq_setRow w b j C t (0, 0) v h]
  exact setRow_heap w b C _ t _ h
theorem Blk.row (h : Blk w b C t) (C' : Array Value) : Blk (w.setRow b C') b C' t := setRow_heap w b C C' t _ h
theorem Blk.row_other (h : Blk w b C t) {k : Nat} (C' : Array Value) (hne : b ≠ k) : Blk (w.setRow k C') b C t := (setRow_other w k b C' hne).trans h
theorem Blk.range (h : Blk w b C t) : w.rangeAt b 0 C.toList := fun j v hv => by
  rw [Nat.zero_add, h.cell j, ← hv]; simp
theorem Blk.there (h : Blk w b C t) : w.there b 0 C.size := fun j hj => by
  rw [Nat.zero_add]
  refine ⟨?_, h.free j⟩
  rw [h.cell j, Array.getElem?_eq_getElem hj]; rfl
theorem below_row {B : Nat} {a : World} (h : Below B a w) {k : Nat} (hk : B ≤ k) (C' : Array Value) : Below B a (w.setRow k C') := h.trans ⟨rfl, rfl, rfl, by simp [World.setRow], fun i hi => setRow_other w k i C' (by omega)⟩
end

section
variable {P : Program} {ops : Array Oper} {rest : List Oper} {o : Oper} {a : Act} {w : World} {Q : Exit → Act → World → Prop}

theorem gate_ld (ty : TypeId) (x : Operand) (ho : o.op = .load ty x) (h : wpList P ops Q (o :: rest) a w) : wpList P ops Q (o :: rest) a w := h
theorem gate_st (ty : TypeId) (x y : Operand) (ho : o.op = .store ty x y) (h : wpList P ops Q (o :: rest) a w) : wpList P ops Q (o :: rest) a w := h

theorem wpl_load_blk (hgd : o.guard = none) (ty : TypeId) (x : Operand) (ho : o.op = .load ty x) (b : Nat) (hx : a.eval x = .pointer (some ⟨b, 0, none⟩)) {C : Array Value} {t : TypeId} (hb : Blk w b C t)
    {d : TypeDesc} (hu : P.underlying ty = some d) (hd : d.isRow = true) {n : Nat} (hi : (P.info? ty).map (·.size) = some n) (hn : n = C.size)
    (h : wpList P ops Q rest (a.put o.dst (.agg C)) w) : wpList P ops Q (o :: rest) a w :=
  wpList_load_mid hgd ty x ho b 0 hx C.toList d hb.range hu hd (by rw [hi, hn]; simp) h

theorem wp_store_blk {K : Act → World → Prop} (ty : TypeId) (x y : Operand) (ho : o.op = .store ty x y) (b : Nat) (hx : a.eval x = .pointer (some ⟨b, 0, none⟩)) {C C' : Array Value} (hy : a.eval y = .agg C')
    {t : TypeId} (hb : Blk w b C t) {n : Nat} (hi : (P.info? ty).map (·.size) = some n) (hn : n = C'.size) (hc : C.size = C'.size) (h1 : C'.all (·.oneCell') = true)
    (h : K (a.put o.dst undef) (w.setRow b C')) : o.wp P a w K Q := by
  unfold Oper.wp execOp
  simp only [ho, hx, hy, Instr.storeAt, Instr.sureAddr, Sem.run_bind, Sem.run_pure, Result.andThen_ok, run_storeVar_row w b t ty C C' hb (by rw [hi, hn]) hc h1]
  exact h

theorem wp_load_blk {K : Act → World → Prop} (ty : TypeId) (x : Operand) (ho : o.op = .load ty x) (b : Nat) (hx : a.eval x = .pointer (some ⟨b, 0, none⟩)) {C : Array Value} {t : TypeId} (hb : Blk w b C t)
    {d : TypeDesc} (hu : P.underlying ty = some d) (hd : d.isRow = true) {n : Nat} (hi : (P.info? ty).map (·.size) = some n) (hn : n = C.size)
    (h : K (a.put o.dst (.agg C)) w) : o.wp P a w K Q :=
  wp_load_mid ty x ho b 0 hx C.toList d hb.range hu hd (by rw [hi, hn]; simp) h

/-- the same behind a guard that lets it go -/
theorem wpl_load_blkG {gj : Nat} {gb : Bool} (hgd : o.guard = some (gj, gb)) (hy : yielded ops a.tmps gj = some gb) (ty : TypeId) (x : Operand) (ho : o.op = .load ty x) (b : Nat) (hx : a.eval x = .pointer (some ⟨b, 0, none⟩)) {C : Array Value} {t : TypeId} (hb : Blk w b C t)
    {d : TypeDesc} (hu : P.underlying ty = some d) (hd : d.isRow = true) {n : Nat} (hi : (P.info? ty).map (·.size) = some n) (hn : n = C.size)
    (h : wpList P ops Q rest (a.put o.dst (.agg C)) w) : wpList P ops Q (o :: rest) a w :=
  wpList_step fun K hK => by
    simp only [Region.wanted, hgd, hy, beq_self_eq_true, if_true]
    exact wp_load_blk ty x ho b hx hb hu hd hi hn (hK _ _ h)

theorem wpl_store_blk (hgd : o.guard = none) (ty : TypeId) (x y : Operand) (ho : o.op = .store ty x y) (b : Nat) (hx : a.eval x = .pointer (some ⟨b, 0, none⟩)) {C C' : Array Value} (hy : a.eval y = .agg C')
    {t : TypeId} (hb : Blk w b C t) {n : Nat} (hi : (P.info? ty).map (·.size) = some n) (hn : n = C'.size) (hc : C.size = C'.size) (h1 : C'.all (·.oneCell') = true)
    (h : wpList P ops Q rest (a.put o.dst undef) (w.setRow b C')) : wpList P ops Q (o :: rest) a w :=
  wpList_plain hgd fun K hK => by
    unfold Oper.wp execOp
    simp only [ho, hx, hy, Instr.storeAt, Instr.sureAddr, Sem.run_bind, Sem.run_pure, Result.andThen_ok, run_storeVar_row w b t ty C C' hb (by rw [hi, hn]) hc h1]
    exact hK _ _ h

/-- the store of a whole struct into the block that was made last -/
theorem wpl_store_last {c c' : Array Value} {t : TypeId} (hgd : o.guard = none) (ty : TypeId) (x y : Operand) (ho : o.op = .store ty x y) (k : Nat) (hx : a.eval x = .pointer (some ⟨k, 0, none⟩)) (hk : k = w.heap.size) (hy : a.eval y = .agg c')
    {n : Nat} (hi : (P.info? ty).map (·.size) = some n) (hn : n = c'.size) (hc : c.size = c'.size) (h1 : c'.all (·.oneCell') = true)
    (h : wpList P ops Q rest (a.put o.dst undef) (w.alloc (.cells c' t))) : wpList P ops Q (o :: rest) a (w.alloc (.cells c t)) := by
  subst hk
  refine wpl_store_blk hgd ty x y ho _ hx hy (Blk.new _ _ _) hi hn hc h1 ?_
  rw [World.setRow_alloc_new]; exact h

theorem setRow_under (w : World) (o : Obj) (c c' : Array Value) (t : TypeId) : ((w.alloc (.cells c t)).alloc o).setRow w.heap.size c' = (w.alloc (.cells c' t)).alloc o := by
  simp only [World.setRow, World.alloc]
  congr 1
  apply Array.ext_getElem?
  intro i
  rw [Array.getElem?_modify]
  by_cases h : w.heap.size = i
  · subst h
    simp [Array.getElem?_push]
  · have h' : ¬ i = w.heap.size := fun e => h e.symm
    simp [h, h', Array.getElem?_push]

/-- .. and into the one below it -/
theorem wpl_store_under {c c' : Array Value} {t : TypeId} {ob : Obj} (hgd : o.guard = none) (ty : TypeId) (x y : Operand) (ho : o.op = .store ty x y) (k : Nat) (hx : a.eval x = .pointer (some ⟨k, 0, none⟩)) (hk : k = w.heap.size) (hy : a.eval y = .agg c')
    {n : Nat} (hi : (P.info? ty).map (·.size) = some n) (hn : n = c'.size) (hc : c.size = c'.size) (h1 : c'.all (·.oneCell') = true)
    (h : wpList P ops Q rest (a.put o.dst undef) ((w.alloc (.cells c' t)).alloc ob)) : wpList P ops Q (o :: rest) a ((w.alloc (.cells c t)).alloc ob) := by
  subst hk
  refine wpl_store_blk hgd ty x y ho _ hx hy ((Blk.new _ _ _).alloc _) hi hn hc h1 ?_
  rw [setRow_under]; exact h
end

/-- a result that lies in a block -/
theorem results_blk {fn : Func} {s : Tmp} {ty : TypeId} {tmps : Array Value} {b : Nat} {w : World} {C : Array Value} {t : TypeId} (hr : fn.results = #[.cell s ty]) (ht : tmps.getD s undef = .pointer (some ⟨b, 0, none⟩))
    (hb : Blk w b C t) {d : TypeDesc} (hu : Tryz.prog.underlying ty = some d) (hd : d.isRow = true) {n : Nat} (hi : (Tryz.prog.info? ty).map (·.size) = some n) (hn : n = C.size) : (results fn tmps).run Tryz.prog w = .ok (.agg C) w := by
  have e : tmps[s]?.getD undef = .pointer (some ⟨b, 0, none⟩) := by rw [← ht]; simp
  have hl := run_loadVar_mid (P := Tryz.prog) w b 0 ty C.toList d hb.range hu hd (by rw [hi, hn]; simp)
  simp [results, hr, e, hl, asAddr]
end Go.Proofs.YtanpindbhdeomaaGreatDoor
