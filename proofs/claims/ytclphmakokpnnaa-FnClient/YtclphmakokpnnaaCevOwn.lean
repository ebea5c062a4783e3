/-
  Slices of client events that the call itself owns; append to them.
-/
import Derived.Test.YtclphmakokpnnaaCliPure
import Derived.Test.YtclphmakokpnnaaBlk
namespace Go.Proofs.Ytclphmakokpnnaa
open Go.RowKit
set_option linter.unusedVariables false

theorem infoCev : (Try.prog.info? 45).map (fun i => (i.zero, i.size, i.bytes)) = some (some (.agg #[.int .i64 0, .int .i64 0, .int .i64 0, .int .i64 0, .string ⟨#[]⟩, .string ⟨#[]⟩, .string ⟨#[]⟩, .int .i64 0, .int .i64 0, .int .i64 0, .int .i64 0, .string ⟨#[]⟩, .int .i64 0]), 13, 136) := by kernel_rfl

def Cev.cells (e : Cev) : List Value := [.int .i64 e.kd, .int .i64 e.ecl, .int .i64 e.esq, .int .i64 e.eop, .string e.ek, .string e.ev, .string e.eo, .int .i64 e.rcl, .int .i64 e.rsq, .int .i64 e.rst, .int .i64 e.rcd, .string e.rv, .int .i64 e.rld]
def cevCells : List Cev → List Value
  | [] => []
  | e :: l => e.cells ++ cevCells l
theorem cevCells_app (l k : List Cev) : cevCells (l ++ k) = cevCells l ++ cevCells k := by
  induction l with
  | nil => rfl
  | cons e l ih => rw [List.cons_append, cevCells, ih, cevCells, List.append_assoc]
theorem cevCells_len (l : List Cev) : (cevCells l).length = l.length * 13 := by
  induction l with
  | nil => rfl
  | cons e l ih => rw [cevCells, List.length_append, ih, List.length_cons]; simp [Cev.cells]; omega
theorem cevCells_get (l : List Cev) : ∀ (j : Nat) (h : j < l.length) (i : Nat), i < 13 → (cevCells l)[j * 13 + i]? = l[j].cells[i]? := by
  induction l with
  | nil => intro j h; simp at h
  | cons e l ih =>
    intro j h i hi
    have h7 : e.cells.length = 13 := rfl
    cases j with
    | zero => rw [cevCells, List.getElem?_append_left (by rw [h7]; omega)]; simp
    | succ j =>
      rw [cevCells, List.getElem?_append_right (by rw [h7]; omega), h7, show (j + 1) * 13 + i - 13 = j * 13 + i by omega, ih j (by simpa using h) i hi]
      simp

/-- the slice value v, in memory from block B on that is the call's own, holds the entries l -/
def OwnV (w : World) (B : Nat) (v : Value) (l : List Cev) : Prop :=
  True ∧ w.ownsRow B 45 13 v l.length (cevCells l)

theorem OwnV.nil (w : World) (B : Nat) : OwnV w B (.slice none 0 0) [] := ⟨trivial, World.ownsRow_nil w B _ 13⟩
theorem OwnV.made (w : World) (B : Nat) (hB : B ≤ w.heap.size) : OwnV (w.alloc (.cells #[] 45)) B (.slice (some ⟨w.heap.size, 0, none⟩) 0 0) [] :=
  ⟨trivial, World.ownsRow_made w #[] 0 hB (by decide) (by simp)⟩
theorem OwnV.shape {w : World} {B : Nat} {v : Value} {l : List Cev} (h : OwnV w B v l) : ∃ a cap, v = .slice a l.length cap := by
  rcases h.2.2 with ⟨rfl, h0⟩ | ⟨g, cap, cur, rfl, _⟩
  · exact ⟨none, 0, by rw [h0]⟩
  · exact ⟨_, _, rfl⟩
theorem OwnV.shape' {w : World} {B : Nat} {v : Value} {l : List Cev} (h : OwnV w B v l) (hl : 0 < l.length) : ∃ g cap, v = .slice (some ⟨g, 0, none⟩) l.length cap := by
  rcases h.2.2 with ⟨rfl, h0⟩ | ⟨g, cap, cur, rfl, _⟩
  · omega
  · exact ⟨_, _, rfl⟩
theorem OwnV.le {w : World} {B B' : Nat} {v : Value} {l : List Cev} (h : OwnV w B v l) (hb : B' ≤ B) : OwnV w B' v l := by
  refine ⟨h.1, h.2.1, ?_⟩
  rcases h.2.2 with h | ⟨g, cap, cur, hv, hg, r⟩
  · exact .inl h
  · exact .inr ⟨g, cap, cur, hv, Nat.le_trans hb hg, r⟩
theorem OwnV.block {w w' : World} {B : Nat} {v : Value} {l : List Cev} (h : OwnV w B v l) (hb : ∀ k, v.ownBlock = some k → w'.heap[k]? = w.heap[k]?) : OwnV w' B v l := by
  refine ⟨h.1, h.2.1, ?_⟩
  rcases h.2.2 with h | ⟨g, cap, cur, hv, hg, hh, r⟩
  · exact .inl h
  · subst hv
    exact .inr ⟨g, cap, cur, rfl, hg, (hb g rfl).trans hh, r⟩
theorem OwnV.below {w w' : World} {B : Nat} {v : Value} {l : List Cev} (h : OwnV w B v l) (hb : Below w.heap.size w w') : OwnV w' B v l :=
  h.block fun k hk => hb.block k (h.2.lt k hk).2
/-- .. through a call that writes in one block that is older -/
theorem OwnV.grown {w w' : World} {B b : Nat} {v : Value} {l : List Cev} (h : OwnV w B v l) (hg : w.grownBy w' (some b)) (hb : b < B) : OwnV w' B v l :=
  h.block fun k hk => hg.block k (h.2.lt k hk).2 (by intro e; injection e with e; have := (h.2.lt k hk).1; omega)
theorem OwnV.at {w : World} {B : Nat} {v : Value} {l : List Cev} (h : OwnV w B v l) (j : Nat) (hj : j < l.length) : ∃ g cap, v = .slice (some ⟨g, 0, none⟩) l.length cap ∧ ∀ i, i < 13 → w.cell? ⟨g, j * 13 + i, none⟩ = l[j].cells[i]? := by
  obtain ⟨g, cap, rfl⟩ := h.shape' (by omega)
  refine ⟨g, cap, rfl, fun i hi => ?_⟩
  rw [h.2.cellAt (j * 13 + i) (by omega)]
  exact cevCells_get l j hj i hi

theorem growV {B : Nat} {w w' : World} {v v' : Value} {l : List Cev} (h : Grew w v w' v') (hown : OwnV w B v l) (hB : B ≤ w.heap.size) : Below B w w' :=
  (Below.refl _ _).grown h.g hB (fun k hk => (hown.2.lt k hk).1)

set_option maxRecDepth 100000 in
theorem wpl_appendV {w : World} {ops : Array Oper} {rest : List Oper} {o : Oper} {a : Act} {Q : Exit → Act → World → Prop} (hgd : o.guard = none) (s x : Operand)
    (ho : o.op = .call { callee := .builtin .append, args := #[s, x], argTypes := #[36, 36] })
    {B : Nat} {v : Value} {l : List Cev} (e : Cev) (hown : OwnV w B v l) (hs : a.eval s = v) (b c : Nat) {C : Array Value} {T : TypeId} (hu : Blk w b C T) (hC : C.toList = e.cells) (hx : a.eval x = .slice (some ⟨b, 0, none⟩) 1 c) (hlen : l.length ≤ 1000000) (hB : B ≤ w.heap.size)
    (h : ∀ v' w', OwnV w' B v' (l ++ [e]) → Grew w v w' v' → wpList Try.prog ops Q rest (a.put o.dst v') w') : wpList Try.prog ops Q (o :: rest) a w := by
  obtain ⟨i0, hi, hz0, hz1, hz2⟩ := info_parts infoCev
  refine wpList_append_own_at w hgd s x 36 ho B 45 i0 _ 13 136 Try.underlying36 hi hz0 hz1 hz2 rfl (by decide) v l.length _ hs hown.2 ⟨b, 0, none⟩ 1 c e.cells hx rfl ?_ ?_ (by unfold maxLen; omega) (by omega) hB ?_
  · intro j u hj
    rw [cell_add, Nat.zero_add, hu.cell j, ← hj, ← hC]
    simp
  · intro u hu
    simp only [Cev.cells, List.mem_cons, List.not_mem_nil, or_false] at hu
    rcases hu with rfl | rfl | rfl | rfl | rfl | rfl | rfl | rfl | rfl | rfl | rfl | rfl | rfl <;> rfl
  · intro v' w' h2 h3 _ h5
    exact h v' w' ⟨trivial, by rw [cevCells_app]; simpa [cevCells] using h2⟩ ⟨h3, h5.imp id fun e => ⟨_, e, Nat.le_refl _⟩⟩
end Go.Proofs.Ytclphmakokpnnaa
