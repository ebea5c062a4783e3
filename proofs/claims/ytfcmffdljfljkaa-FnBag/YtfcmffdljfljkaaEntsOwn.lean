/-
  Slices of entries that the call itself owns; append tq them.
-/
import Derived.Test.YtfcmffdljfljkaaEntsBase
import Derived.Test.YtfcmffdljfljkaaGround
namespace Go.Proofs.Ytfcmffdljfljkaa
open Go.RowKit
set_option linter.unusedVariables false

theorem infoEnt : (Try.prog.info? 91).map (fun i => (i.zero, i.size, i.bytes)) = some (some (.agg #[.int .i64 0, .int .i64 0, .int .i64 0, .int .i64 0, .string ⟨#[]⟩, .string ⟨#[]⟩, .string ⟨#[]⟩]), 7, 80) := by kernel_rfl

def Ent.cells (e : Ent) : List Value := [.int .i64 e.t, .int .i64 e.cl, .int .i64 e.sq, .int .i64 e.op, .string e.k, .string e.v, .string e.o]
def entCells : List Ent → List Value
  | [] => []
  | e :: l => e.cells ++ entCells l
theorem entCells_app (l k : List Ent) : entCells (l ++ k) = entCells l ++ entCells k := by
  induction l with
  | nil => rfl
  | cons e l ih => rw [List.cons_append, entCells, ih, entCells, List.append_assoc]
theorem entCells_len (l : List Ent) : (entCells l).length = l.length * 7 := by
  induction l with
  | nil => rfl
  | cons e l ih => rw [entCells, List.length_append, ih, List.length_cons]; simp [Ent.cells]; omega
theorem entCells_get (l : List Ent) : ∀ (j : Nat) (h : j < l.length) (i : Nat), i < 7 → (entCells l)[j * 7 + i]? = l[j].cells[i]? := by
  induction l with
  | nil => intro j h; simp at h
  | cons e l ih =>
    intro j h i hi
    have h7 : e.cells.length = 7 := rfl
    cases j with
    | zero => rw [entCells, List.getElem?_append_left (by rw [h7]; omega)]; simp
    | succ j =>
      rw [entCells, List.getElem?_append_right (by rw [h7]; omega), h7, show (j + 1) * 7 + i - 7 = j * 7 + i by omega, ih j (by simpa using h) i hi]
      simp

/-- the slice value v, in memory from block B on that is the call's own, holds the entries l -/
def OwnE (w : World) (B : Nat) (v : Value) (l : List Ent) : Prop :=
  (∀ e ∈ l, e.fits) ∧ w.ownsRow B 91 7 v l.length (entCells l)

theorem OwnE.nil (w : World) (B : Nat) : OwnE w B (.slice none 0 0) [] := ⟨by simp, World.ownsRow_nil w B _ 7⟩
theorem OwnE.made (w : World) (B : Nat) (hB : B ≤ w.heap.size) : OwnE (w.alloc (.cells #[] 91)) B (.slice (some ⟨w.heap.size, 0, none⟩) 0 0) [] :=
  ⟨by simp, World.ownsRow_made w #[] 0 hB (by decide) (by simp)⟩
theorem OwnE.shape {w : World} {B : Nat} {v : Value} {l : List Ent} (h : OwnE w B v l) : ∃ a cap, v = .slice a l.length cap := by
  rcases h.2.2 with ⟨rfl, h0⟩ | ⟨g, cap, cur, rfl, _⟩
  · exact ⟨none, 0, by rw [h0]⟩
  · exact ⟨_, _, rfl⟩
theorem OwnE.shape' {w : World} {B : Nat} {v : Value} {l : List Ent} (h : OwnE w B v l) (hl : 0 < l.length) : ∃ g cap, v = .slice (some ⟨g, 0, none⟩) l.length cap := by
  rcases h.2.2 with ⟨rfl, h0⟩ | ⟨g, cap, cur, rfl, _⟩
  · omega
  · exact ⟨_, _, rfl⟩
theorem OwnE.le {w : World} {B B' : Nat} {v : Value} {l : List Ent} (h : OwnE w B v l) (hb : B' ≤ B) : OwnE w B' v l := by
  refine ⟨h.1, h.2.1, ?_⟩
  rcases h.2.2 with h | ⟨g, cap, cur, hv, hg, r⟩
  · exact .inl h
  · exact .inr ⟨g, cap, cur, hv, Nat.le_trans hb hg, r⟩
theorem OwnE.block {w w' : World} {B : Nat} {v : Value} {l : List Ent} (h : OwnE w B v l) (hb : ∀ k, v.ownBlock = some k → w'.heap[k]? = w.heap[k]?) : OwnE w' B v l := by
  refine ⟨h.1, h.2.1, ?_⟩
  rcases h.2.2 with h | ⟨g, cap, cur, hv, hg, hh, r⟩
  · exact .inl h
  · subst hv
    exact .inr ⟨g, cap, cur, rfl, hg, (hb g rfl).trans hh, r⟩
theorem OwnE.below {w w' : World} {B : Nat} {v : Value} {l : List Ent} (h : OwnE w B v l) (hb : Below w.heap.size w w') : OwnE w' B v l :=
  h.block fun k hk => hb.block k (h.2.lt k hk).2
/-- .. through a call that writes in one block that is older -/
theorem OwnE.grown {w w' : World} {B b : Nat} {v : Value} {l : List Ent} (h : OwnE w B v l) (hg : w.grownBy w' (some b)) (hb : b < B) : OwnE w' B v l :=
  h.block fun k hk => hg.block k (h.2.lt k hk).2 (by intro e; injection e with e; have := (h.2.lt k hk).1; omega)
theorem OwnE.es {w : World} {B : Nat} {v : Value} {l : List Ent} (h : OwnE w B v l) (hl : l.length ≤ maxLen) : Es w v l := by
  obtain ⟨a, cap, rfl⟩ := h.shape
  refine ⟨hl, h.1, a, cap, rfl, fun i hi => ?_⟩
  obtain ⟨g, cap', e⟩ := h.shape' (by omega)
  simp only [Value.slice.injEq] at e
  obtain ⟨rfl, _, rfl⟩ := e
  refine ⟨g, 0, rfl, fun j hj => ?_⟩
  have c : ∀ i, i < 7 → w.cell? ⟨g, j * 7 + i, none⟩ = l[j].cells[i]? := fun i hi => by
    rw [h.2.cellAt (j * 7 + i) (by omega)]
    exact entCells_get l j hj i hi
  rw [Nat.zero_add]
  exact ⟨c 0 (by omega), c 1 (by omega), c 2 (by omega), c 3 (by omega), c 4 (by omega), c 5 (by omega), c 6 (by omega)⟩

theorem growE {B : Nat} {w w' : World} {v v' : Value} {l : List Ent} (h : Grew w v w' v') (hown : OwnE w B v l) (hB : B ≤ w.heap.size) : Below B w w' :=
  (Below.refl _ _).grown h.g hB (fun k hk => (hown.2.lt k hk).1)

set_option maxRecDepth 100000 in
theorem wpl_appendE {w : World} {ops : Array Oper} {rest : List Oper} {o : Oper} {a : Act} {Q : Exit → Act → World → Prop} (hgd : o.guard = none) (s x : Operand)
    (ho : o.op = .call { callee := .builtin .append, args := #[s, x], argTypes := #[50, 50] })
    {B : Nat} {v : Value} {l : List Ent} (e : Ent) (hf : e.fits) (hown : OwnE w B v l) (hs : a.eval s = v) (b c : Nat) (hu : EntAt w b 0 e) (hx : a.eval x = .slice (some ⟨b, 0, none⟩) 1 c) (hlen : l.length ≤ 1000000) (hB : B ≤ w.heap.size)
    (h : ∀ v' w', OwnE w' B v' (l ++ [e]) → Grew w v w' v' → wpList Try.prog ops Q rest (a.put o.dst v') w') : wpList Try.prog ops Q (o :: rest) a w := by
  obtain ⟨i0, hi, hz0, hz1, hz2⟩ := info_parts infoEnt
  obtain ⟨u0, u1, u2, u3, u4, u5, u6⟩ := hu
  refine wpList_append_own_at w hgd s x 50 ho B 91 i0 _ 7 80 Try.underlying50 hi hz0 hz1 hz2 rfl (by decide) v l.length _ hs hown.2 ⟨b, 0, none⟩ 1 c e.cells hx rfl ?_ ?_ (by unfold maxLen; omega) (by omega) hB ?_
  · intro j u hj
    rw [cell_add, Nat.zero_add]
    have hj7 : j < 7 := (List.getElem?_eq_some_iff.1 hj).1
    rcases (show j = 0 ∨ j = 1 ∨ j = 2 ∨ j = 3 ∨ j = 4 ∨ j = 5 ∨ j = 6 by omega) with rfl | rfl | rfl | rfl | rfl | rfl | rfl
    · exact u0.trans hj
    · exact u1.trans hj
    · exact u2.trans hj
    · exact u3.trans hj
    · exact u4.trans hj
    · exact u5.trans hj
    · exact u6.trans hj
  · intro u hu
    simp only [Ent.cells, List.mem_cons, List.not_mem_nil, or_false] at hu
    rcases hu with rfl | rfl | rfl | rfl | rfl | rfl | rfl <;> rfl
  · intro v' w' h2 h3 _ h5
    refine h v' w' ⟨fun y hy => ?_, by rw [entCells_app]; simpa [entCells] using h2⟩ ⟨h3, h5.imp id fun e => ⟨_, e, Nat.le_refl _⟩⟩
    rcases List.mem_append.1 hy with hy | hy
    · exact hown.1 y hy
    · rw [List.mem_singleton.1 hy]; exact hf
end Go.Proofs.Ytfcmffdljfljkaa
