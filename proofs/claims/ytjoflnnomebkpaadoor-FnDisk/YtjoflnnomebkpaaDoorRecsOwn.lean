/-
  Records in memory of one's own: append.
-/
import Derived.Test.YtjoflnnomebkpaaDoorGround
namespace Go.Proofs.YtjoflnnomebkpaaDoor
open Go.RowKit
set_option linter.unusedVariables false

theorem infoRecO : (Tryd.prog.info? 94).map (fun i => (i.zero, i.size, i.bytes)) = some (some (.agg #[.int .i64 0, .int .i64 0, .int .i64 0, .int .i64 0, .int .i64 0, .int .i64 0, .int .i64 0, .int .i64 0, .string ⟨#[]⟩, .string ⟨#[]⟩, .string ⟨#[]⟩]), 11, 112) := by kernel_rfl
def recCells : List Rec → List Value
  | [] => []
  | e :: l => e.cells ++ recCells l
theorem recCells_app (l k : List Rec) : recCells (l ++ k) = recCells l ++ recCells k := by
  induction l with
  | nil => rfl
  | cons e l ih => simp [recCells, ih]
theorem recCells_len (l : List Rec) : (recCells l).length = l.length * 11 := by
  induction l with
  | nil => rfl
  | cons e l ih => simp [recCells, ih, Rec.cells]; omega
theorem recCells_get (l : List Rec) : ∀ (j : Nat) (h : j < l.length) (i : Nat), i < 11 → (recCells l)[j * 11 + i]? = l[j].cells[i]? := by
  induction l with
  | nil => intro j h; simp at h
  | cons e l ih =>
    intro j h i hi
    cases j with
    | zero => simp only [recCells, Nat.zero_mul, Nat.zero_add, List.getElem_cons_zero]; rw [List.getElem?_append_left (by rw [Rec.cells_len]; exact hi)]
    | succ j =>
      simp only [recCells, List.getElem_cons_succ]
      rw [List.getElem?_append_right (by rw [Rec.cells_len]; omega), Rec.cells_len, show (j + 1) * 11 + i - 11 = j * 11 + i by omega]
      exact ih j (by simpa using h) i hi
/-- records in memory of one's own, from block B on -/
def OwnR (w : World) (B : Nat) (v : Value) (l : List Rec) : Prop := w.ownsRow B 94 11 v l.length (recCells l)
theorem OwnR.nil (w : World) (B : Nat) : OwnR w B (.slice none 0 0) [] := World.ownsRow_nil w B _ 11
theorem OwnR.made (w : World) (B : Nat) (hB : B ≤ w.heap.size) : OwnR (w.alloc (.cells #[] 94)) B (.slice (some ⟨w.heap.size, 0, none⟩) 0 0) [] :=
  World.ownsRow_made w #[] 0 hB (by decide) (by simp)
theorem OwnR.shape {w : World} {B : Nat} {v : Value} {l : List Rec} (h : OwnR w B v l) : ∃ a cap, v = .slice a l.length cap := by
  rcases h.2 with ⟨rfl, h0⟩ | ⟨g, cap, cur, rfl, _⟩
  · exact ⟨none, 0, by rw [h0]⟩
  · exact ⟨_, _, rfl⟩
theorem OwnR.shape' {w : World} {B : Nat} {v : Value} {l : List Rec} (h : OwnR w B v l) (hl : 0 < l.length) : ∃ g cap, v = .slice (some ⟨g, 0, none⟩) l.length cap := by
  rcases h.2 with ⟨rfl, h0⟩ | ⟨g, cap, cur, rfl, _⟩
  · omega
  · exact ⟨_, _, rfl⟩
theorem OwnR.keep {w w' : World} {B : Nat} {v : Value} {l : List Rec} (h : OwnR w B v l) (hb : ∀ k, v.ownBlock = some k → w'.heap[k]? = w.heap[k]?) : OwnR w' B v l := by
  refine ⟨h.1, ?_⟩
  rcases h.2 with h | ⟨g, cap, cur, hv, hg, hh, r⟩
  · exact .inl h
  · exact .inr ⟨g, cap, cur, hv, hg, (hb g (by rw [hv]; rfl)).trans hh, r⟩
theorem OwnR.below {w w' : World} {B : Nat} {v : Value} {l : List Rec} (h : OwnR w B v l) (hb : Below w.heap.size w w') : OwnR w' B v l :=
  h.keep fun k hk => hb.block k (h.lt k hk).2
theorem growR {B : Nat} {w w' : World} {v v' : Value} {l : List Rec} (h : Grew w v w' v') (hown : OwnR w B v l) (hB : B ≤ w.heap.size) : Below B w w' :=
  (Below.refl _ _).grown h.g hB (fun k hk => (hown.lt k hk).1)
theorem OwnR.sl {w : World} {B : Nat} {v : Value} {l : List Rec} (h : OwnR w B v l) (hl : l.length ≤ maxLen) : Sl Rec.cells 11 w v l := by
  obtain ⟨a, cap, rfl⟩ := h.shape
  refine ⟨hl, a, cap, rfl, fun i hi => ?_⟩
  obtain ⟨g, cap', e⟩ := h.shape' (by omega)
  simp only [Value.slice.injEq] at e
  obtain ⟨rfl, _, rfl⟩ := e
  refine ⟨g, 0, rfl, fun j hj t v ht => ?_⟩
  have ht11 : t < 11 := by have := (List.getElem?_eq_some_iff.1 ht).1; rwa [Rec.cells_len] at this
  rw [Nat.zero_add, h.cellAt (j * 11 + t) (by omega), recCells_get l j hj t ht11]
  exact ht

set_option maxRecDepth 100000 in
/-- append of one record -/
theorem wpl_appendR {w : World} {ops : Array Oper} {rest : List Oper} {o : Oper} {a : Act} {Q : Exit → Act → World → Prop} (hgd : o.guard = none) (s x : Operand)
    (ho : o.op = .call { callee := .builtin .append, args := #[s, x], argTypes := #[25, 25] })
    {B : Nat} {v : Value} {l : List Rec} (e : Rec) (hown : OwnR w B v l) (hs : a.eval s = v) (b c : Nat) (hu : w.rangeAt b 0 e.cells) (hx : a.eval x = .slice (some ⟨b, 0, none⟩) 1 c) (hlen : l.length ≤ 1000000) (hB : B ≤ w.heap.size)
    (h : ∀ v' w', OwnR w' B v' (l ++ [e]) → Grew w v w' v' → wpList Tryd.prog ops Q rest (a.put o.dst v') w') : wpList Tryd.prog ops Q (o :: rest) a w := by
  obtain ⟨i0, hi, hz0, hz1, hz2⟩ := info_parts infoRecO
  refine wpList_append_own_at w hgd s x 25 ho B 94 i0 _ 11 112 Tryd.underlying25 hi hz0 hz1 hz2 rfl (by decide) v l.length _ hs hown ⟨b, 0, none⟩ 1 c e.cells hx rfl ?_ ?_ (by unfold maxLen; omega) (by omega) hB ?_
  · intro j u hj
    rw [cell_add, Nat.zero_add]
    have := hu j u hj
    rwa [Nat.zero_add] at this
  · intro u hu
    simp only [Rec.cells, List.mem_cons, List.not_mem_nil, or_false] at hu
    rcases hu with rfl | rfl | rfl | rfl | rfl | rfl | rfl | rfl | rfl | rfl | rfl <;> rfl
  · intro v' w' h2 h3 _ h5
    exact h v' w' (by have e : recCells (l ++ [e]) = recCells l ++ e.cells := by rw [recCells_app]; simp [recCells]
                      unfold OwnR; rw [e]; simpa using h2) ⟨h3, h5.imp id fun e => ⟨_, e, Nat.le_refl _⟩⟩
end Go.Proofs.YtjoflnnomebkpaaDoor
