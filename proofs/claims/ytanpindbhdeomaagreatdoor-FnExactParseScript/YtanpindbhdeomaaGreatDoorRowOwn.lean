/-
  Rows of structs in memory of one's own, whatever the struct; append tq them.
-/
import Derived.Test.YtanpindbhdeomaaGreatDoorRowBase
import Derived.Test.YtanpindbhdeomaaGreatDoorOwn
namespace Go.Proofs.YtanpindbhdeomaaGreatDoor
open Go.RowKit
set_option linter.unusedVariables false

def gC {α : Type} (cs : α → List Value) : List α → List Value
  | [] => []
  | e :: l => cs e ++ gC cs l
theorem gC_app {α : Type} (cs : α → List Value) (l k : List α) : gC cs (l ++ k) = gC cs l ++ gC cs k := by
  induction l with
  | nil => rfl
  | cons e l ih => rw [List.cons_append, gC, ih, gC, List.append_assoc]
theorem gC_len {α : Type} {cs : α → List Value} {m : Nat} (hm : ∀ a, (cs a).length = m) (l : List α) : (gC cs l).length = l.length * m := by
  induction l with
  | nil => simp [gC]
  | cons e l ih => rw [gC, List.length_append, ih, List.length_cons, hm, Nat.succ_mul]; omega
theorem gC_get {α : Type} {cs : α → List Value} {m : Nat} (hm : ∀ a, (cs a).length = m) (l : List α) : ∀ (j : Nat) (h : j < l.length) (i : Nat), i < m → (gC cs l)[j * m + i]? = (cs l[j])[i]? := by
  induction l with
  | nil => intro j h; simp at h
  | cons e l ih =>
    intro j h i hi
    cases j with
    | zero => rw [gC, List.getElem?_append_left (by rw [hm]; omega)]; simp
    | succ j =>
      rw [gC, List.getElem?_append_right (by rw [hm, Nat.succ_mul]; omega), hm, show (j + 1) * m + i - m = j * m + i by rw [Nat.succ_mul]; omega, ih j (by simpa using h) i hi]
      simp

/-- what is asked of a struct's type T, of m cells, and the type S of its slices -/
structure GLaw {α : Type} (cs : α → List Value) (m : Nat) (T S : TypeId) : Prop where
  und : Tryz.prog.underlying S = some (.slice T)
  info : ∃ i z bytes, Tryz.prog.info? T = some i ∧ i.zero = some z ∧ i.size = m ∧ i.bytes = bytes ∧ z.cells.size = m ∧ bytes ≤ 128
  pos : 0 < m
  len : ∀ a, (cs a).length = m
  one : ∀ a, ∀ u ∈ cs a, u.oneCell' = true

/-- structs in memory of one's own, from block B on -/
def OwnG {α : Type} (cs : α → List Value) (m : Nat) (T : TypeId) (w : World) (B : Nat) (v : Value) (l : List α) : Prop := w.ownsRow B T m v l.length (gC cs l)
section
variable {α : Type} {cs : α → List Value} {m : Nat} {T S : TypeId} {w w' : World} {B : Nat} {v : Value} {l : List α}
theorem OwnG.nil (cs : α → List Value) (m : Nat) (T : TypeId) (w : World) (B : Nat) : OwnG cs m T w B (.slice none 0 0) [] := World.ownsRow_nil w B _ m
theorem OwnG.made (cs : α → List Value) (m : Nat) (T : TypeId) (w : World) (B : Nat) (hB : B ≤ w.heap.size) : OwnG cs m T (w.alloc (.cells #[] T)) B (.slice (some ⟨w.heap.size, 0, none⟩) 0 0) [] :=
  World.ownsRow_made w #[] 0 hB (by unfold maxLen; omega) (by simp)
theorem OwnG.shape (h : OwnG cs m T w B v l) : ∃ a cap, v = .slice a l.length cap := by
  rcases h.2 with ⟨rfl, h0⟩ | ⟨g, cap, cur, rfl, _⟩
  · exact ⟨none, 0, by rw [h0]⟩
  · exact ⟨_, _, rfl⟩
theorem OwnG.shape' (h : OwnG cs m T w B v l) (hl : 0 < l.length) : ∃ g cap, v = .slice (some ⟨g, 0, none⟩) l.length cap := by
  rcases h.2 with ⟨rfl, h0⟩ | ⟨g, cap, cur, rfl, _⟩
  · omega
  · exact ⟨_, _, rfl⟩
theorem OwnG.lts (h : OwnG cs m T w B v l) (k : Nat) (e : v.ownBlock = some k) : B ≤ k ∧ k < w.heap.size := World.ownsRow.lt h k e
theorem OwnG.le {B' : Nat} (h : OwnG cs m T w B v l) (hb : B' ≤ B) : OwnG cs m T w B' v l := by
  refine ⟨h.1, ?_⟩
  rcases h.2 with h | ⟨g, cap, cur, hv, hg, r⟩
  · exact .inl h
  · exact .inr ⟨g, cap, cur, hv, Nat.le_trans hb hg, r⟩
theorem OwnG.block (h : OwnG cs m T w B v l) (hb : ∀ k, v.ownBlock = some k → w'.heap[k]? = w.heap[k]?) : OwnG cs m T w' B v l := by
  refine ⟨h.1, ?_⟩
  rcases h.2 with h | ⟨g, cap, cur, hv, hg, hh, r⟩
  · exact .inl h
  · exact .inr ⟨g, cap, cur, hv, hg, (hb g (by rw [hv]; rfl)).trans hh, r⟩
theorem OwnG.below (h : OwnG cs m T w B v l) (hb : Below w.heap.size w w') : OwnG cs m T w' B v l := h.block fun k hk => hb.block k (h.lts k hk).2
theorem OwnG.sl (L : GLaw cs m T S) (h : OwnG cs m T w B v l) (hl : l.length ≤ maxLen) : Sl cs m w v l := by
  obtain ⟨a, cap, rfl⟩ := h.shape
  refine ⟨hl, a, cap, rfl, fun i hi => ?_⟩
  obtain ⟨g, cap', e⟩ := h.shape' (by omega)
  simp only [Value.slice.injEq] at e
  obtain ⟨rfl, _, rfl⟩ := e
  refine ⟨g, 0, rfl, fun j hj t v ht => ?_⟩
  have htm : t < m := by have := (List.getElem?_eq_some_iff.1 ht).1; rwa [L.len] at this
  have hle := row_le (m := m) hj (Nat.le_refl _)
  rw [Nat.zero_add, World.ownsRow.cellAt h (j * m + t) (by omega), gC_get L.len l j hj t htm]
  exact ht
theorem OwnG.there (L : GLaw cs m T S) {g cap : Nat} (h : OwnG cs m T w B (.slice (some ⟨g, 0, none⟩) l.length cap) l) : w.there g 0 (l.length * m) := fun j hj => by
  rw [Nat.zero_add]
  refine ⟨?_, World.ownsRow.frozenAt h j⟩
  rw [World.ownsRow.cellAt h j (by omega), List.getElem?_eq_getElem (by rw [gC_len L.len]; exact hj)]; rfl
theorem growG {v' : Value} (h : Grew w v w' v') (hown : OwnG cs m T w B v l) (hB : B ≤ w.heap.size) : Below B w w' :=
  (Below.refl _ _).grown h.g hB (fun k hk => (hown.lts k hk).1)

set_option maxRecDepth 100000 in
/-- append of one struct -/
theorem wpl_appendG (L : GLaw cs m T S) {ops : Array Oper} {rest : List Oper} {o : Oper} {a : Act} {Q : Exit → Act → World → Prop} (hgd : o.guard = none) (s x : Operand)
    (ho : o.op = .call { callee := .builtin .append, args := #[s, x], argTypes := #[S, S] })
    (e : α) (hown : OwnG cs m T w B v l) (hs : a.eval s = v) (b c : Nat) (hu : w.rangeAt b 0 (cs e)) (hx : a.eval x = .slice (some ⟨b, 0, none⟩) 1 c) (hlen : l.length ≤ 1000000) (hB : B ≤ w.heap.size)
    (h : ∀ v' w', OwnG cs m T w' B v' (l ++ [e]) → Grew w v w' v' → wpList Tryz.prog ops Q rest (a.put o.dst v') w') : wpList Tryz.prog ops Q (o :: rest) a w := by
  obtain ⟨i0, z, bytes, hi, hz0, hz1, hz2, hz3, hb⟩ := L.info
  have hmul : (l.length + 1) * bytes ≤ 1000001 * 128 := Nat.mul_le_mul (by omega) hb
  refine wpList_append_own_at w hgd s x S ho B T i0 z m bytes L.und hi hz0 hz1 hz2 hz3 L.pos v l.length _ hs hown ⟨b, 0, none⟩ 1 c (cs e) hx (by rw [L.len]; omega) ?_ (L.one e) (by unfold maxLen; omega) (by omega) hB ?_
  · intro j u hj
    rw [cell_add, Nat.zero_add]
    have := hu j u hj
    rwa [Nat.zero_add] at this
  · intro v' w' h2 h3 _ h5
    exact h v' w' (by unfold OwnG; rw [gC_app]; simpa [gC] using h2) ⟨h3, h5.imp id fun e => ⟨_, e, Nat.le_refl _⟩⟩
set_option maxRecDepth 100000 in
theorem stp_appendG (L : GLaw cs m T S) {ops : Array Oper} {o : Oper} {a : Act} {K : Act → World → Prop} {Q : Exit → Act → World → Prop} {E : Prop} (hgd : o.guard = none) (s x : Operand)
    (ho : o.op = .call { callee := .builtin .append, args := #[s, x], argTypes := #[S, S] })
    (e : α) (hown : OwnG cs m T w B v l) (hs : a.eval s = v) (b c : Nat) (hu : w.rangeAt b 0 (cs e)) (hx : a.eval x = .slice (some ⟨b, 0, none⟩) 1 c) (hlen : l.length ≤ 1000000) (hB : B ≤ w.heap.size)
    (h : ∀ v' w', OwnG cs m T w' B v' (l ++ [e]) → Grew w v w' v' → K (a.put o.dst v') w') : if Region.wanted o (yielded ops a.tmps) = true then Oper.wp Tryz.prog o a w K Q else E := by
  have hw : Region.wanted o (yielded ops a.tmps) = true := by simp [Region.wanted, hgd]
  rw [if_pos hw]
  obtain ⟨i0, z, bytes, hi, hz0, hz1, hz2, hz3, hb⟩ := L.info
  have hmul : (l.length + 1) * bytes ≤ 1000001 * 128 := Nat.mul_le_mul (by omega) hb
  obtain ⟨v', w', hr, h2, h3, h4, h5⟩ := run_append_own_at (P := Tryz.prog) w B S o.type T i0 z m bytes L.und hi hz0 hz1 hz2 hz3 L.pos v l.length _ hown ⟨b, 0, none⟩ 1 c (cs e) (by rw [L.len]; omega)
    (by
      intro j u hj
      rw [cell_add, Nat.zero_add]
      have := hu j u hj
      rwa [Nat.zero_add] at this) (L.one e) (by unfold maxLen; omega) (by omega) hB
  unfold Oper.wp execOp
  simp only [ho, resolve, invoke, builtin, Sem.run_bind, Sem.run_pure, Result.andThen_ok, List.map_toArray, List.map_cons, List.map_nil, hs, hx, hr]
  exact h v' w' (by unfold OwnG; rw [gC_app]; simpa [gC] using h2) ⟨h3, h5.imp id fun e => ⟨_, e, Nat.le_refl _⟩⟩
end
end Go.Proofs.YtanpindbhdeomaaGreatDoor
