/-
  Slices of ints that the call itself owns; append tq them.
-/
import Derived.Test.YtnoihfincifphaaOwn
namespace Go.Proofs.Ytnoihfincifphaa
open Go.RowKit
set_option linter.unusedVariables false

theorem infoI64 : (Try.prog.info? 3).map (fun i => (i.zero, i.size, i.bytes)) = some (some (.int .i64 0), 1, 8) := by kernel_rfl

def OwnI (w : World) (B : Nat) (v : Value) (l : List Int) : Prop := w.ownsRow B 3 1 v l.length (l.map (Value.int .i64))

theorem OwnI.made (w : World) (B : Nat) (hB : B ≤ w.heap.size) : OwnI (w.alloc (.cells #[] 3)) B (.slice (some ⟨w.heap.size, 0, none⟩) 0 0) [] :=
  World.ownsRow_made w #[] 0 hB (by decide) (by simp)
theorem OwnI.shape {w : World} {B : Nat} {v : Value} {l : List Int} (h : OwnI w B v l) : ∃ a cap, v = .slice a l.length cap := by
  rcases h.2 with ⟨rfl, h0⟩ | ⟨g, cap, cur, rfl, _⟩
  · exact ⟨none, 0, by rw [h0]⟩
  · exact ⟨_, _, rfl⟩
theorem OwnI.shape' {w : World} {B : Nat} {v : Value} {l : List Int} (h : OwnI w B v l) (hl : 0 < l.length) : ∃ g cap, v = .slice (some ⟨g, 0, none⟩) l.length cap := by
  rcases h.2 with ⟨rfl, h0⟩ | ⟨g, cap, cur, rfl, _⟩
  · omega
  · exact ⟨_, _, rfl⟩
theorem OwnI.block {w w' : World} {B : Nat} {v : Value} {l : List Int} (h : OwnI w B v l) (hb : ∀ k, v.ownBlock = some k → w'.heap[k]? = w.heap[k]?) : OwnI w' B v l := by
  refine ⟨h.1, ?_⟩
  rcases h.2 with h | ⟨g, cap, cur, hv, hg, hh, r⟩
  · exact .inl h
  · subst hv
    exact .inr ⟨g, cap, cur, rfl, hg, (hb g rfl).trans hh, r⟩
theorem OwnI.below {w w' : World} {B : Nat} {v : Value} {l : List Int} (h : OwnI w B v l) (hb : Below w.heap.size w w') : OwnI w' B v l :=
  h.block fun k hk => hb.block k (World.ownsRow.lt h k hk).2
theorem OwnI.grown {w w' : World} {B b : Nat} {v : Value} {l : List Int} (h : OwnI w B v l) (hg : w.grownBy w' (some b)) (hb : b < B) : OwnI w' B v l :=
  h.block fun k hk => hg.block k (World.ownsRow.lt h k hk).2 (by intro e; injection e with e; have := (World.ownsRow.lt h k hk).1; omega)
theorem OwnI.cell {w : World} {B g cap : Nat} {l : List Int} (h : OwnI w B (.slice (some ⟨g, 0, none⟩) l.length cap) l) (j : Nat) (hj : j < l.length) : w.cell? ⟨g, j, none⟩ = some (.int .i64 (l[j]?.getD 0)) := by
  have := World.ownsRow.cellAt h j (by omega)
  rw [this]
  simp [hj]

theorem growI {B : Nat} {w w' : World} {v v' : Value} {l : List Int} (h : Grew w v w' v') (hown : OwnI w B v l) (hB : B ≤ w.heap.size) : Below B w w' :=
  (Below.refl _ _).grown h.g hB (fun k hk => (World.ownsRow.lt hown k hk).1)

set_option maxRecDepth 100000 in
theorem wpl_appendI {w : World} {ops : Array Oper} {rest : List Oper} {o : Oper} {a : Act} {Q : Exit → Act → World → Prop} (hgd : o.guard = none) (s x : Operand)
    (ho : o.op = .call { callee := .builtin .append, args := #[s, x], argTypes := #[72, 72] })
    {B : Nat} {v : Value} {l : List Int} (e : Int) (hown : OwnI w B v l) (hs : a.eval s = v) (b c : Nat) (hu : w.cell? ⟨b, 0, none⟩ = some (.int .i64 e)) (hx : a.eval x = .slice (some ⟨b, 0, none⟩) 1 c) (hlen : l.length ≤ 1000000) (hB : B ≤ w.heap.size)
    (h : ∀ v' w', OwnI w' B v' (l ++ [e]) → Grew w v w' v' → wpList Try.prog ops Q rest (a.put o.dst v') w') : wpList Try.prog ops Q (o :: rest) a w := by
  obtain ⟨i0, hi, hz0, hz1, hz2⟩ := info_parts infoI64
  refine wpList_append_own_at w hgd s x 72 ho B 3 i0 _ 1 8 Try.underlying72 hi hz0 hz1 hz2 rfl (by decide) v l.length _ hs hown ⟨b, 0, none⟩ 1 c [.int .i64 e] hx rfl ?_ ?_ (by unfold maxLen; omega) (by omega) hB ?_
  · intro j u hj
    rw [cell_add, Nat.zero_add]
    have hj1 : j < 1 := (List.getElem?_eq_some_iff.1 hj).1
    obtain rfl : j = 0 := by omega
    exact hu.trans hj
  · intro u hu
    rw [List.mem_singleton.1 hu]
    rfl
  · intro v' w' h2 h3 _ h5
    exact h v' w' (by simpa [OwnI] using h2) ⟨h3, h5.imp id fun e => ⟨_, e, Nat.le_refl _⟩⟩

end Go.Proofs.Ytnoihfincifphaa
