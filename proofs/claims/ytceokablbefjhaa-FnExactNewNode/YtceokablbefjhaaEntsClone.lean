/-
  slices.Clone of entries; append of many entries to memory of one's own.
-/
import Derived.Test.YtceokablbefjhaaEntsOwn
import Derived.Laws.Cover3
namespace Go.Proofs.Ytceokablbefjhaa
open Go.RowKit
set_option linter.unusedVariables false
set_option linter.unusedSimpArgs false

theorem entCells_one (l : List Ent) : ∀ u ∈ entCells l, u.oneCell' = true := by
  induction l with
  | nil => intro u hu; cases hu
  | cons e l ih =>
    intro u hu
    simp only [entCells, List.mem_append] at hu
    rcases hu with hu | hu
    · simp only [Ent.cells, List.mem_cons, List.not_mem_nil, or_false] at hu
      rcases hu with rfl | rfl | rfl | rfl | rfl | rfl | rfl <;> rfl
    · exact ih u hu

set_option maxRecDepth 100000 in
theorem wpl_appendEs {w : World} {ops : Array Oper} {rest : List Oper} {o : Oper} {a : Act} {Q : Exit → Act → World → Prop} (hgd : o.guard = none) (s x : Operand)
    (ho : o.op = .call { callee := .builtin .append, args := #[s, x], argTypes := #[50, 50] })
    {B : Nat} {v : Value} {l : List Ent} (es : List Ent) (hf : ∀ e ∈ es, e.fits) (hown : OwnE w B v l) (hs : a.eval s = v) (A : Addr) (c : Nat) (hu : ∀ j u, (entCells es)[j]? = some u → w.cell? (A.add j) = some u) (hx : a.eval x = .slice (some A) es.length c) (hlen : l.length + es.length ≤ 2000000) (hB : B ≤ w.heap.size)
    (h : ∀ v' w', OwnE w' B v' (l ++ es) → Grew w v w' v' → wpList Try.prog ops Q rest (a.put o.dst v') w') : wpList Try.prog ops Q (o :: rest) a w := by
  obtain ⟨i0, hi, hz0, hz1, hz2⟩ := info_parts infoEnt
  refine wpList_append_own_at w hgd s x 50 ho B 123 i0 _ 7 80 Try.underlying50 hi hz0 hz1 hz2 rfl (by decide) v l.length _ hs hown.2 A es.length c (entCells es) hx (entCells_len es) hu (entCells_one es) (by unfold maxLen; omega) (by omega) hB ?_
  intro v' w' h2 h3 _ h5
  refine h v' w' ⟨fun y hy => ?_, by rw [entCells_app]; simpa using h2⟩ ⟨h3, h5.imp id fun e => ⟨_, e, Nat.le_refl _⟩⟩
  rcases List.mem_append.1 hy with hy | hy
  · exact hown.1 y hy
  · exact hf y hy

theorem es_cells {w : World} {b off : Nat} {l : List Ent} (h : ∀ j (hj : j < l.length), EntAt w b (off + j * 7) l[j]) : ∀ j u, (entCells l)[j]? = some u → w.cell? ((⟨b, off, none⟩ : Addr).add j) = some u := by
  intro j u hj
  have hlt := (List.getElem?_eq_some_iff.1 hj).1
  rw [entCells_len] at hlt
  rw [cell_add]
  have hq : j / 7 < l.length := by omega
  have e : j = j / 7 * 7 + j % 7 := by omega
  have hg := entCells_get l (j / 7) hq (j % 7) (by omega)
  rw [← e, hj] at hg
  obtain ⟨u0, u1, u2, u3, u4, u5, u6⟩ := h (j / 7) hq
  have hr : j % 7 < 7 := by omega
  rw [show off + j = off + j / 7 * 7 + j % 7 by omega]
  generalize j % 7 = r at *
  rcases (show r = 0 ∨ r = 1 ∨ r = 2 ∨ r = 3 ∨ r = 4 ∨ r = 5 ∨ r = 6 by omega) with rfl | rfl | rfl | rfl | rfl | rfl | rfl
  · exact u0.trans hg.symm
  · exact u1.trans hg.symm
  · exact u2.trans hg.symm
  · exact u3.trans hg.symm
  · exact u4.trans hg.symm
  · exact u5.trans hg.symm
  · exact u6.trans hg.symm

theorem eql_nil (t e : TypeId) (a : Option Addr) (l c : Nat) (h : Try.prog.underlying t = some (.slice e)) (w : World) : (binOp .eql t (.slice a l c) (.slice none 0 0)).run Try.prog w = .ok (.bool a.isNone) w := by
  simp only [binOp]
  simp [run_equal_slice_nil w t e a l c h]

set_option maxHeartbeats 2000000 in
set_option maxRecDepth 100000 in
theorem cloneE_any (v : Value) (l : List Ent) (w : World) (hv : Es w v l) (hll : l.length ≤ 1048576) :
    Calls Try.prog 93 #[v] w fun e w' => ∃ v', e = .returned v' ∧ OwnE w' w.heap.size v' l ∧ Below w.heap.size w w' := by
  obtain ⟨hm, hf, a, cap, rfl, hc⟩ := hv
  have hq := fun u => eql_nil 50 123 a l.length cap Try.underlying50 u
  cases a with
  | none =>
    have h0 : l = [] := by
      cases l with
      | nil => rfl
      | cons e l =>
        obtain ⟨b, off, h, _⟩ := hc 0 (by simp)
        cases h
    subst h0
    simp only [Option.isNone_none, List.length_nil] at hq
    go_enter Try.func93, Try.ntmps93
    go_wp2
    go_ret
    exact ⟨_, rfl, OwnE.nil _ _, Below.refl _ _⟩
  | some A =>
    have HU : Hid (∀ j u, (entCells l)[j]? = some u → w.cell? (A.add j) = some u) := by
      intro j u hj
      cases l with
      | nil => cases hj
      | cons e l' =>
        obtain ⟨b, off, h, hjs⟩ := hc 0 (by simp)
        injection h with h
        subst h
        exact es_cells hjs j u hj
    have HF : Hid (∀ e ∈ l, e.fits) := hf
    clear hc hf
    simp only [Option.isNone_some] at hq
    go_enter Try.func93, Try.ntmps93
    go_wp2_with (at_builtin; refine wpl_appendEs rfl (.tmp 5) (.tmp 6) rfl l HF.out (OwnE.made w w.heap.size (Nat.le_refl _)) rfl A cap (fun j u hj => (by have h1 := HU.out j u hj; rw [World.cell?_alloc_lt _ _ _ (World.block_lt_of_cell? w _ h1)]; exact h1)) rfl (by simp; omega) (by simp) ?_; intro v' w' ho hg; have hb := growE hg (OwnE.made w w.heap.size (Nat.le_refl _)) (by simp))
    go_ret
    exact ⟨_, rfl, by simpa using ho, ((Below.refl _ _).alloc (Nat.le_refl _) _).trans hb⟩
end Go.Proofs.Ytceokablbefjhaa
