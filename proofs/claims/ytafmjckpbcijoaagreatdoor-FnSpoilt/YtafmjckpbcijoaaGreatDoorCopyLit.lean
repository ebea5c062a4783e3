/-
  append([]byte{}, b...), with and without a guard.
-/
import Derived.Test.YtafmjckpbcijoaaGreatDoorGround
namespace Go.Proofs.YtafmjckpbcijoaaGreatDoor
open Go.RowKit
set_option linter.unusedVariables false
set_option linter.unusedSimpArgs false

theorem Own.capL {w : World} {B n cap : Nat} {a : Option Addr} {l : List Int} (h : Own w B (.slice a n cap) l) (hn : n = l.length) : n ≤ cap := by
  subst hn
  rcases h.2.2 with ⟨e1, e2⟩ | ⟨g, c, cur, e1, _, _, h1, _⟩
  · injection e1 with e1 e3 e4
    omega
  · injection e1 with e1 e3 e4
    omega
theorem run_copyL {w0 : World} (t : TypeId) {v : Value} {n : Nat} {l : List Int} (hn : n = l.length) (hpos : 0 < n) (hlen : n ≤ 1073741824) (hu : Bs w0 v l) :
    ∃ g c w', (Builtin.append_ #[22, 22] t #[.slice (some ⟨w0.heap.size, 0, none⟩) 0 0, v]).run Tryz.prog (w0.alloc (.cells #[] 5)) = .ok (.slice (some ⟨g, 0, none⟩) n c) w' ∧ n ≤ c ∧ Own w' w0.heap.size (.slice (some ⟨g, 0, none⟩) n c) l ∧ Below w0.heap.size w0 w' := by
  have hal : Below w0.heap.size w0 (w0.alloc (.cells #[] 5)) := (Below.refl _ _).alloc (Nat.le_refl _) _
  have hO := Own.lit0 w0
  obtain ⟨i0, hi, hz0, hz1, hz2⟩ := info_parts infoU8
  obtain ⟨_, h8, au, cu, rfl, hc⟩ := hu.below hal
  obtain ⟨b, off, rfl, hcell⟩ := hc 0 (by omega)
  obtain ⟨v', w', hr, h2, h3, _, h5⟩ := run_append_own_at (P := Tryz.prog) (w0.alloc (.cells #[] 5)) w0.heap.size 22 t 5 i0 (.int .u8 0) 1 1 Tryz.underlying22 hi hz0 hz1 hz2 rfl (by decide) (.slice (some ⟨w0.heap.size, 0, none⟩) 0 0) 0 [] hO.2 ⟨b, off, none⟩ l.length cu (l.map (Value.int .u8)) (by simp) (by
      intro j u hj
      rw [cell_add]
      rw [List.getElem?_map] at hj
      cases hk : l[j]? with
      | none => rw [hk] at hj; cases hj
      | some y =>
        rw [hk] at hj
        have hjl : j < l.length := by
          rcases Nat.lt_or_ge j l.length with h' | h'
          · exact h'
          · rw [List.getElem?_eq_none h'] at hk; cases hk
        rw [hcell j hjl, hk]
        exact hj) (by
      intro u hu
      simp only [List.mem_map] at hu
      obtain ⟨y, _, rfl⟩ := hu
      rfl) (by unfold maxLen; omega) (by omega) (by simp)
  have hw : Own w' w0.heap.size v' l := ⟨h8, by simpa using h2⟩
  obtain ⟨g, c, rfl⟩ := hw.shape' (by omega)
  have hg : Grew (w0.alloc (.cells #[] 5)) (.slice (some ⟨w0.heap.size, 0, none⟩) 0 0) w' (.slice (some ⟨g, 0, none⟩) l.length c) := ⟨h3, h5.imp id fun e => ⟨_, e, Nat.le_refl _⟩⟩
  subst hn
  exact ⟨g, c, w', hr, hw.capL rfl, hw, hal.trans (hg.below hO (by simp))⟩
section
variable {w0 : World} {ops : Array Oper} {rest : List Oper} {o : Oper} {a : Act} {Q : Exit → Act → World → Prop}
theorem wpl_copyL (hgd : o.guard = none) (s x : Operand) (ho : o.op = .call { callee := .builtin .append, args := #[s, x], argTypes := #[22, 22] })
    {v : Value} {n : Nat} {l : List Int} (hs : a.eval s = .slice (some ⟨w0.heap.size, 0, none⟩) 0 0) (hx : a.eval x = v) (hn : n = l.length) (hpos : 0 < n) (hlen : n ≤ 1073741824) (hu : Bs w0 v l)
    (h : ∀ g c w', n ≤ c → Own w' w0.heap.size (.slice (some ⟨g, 0, none⟩) n c) l → Below w0.heap.size w0 w' → wpList Tryz.prog ops Q rest (a.put o.dst (.slice (some ⟨g, 0, none⟩) n c)) w') : wpList Tryz.prog ops Q (o :: rest) a (w0.alloc (.cells #[] 5)) := by
  refine wpList_plain hgd fun K hK => ?_
  obtain ⟨g, c, w', hr, h1, h2, h3⟩ := run_copyL (w0 := w0) o.type hn hpos hlen hu
  unfold Oper.wp execOp
  simp only [ho, resolve, invoke, builtin, Sem.run_bind, Sem.run_pure, Result.andThen_ok, List.map_toArray, List.map_cons, List.map_nil, hs, hx, hr]
  exact hK _ _ (h g c w' h1 h2 h3)
theorem wpl_copyLG {gj : Nat} {gb : Bool} (hgd : o.guard = some (gj, gb)) (hy : yielded ops a.tmps gj = some gb) (s x : Operand) (ho : o.op = .call { callee := .builtin .append, args := #[s, x], argTypes := #[22, 22] })
    {v : Value} {n : Nat} {l : List Int} (hs : a.eval s = .slice (some ⟨w0.heap.size, 0, none⟩) 0 0) (hx : a.eval x = v) (hn : n = l.length) (hpos : 0 < n) (hlen : n ≤ 1073741824) (hu : Bs w0 v l)
    (h : ∀ g c w', n ≤ c → Own w' w0.heap.size (.slice (some ⟨g, 0, none⟩) n c) l → Below w0.heap.size w0 w' → wpList Tryz.prog ops Q rest (a.put o.dst (.slice (some ⟨g, 0, none⟩) n c)) w') : wpList Tryz.prog ops Q (o :: rest) a (w0.alloc (.cells #[] 5)) := by
  refine wpList_step fun K hK => ?_
  simp only [Region.wanted, hgd, hy, beq_self_eq_true, if_true]
  obtain ⟨g, c, w', hr, h1, h2, h3⟩ := run_copyL (w0 := w0) o.type hn hpos hlen hu
  unfold Oper.wp execOp
  simp only [ho, resolve, invoke, builtin, Sem.run_bind, Sem.run_pure, Result.andThen_ok, List.map_toArray, List.map_cons, List.map_nil, hs, hx, hr]
  exact hK _ _ (h g c w' h1 h2 h3)
end
end Go.Proofs.YtafmjckpbcijoaaGreatDoor
