/-
  slices.Clone of bytes; spec.l1copy.
-/
import Derived.Test.YthondmpnleleiaaToOwn
import Derived.Lib.SliceRun
namespace Go.Proofs.Ythondmpnleleiaa
open Go.RowKit
set_option linter.unusedVariables false

set_option maxRecDepth 100000 in
/-- append of nothing, or of bytes that lie somewhere -/
theorem wpl_append_at {w : World} {ops : Array Oper} {rest : List Oper} {o : Oper} {a : Act} {Q : Exit → Act → World → Prop} (hgd : o.guard = none) (s x : Operand)
    (ho : o.op = .call { callee := .builtin .append, args := #[s, x], argTypes := #[35, 35] })
    {B : Nat} {v : Value} {l l2 : List Int} {b off cu : Nat} (hown : Own w B v l) (hs : a.eval s = v) (hu : Bs w (.slice (some ⟨b, off, none⟩) l2.length cu) l2) (hx : a.eval x = .slice (some ⟨b, off, none⟩) l2.length cu) (hlen : l.length + l2.length ≤ 1073741824) (hB : B ≤ w.heap.size)
    (h : ∀ v' w', Own w' B v' (l ++ l2) → Grew w v w' v' → wpList Try.prog ops Q rest (a.put o.dst v') w') : wpList Try.prog ops Q (o :: rest) a w := by
  obtain ⟨i0, hi, hz0, hz1, hz2⟩ := info_parts infoU8
  obtain ⟨_, h8, au, cu', e, hc⟩ := hu
  refine wpList_append_own_at w hgd s x 35 ho B 5 i0 (.int .u8 0) 1 1 Try.underlying35 hi hz0 hz1 hz2 rfl (by decide) v l.length _ hs hown.2 ⟨b, off, none⟩ l2.length cu (l2.map (Value.int .u8)) hx (by simp) ?_ ?_ (by unfold maxLen; omega) (by omega) hB ?_
  · intro j u hj
    rw [cell_add]
    rw [List.getElem?_map] at hj
    cases hk : l2[j]? with
    | none => rw [hk] at hj; cases hj
    | some y =>
      rw [hk] at hj
      have hjl : j < l2.length := by
        rcases Nat.lt_or_ge j l2.length with h' | h'
        · exact h'
        · rw [List.getElem?_eq_none h'] at hk; cases hk
      obtain ⟨b', off', e', hcell⟩ := hc j hjl
      injection e with e1 e2 e3
      rw [← e1] at e'
      injection e' with e'
      injection e' with f1 f2 f3
      subst f1 f2
      rw [hcell j hjl, hk]
      exact hj
  · intro u hu
    simp only [List.mem_map] at hu
    obtain ⟨y, _, rfl⟩ := hu
    rfl
  · intro v' w' h2 h3 _ h5
    refine h v' w' ⟨fun y hy => ?_, by simpa using h2⟩ ⟨h3, h5.imp id fun e => ⟨_, e, Nat.le_refl _⟩⟩
    rcases List.mem_append.1 hy with hy | hy
    · exact hown.1 y hy
    · exact h8 y hy

set_option maxHeartbeats 1000000 in
set_option maxRecDepth 100000 in
theorem clone_any (b off cap : Nat) (l : List Int) (w : World) (hv : Bs w (.slice (some ⟨b, off, none⟩) l.length cap) l) (hl : l.length ≤ 1048576) :
    Calls Try.prog 75 #[.slice (some ⟨b, off, none⟩) l.length cap] w fun e w' => ∃ a' cap', e = .returned (.slice a' l.length cap') ∧ Own w' w.heap.size (.slice a' l.length cap') l ∧ Below w.heap.size w w' := by
  have h0 := Own.lit0 w
  have hv' : Hid (Bs (w.alloc (.cells #[] 5)) (.slice (some ⟨b, off, none⟩) l.length cap) l) := hv.below ((Below.refl _ _).alloc (Nat.le_refl _) _)
  have hnil : ∀ u : World, (binOp .eql 35 (.slice (some ⟨b, off, none⟩) l.length cap) (.slice none 0 0)).run Try.prog u = .ok (.bool false) u := fun u => by
    rw [Lib.run_eql_slice_nil u 35 5 (some ⟨b, off, none⟩) l.length cap 0 0 Try.underlying35]; rfl
  go_enter Try.func75, Try.ntmps75
  go_wp2_with (at_builtin; refine wpl_append_at rfl (.tmp 5) (.tmp 6) rfl h0 rfl hv'.out rfl (by simp; omega) (by simp) ?_; intro v3 w3 ho3 hg3; have hB3 := hg3.below h0 (by simp))
  go_ret
  rw [List.nil_append] at ho3
  obtain ⟨a', cap', rfl⟩ := ho3.shape
  exact ⟨_, _, rfl, ho3, ((Below.refl _ _).alloc (Nat.le_refl _) _).trans hB3⟩

theorem Own.setLow {w : World} {B : Nat} {v : Value} {l : List Int} (h : Own w B v l) {b i : Nat} (hb : b < B) (x : Value) : Own (w.setCell ⟨b, i, none⟩ x) B v l := by
  refine ⟨h.1, h.2.1, ?_⟩
  rcases h.2.2 with h | ⟨g, cap, cur, hv, hg, hh, r⟩
  · exact .inl h
  · exact .inr ⟨g, cap, cur, hv, hg, (Below.heap_setCell _ _ _ _ (fun e => by simp only at e; omega)).trans hh, r⟩

set_option maxHeartbeats 1000000 in
set_option maxRecDepth 100000 in
theorem l1copy_any (a : Option Addr) (cap : Nat) (l : List Int) (w : World) (hv : Bs w (.slice a l.length cap) l) (hl : l.length ≤ 1048576) :
    Calls Try.prog 49 #[.slice a l.length cap] w fun e w' => ∃ a' cap', e = .returned (.slice a' l.length cap') ∧ Own w' w.heap.size (.slice a' l.length cap') l ∧ Below w.heap.size w w' := by
  have h0 := Own.lit0 w
  obtain ⟨hm, h8, a', cap', e, hc⟩ := hv
  injection e with e1 e2 e3
  subst e1 e3
  clear e2
  have h0' : Hid (Own (w.alloc (.cells #[] 5)) w.heap.size (.slice (some ⟨w.heap.size, 0, none⟩) 0 0) (l.take 0)) := h0
  clear h0
  go_enter Try.func49, Try.ntmps49
  go_wp2
  go_loopw [3, 4] (fun o i wr => ∃ k : Nat, k ≤ l.length ∧ i = .int .i64 k ∧ Own wr w.heap.size o (l.take k) ∧ Below w.heap.size w wr) (fun _ i _ => l.length - (intOf i).toNat)
  case atStart => exact ⟨0, Nat.zero_le _, rfl, h0'.out, (Below.refl _ _).alloc (Nat.le_refl _) _⟩
  case round =>
    obtain ⟨k, hk, rfl, ho, hb⟩ := hrel
    by_cases hlt : k < l.length
    · obtain ⟨b, off, rfl, hcell⟩ := hc k hlt
      have hck : wr.cell? ⟨b, off + k, none⟩ = some (.int .u8 (l[k]?.getD 0)) := by rw [hb.cell (cell_lt (hcell k hlt))]; exact hcell k hlt
      have h8k := byte_at h8 k
      have hlk : (l.take k).length = k := by rw [List.length_take]; omega
      have e1 : l.take (k + 1) = l.take k ++ [l[k]?.getD 0] := by rw [List.take_succ_eq_append_getElem hlt, List.getElem?_eq_getElem hlt]; rfl
      have HT : Hid (l.take (k + 1) = l.take k ++ [l[k]?.getD 0]) := e1
      have hz := hb.size
      clear hcell h8 hc e1
      generalize l[k]?.getD 0 = z at hck h8k HT
      obtain ⟨z0, z1⟩ := h8k
      go_wp2_with (at_builtin; refine wpl_append rfl (.tmp 12) (.tmp 17) rfl (ho.below ((Below.refl _ _).alloc (Nat.le_refl _) _)) rfl (Bs.one _ z ⟨z0, z1⟩) rfl (by simp) (by simp; omega) (by simp; omega) ?_; intro v2 w2 ho2 hg2)
      go_roundw
      case rel => exact ⟨k + 1, by omega, by go_num, by rw [HT.out]; exact ho2, hb.trans (((Below.refl _ _).alloc (by omega) _).trans (hg2.below (ho.below ((Below.refl _ _).alloc (Nat.le_refl _) _)) (by simp; omega)))⟩
      case measure => simp [intOf]; omega
    · have e : l.take k = l := List.take_of_length_le (by omega)
      rw [e] at ho
      obtain ⟨a', cap', rfl⟩ := ho.shape
      go_wp2
      go_ret
      exact ⟨_, _, rfl, ho, hb⟩

end Go.Proofs.Ythondmpnleleiaa
