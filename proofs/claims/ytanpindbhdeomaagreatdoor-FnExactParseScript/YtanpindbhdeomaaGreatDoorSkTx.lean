/-
  Slices of texts of one's own.
-/
import Derived.Test.YtanpindbhdeomaaGreatDoorRowOwn
namespace Go.Proofs.YtanpindbhdeomaaGreatDoor
open Go.RowKit
set_option linter.unusedVariables false
set_option linter.unusedSimpArgs false

def txC (t : ByteArray) : List Value := [.string t]
theorem txLaw : GLaw txC 1 9 37 := {
  und := Tryz.underlying37
  info := by
    obtain ⟨i0, hi, hz0, hz1, hz2⟩ := info_parts (show (Tryz.prog.info? 9).map (fun i => (i.zero, i.size, i.bytes)) = some (some (.string ⟨#[]⟩), 1, 16) by kernel_rfl)
    exact ⟨i0, _, _, hi, hz0, hz1, hz2, rfl, by decide⟩
  pos := by decide
  len := fun _ => rfl
  one := fun a u hu => by
    simp only [txC, List.mem_cons, List.not_mem_nil, or_false] at hu
    subst hu; rfl }
theorem gC_tx (l : List ByteArray) : gC txC l = l.map Value.string := by
  induction l with
  | nil => rfl
  | cons a r ih => simp [gC, txC, ih]
section
variable {α : Type} {cs : α → List Value} {m : Nat} {T S : TypeId} {w w' : World} {B : Nat} {v : Value} {l : List α}
theorem OwnG.lit (L : GLaw cs m T S) (w : World) (B : Nat) (l : List α) (c : Array Value) (hc : c.toList = gC cs l) (hl : l.length ≤ maxLen) (hB : B ≤ w.heap.size) :
    OwnG cs m T (w.alloc (.cells c T)) B (.slice (some ⟨w.heap.size, 0, none⟩) l.length l.length) l := by
  have hs : c.size = l.length * m := by rw [← Array.length_toList, hc, gC_len L.len]
  refine ⟨by rw [gC_len L.len], .inr ⟨w.heap.size, l.length, c, rfl, hB, ?_, Nat.le_refl _, hl, by omega, ?_⟩⟩
  · show (w.heap.push _)[_]? = _
    simp
  · rw [hc, List.take_of_length_le (by rw [gC_len L.len]; omega)]
set_option maxRecDepth 100000 in
theorem wpl_appendGs (L : GLaw cs m T S) {ops : Array Oper} {rest : List Oper} {o : Oper} {a : Act} {Q : Exit → Act → World → Prop} (hgd : o.guard = none) (s x : Operand)
    (ho : o.op = .call { callee := .builtin .append, args := #[s, x], argTypes := #[S, S] })
    (es : List α) (hown : OwnG cs m T w B v l) (hs : a.eval s = v) (b c n : Nat) (hu : w.rangeAt b 0 (gC cs es)) (hx : a.eval x = .slice (some ⟨b, 0, none⟩) n c) (hn : n = es.length) (hlen : l.length + es.length ≤ 1000000) (hB : B ≤ w.heap.size)
    (h : ∀ v' w', OwnG cs m T w' B v' (l ++ es) → Grew w v w' v' → wpList Tryz.prog ops Q rest (a.put o.dst v') w') : wpList Tryz.prog ops Q (o :: rest) a w := by
  subst hn
  obtain ⟨i0, z, bytes, hi, hz0, hz1, hz2, hz3, hb⟩ := L.info
  have hmul : (l.length + es.length) * bytes ≤ 1000001 * 128 := Nat.mul_le_mul (by omega) hb
  refine wpList_append_own_at w hgd s x S ho B T i0 z m bytes L.und hi hz0 hz1 hz2 hz3 L.pos v l.length _ hs hown ⟨b, 0, none⟩ es.length c (gC cs es) hx (by rw [gC_len L.len]) ?_ ?_ (by unfold maxLen; omega) (by omega) hB ?_
  · intro j u hj
    rw [cell_add, Nat.zero_add]
    have := hu j u hj
    rwa [Nat.zero_add] at this
  · intro u hu'
    induction es with
    | nil => simp [gC] at hu'
    | cons e r ih =>
      rw [gC, List.mem_append] at hu'
      rcases hu' with hu' | hu'
      · exact L.one e u hu'
      · have key : ∀ (r : List α), u ∈ gC cs r → u.oneCell' = true := by
          intro r
          induction r with
          | nil => intro h; simp [gC] at h
          | cons e' r' ih' =>
            intro h
            rw [gC, List.mem_append] at h
            rcases h with h | h
            · exact L.one e' u h
            · exact ih' h
        exact key r hu'
  · intro v' w' h2 h3 _ h5
    exact h v' w' (by unfold OwnG; rw [gC_app, List.length_append]; exact h2) ⟨h3, h5.imp id fun e => ⟨_, e, Nat.le_refl _⟩⟩
end
end Go.Proofs.YtanpindbhdeomaaGreatDoor
