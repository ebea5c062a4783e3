/-
  A look into the tables' maps.
-/
import Derived.Test.YtnoihfincifphaaTbOf
namespace Go.Proofs.Ytnoihfincifphaa
open Go.RowKit Go.Maps
set_option linter.unusedVariables false
set_option linter.unusedSimpArgs false

theorem zeroPr (w : World) : (zeroValue 135).run Try.prog w = .ok (.agg #[.string ⟨#[]⟩, .string ⟨#[]⟩]) w := by kernel_rfl
theorem zeroSe (w : World) : (zeroValue 120).run Try.prog w = .ok (.agg #[.int .i64 0, .int .i64 0, .int .i64 0, .string ⟨#[]⟩]) w := by kernel_rfl

section
variable {α : Type} {kd : α → Lit} {vl : α → Value} {ops : Array Oper} {rest : List Oper} {o : Oper} {a : Act} {Q : Exit → Act → World → Prop}
/-- m[x] -/
theorem wpl_look (w : World) (hg : o.guard = none) (m x : Operand) (t : TypeId) (hop : o.op = Op.lookup t m x false) (k e : TypeId) (K : Keyed Try.prog k) (ht : Try.prog.underlying t = some (.map k e)) {z : Value} (hz : (zeroValue e).run Try.prog w = .ok z w)
    (b n : Nat) (l : List α) (hm : a.eval m = .map (some b)) (hown : w.ownsMap Try.prog k heldE b n (kMap kd vl l)) (key : Value) (kl : Lit) (hx : a.eval x = key) (hkey : keyOf Try.prog k key = some kl) (V : Value) (hV : (l.find? fun a => (kd a).sameKey kl).elim z vl = V)
    (hK : wpList Try.prog ops Q rest (a.put o.dst V) w) : wpList Try.prog ops Q (o :: rest) a w := by
  refine wpList_plain hg fun K' hK' => ?_
  obtain ⟨v, ps, hrun, hv⟩ := hown.lookup (zd := .held z) (zp := []) K ht hz rfl hkey
  rw [atKey_kMap, hV] at hv
  obtain rfl : v = V := by
    simp only [heldE, Option.some.injEq, Prod.mk.injEq, DataW.held.injEq] at hv
    exact hv.1
  unfold Oper.wp
  simp [execOp, hop, hm, hx, hrun, Result.andThen]
  exact hK' _ _ hK
/-- v, ok := m[x] -/
theorem wpl_lookOk (w : World) (hg : o.guard = none) (m x : Operand) (t : TypeId) (hop : o.op = Op.lookup t m x true) (k e : TypeId) (K : Keyed Try.prog k) (ht : Try.prog.underlying t = some (.map k e)) {z : Value} (hz : (zeroValue e).run Try.prog w = .ok z w)
    (b n : Nat) (l : List α) (hm : a.eval m = .map (some b)) (hown : w.ownsMap Try.prog k heldE b n (kMap kd vl l)) (key : Value) (kl : Lit) (hx : a.eval x = key) (hkey : keyOf Try.prog k key = some kl) (V : Value) (hV : (l.find? fun a => (kd a).sameKey kl).elim z vl = V) (c : Bool) (hc : (l.any fun a => (kd a).sameKey kl) = c)
    (hK : wpList Try.prog ops Q rest (a.put o.dst (.tuple #[V, .bool c])) w) : wpList Try.prog ops Q (o :: rest) a w := by
  refine wpList_plain hg fun K' hK' => ?_
  obtain ⟨v, ps, hrun, hv⟩ := hown.look_ok (zd := .held z) (zp := []) K ht hz rfl hkey
  rw [atKey_kMap, hV] at hv
  obtain rfl : v = V := by
    simp only [heldE, Option.some.injEq, Prod.mk.injEq, DataW.held.injEq] at hv
    exact hv.1
  rw [has_kMap, hc] at hrun
  unfold Oper.wp
  simp [execOp, hop, hm, hx, hrun, Result.andThen]
  exact hK' _ _ hK
end
theorem rise_len : ∀ (l : List Se) (lo : Int), KRise seK l → (∀ s ∈ l, lo < s.cl ∧ s.cl ≤ 8) → lo ≤ 8 → (l.length : Int) ≤ 8 - lo
  | [], lo, _, _, h => by simp; omega
  | a :: r, lo, hr, ha, h => by
    have h1 := ha a (by simp)
    have h2 := rise_len r a.cl (List.Pairwise.of_cons hr) (fun s hs => ⟨by have h3 : decide (a.cl < s.cl) = true := List.rel_of_pairwise_cons hr hs; simpa using h3, (ha s (by simp [hs])).2⟩) h1.2
    rw [List.length_cons]
    omega
theorem SsOk.len {ss : List Se} (h : SsOk ss) : ss.length ≤ 8 := by
  have := rise_len ss 0 h.rise (fun s hs => by have := (h.all s hs).1; omega) (by omega)
  omega
theorem grown_app {W wr w2 w3 : World} {p : Nat} {v v' : Value} (hG : W.grownBy wr (some p)) (h1 : Below wr.heap.size wr w2) (hg : Grew w2 v w3 v') (hv : ∀ k, v.ownBlock = some k → W.heap.size ≤ k) (o : Nat) (x : Value) : W.grownBy (w3.setCell ⟨p, o, none⟩ x) (some p) := by
  have hs := hG.size
  have hs1 := h1.size
  have hs2 := hg.g.size
  refine ⟨hg.g.os.trans (h1.os.trans hG.os), hg.g.tape.trans (h1.tape.trans hG.tape), hg.g.output.trans (h1.output.trans hG.output), by simp [World.setCell]; omega, fun j hj hne => ?_⟩
  rw [Below.heap_setCell _ _ _ _ (fun e => hne (by simp only [] at e; rw [e])), hg.block (by omega) (fun e => by have := hv j e; omega), h1.block j (by omega), hG.block j hj hne]
theorem Blk.grewG {w w' : World} {v v' : Value} {b : Nat} {C : Array Value} {t : TypeId} (h : Blk w b C t) (hg : Grew w v w' v') (hne : v.ownBlock ≠ some b) : Blk w' b C t := h.keep (hg.block h.lt hne)
end Go.Proofs.Ytnoihfincifphaa
