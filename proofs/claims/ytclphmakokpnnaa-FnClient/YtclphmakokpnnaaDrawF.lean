/-
  spec.DrawCalls: the same client and events for the same bytes.
-/
import Derived.Test.YtclphmakokpnnaaDrawG
import Derived.Test.YtclphmakokpnnaaCliStepS
import Derived.Test.YtclphmakokpnnaaRegInv
namespace Go.Proofs.Ytclphmakokpnnaa
open Go.RowKit
set_option linter.unusedVariables false
set_option linter.unusedSimpArgs false

theorem sizeCevD : (Try.prog.info? 45).map (·.size) = some 13 := by kernel_rfl
theorem l1max_any (a b : Int) (w : World) : Calls Try.prog 24 #[.int .i64 a, .int .i64 b] w fun e w' => e = .returned (.int .i64 (max a b)) ∧ w' = w := by
  by_cases h : b < a
  · rw [show max a b = a by omega]
    go_enter Try.func24, Try.ntmps24
    go_wp2
    go_ret
    exact ⟨rfl, rfl⟩
  · rw [show max a b = b by omega]
    go_enter Try.func24, Try.ntmps24
    go_wp2
    go_ret
    exact ⟨rfl, rfl⟩
theorem l1min_any (a b : Int) (w : World) : Calls Try.prog 23 #[.int .i64 a, .int .i64 b] w fun e w' => e = .returned (.int .i64 (min a b)) ∧ w' = w := by
  by_cases h : a < b
  · rw [show min a b = a by omega]
    go_enter Try.func23, Try.ntmps23
    go_wp2
    go_ret
    exact ⟨rfl, rfl⟩
  · rw [show min a b = b by omega]
    go_enter Try.func23, Try.ntmps23
    go_wp2
    go_ret
    exact ⟨rfl, rfl⟩
theorem l1size_any (a : Option Addr) (n cap : Nat) (hn : n ≤ maxLen) (w : World) : Calls Try.prog 34 #[.slice a n cap] w fun e w' => e = .returned (.int .i64 ((min n 400 : Nat) : Int)) ∧ w' = w := by
  have h := fun w => l1min_any (n : Int) 400 w
  rw [show min (n : Int) 400 = ((min n 400 : Nat) : Int) by omega] at h
  have H : Hid (∀ w : World, Calls Try.prog 23 #[.int .i64 n, .int .i64 400] w fun e w' => e = .returned (.int .i64 ((min n 400 : Nat) : Int)) ∧ w' = w) := h
  clear h
  generalize min n 400 = m at H ⊢
  go_enter Try.func34, Try.ntmps34
  go_wp2_with (go_at_call 23; refine Calls.mono (H.out _) ?_; rintro e w1 ⟨rfl, rfl⟩)
  go_ret
  exact ⟨rfl, rfl⟩

theorem results_blk2 {fn : Func} {s s2 : Tmp} {ty : TypeId} {tmps : Array Value} {b : Nat} {w : World} {C : Array Value} {t : TypeId} {u : Value} (hr : fn.results = #[.cell s ty, .tmp s2]) (ht : tmps.getD s undef = .pointer (some ⟨b, 0, none⟩)) (hu2 : tmps.getD s2 undef = u)
    (hb : Blk w b C t) {d : TypeDesc} (hu : Try.prog.underlying ty = some d) (hd : d.isRow = true) {n : Nat} (hi : (Try.prog.info? ty).map (·.size) = some n) (hn : n = C.size) : (results fn tmps).run Try.prog w = .ok (.tuple #[.agg C, u]) w := by
  have e : tmps[s]?.getD undef = .pointer (some ⟨b, 0, none⟩) := by rw [← ht]; simp
  have e2 : tmps[s2]?.getD undef = u := by rw [← hu2]; simp
  have hl := run_loadVar_mid (P := Try.prog) w b 0 ty C.toList d hb.range hu hd (by rw [hi, hn]; simp)
  simp [results, hr, e, e2, hl, asAddr]

/-- a store of one number into a block -/
theorem wp_store_num {o : Oper} {a : Act} {w : World} {K : Act → World → Prop} {Q : Exit → Act → World → Prop} (x y : Operand) (ho : o.op = .store 3 x y) (b j : Nat) (hx : a.eval x = .pointer (some ⟨b, j, none⟩)) {n : Int} (hy : a.eval y = .int .i64 n)
    {C : Array Value} {t : TypeId} (hb : Blk w b C t) (hj : j < C.size) (h : K (a.put o.dst undef) (w.setCell ⟨b, j, none⟩ (.int .i64 n))) : o.wp Try.prog a w K Q := by
  have hc : w.cell? ⟨b, j, none⟩ = some C[j] := by rw [hb.cell j]; exact Array.getElem?_eq_getElem hj
  have hf := hb.free j
  unfold Oper.wp execOp
  rw [ho]
  obtain ⟨va, hva⟩ : ∃ va, va = a.eval x := ⟨_, rfl⟩
  obtain ⟨vb, hvb⟩ : ∃ vb, vb = a.eval y := ⟨_, rfl⟩
  rw [hx] at hva
  rw [hy] at hvb
  simp only [hx, hy]
  go_simp
  exact h
theorem wpl_store_num {ops : Array Oper} {rest : List Oper} {o : Oper} {a : Act} {w : World} {Q : Exit → Act → World → Prop} (hgd : o.guard = none) (x y : Operand) (ho : o.op = .store 3 x y) (b j : Nat) (hx : a.eval x = .pointer (some ⟨b, j, none⟩)) {n : Int} (hy : a.eval y = .int .i64 n)
    {C : Array Value} {t : TypeId} (hb : Blk w b C t) (hj : j < C.size) (h : wpList Try.prog ops Q rest (a.put o.dst undef) (w.setCell ⟨b, j, none⟩ (.int .i64 n))) : wpList Try.prog ops Q (o :: rest) a w :=
  wpList_plain hgd fun K hK => wp_store_num x y ho b j hx hy hb hj (hK _ _ h)
set_option maxRecDepth 100000 in
theorem field_cli (a0 a1 a2 a3 a4 a5 a6 a7 a8 a9 a10 a11 a12 a13 a14 a15 : Value) (w : World) : (Instr.field 40 (.agg #[a0, a1, a2, a3, a4, a5, a6, a7, a8, a9, a10, a11, a12, a13, a14, a15]) 3).run Try.prog w = .ok (.agg #[a3, a4, a5, a6, a7, a8, a9, a10, a11, a12, a13, a14, a15]) w := by
  simp [Instr.field, part, Try.underlying40, go_sem, asAgg]
end Go.Proofs.Ytclphmakokpnnaa
