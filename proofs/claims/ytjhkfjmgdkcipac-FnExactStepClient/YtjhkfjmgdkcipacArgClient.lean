/-
  An argument of type laws.Client, opened.
-/
import Derived.Test.YtjhkfjmgdkcipacArgBase
namespace Go.Proofs.Ytjhkfjmgdkcipac
open Go.ChangeShapes Go.WideShapes Go.ChangeAt Go.RowKit
set_option linter.unusedVariables false
set_option linter.unusedSimpArgs false

namespace argClient
theorem cells_3 : Try.prog.cellsOf 3 = 1 := by kernel_rfl
theorem cells_9 : Try.prog.cellsOf 9 = 1 := by kernel_rfl
theorem wf_int {n : Int} (h : (Lit.int .i64 n).wf = true) : -(2 ^ 63) ≤ n ∧ n < 2 ^ 63 := int_wf h
section
variable {H : Type} {enc : TypeId × Value → H} {W : World} {base : Nat} {spare : Nat → Bool} {held : Bool}

theorem cells_Cmd : Try.prog.cellsOf 65 = 6 := by kernel_rfl
set_option maxRecDepth 100000 in
theorem cs_Cmd {fuel : Nat} {cs : List Value} {x : DataW H × List MemPlace} (h : DataW.trod enc Try.prog W base spare held fuel 65 cs = some x) :
    ∃ (cl : Int) (sq : Int) (op : Int) (k : ByteArray) (v : ByteArray) (o : ByteArray), cs = [.int .i64 cl, .int .i64 sq, .int .i64 op, .string k, .string v, .string o] ∧ (-(2 ^ 63) ≤ cl ∧ cl < 2 ^ 63) ∧ (-(2 ^ 63) ≤ sq ∧ sq < 2 ^ 63) ∧ (-(2 ^ 63) ≤ op ∧ op < 2 ^ 63) ∧ k.size ≤ maxLen ∧ v.size ≤ maxLen ∧ o.size ≤ maxLen := by
  obtain ⟨xs, n, _, hx, hl, hlen, hg⟩ := DataW.trod_struct Try.underlying65 h
  have hln : cs.length = 6 := hl.trans cells_Cmd
  match cs, hln with
  | [c0, c1, c2, c3, c4, c5], _ =>
    have hlen' : xs.length = 6 := hlen
    have g0 := hg 0 _ rfl
    have g1 := hg 1 _ rfl
    have g2 := hg 2 _ rfl
    have g3 := hg 3 _ rfl
    have g4 := hg 4 _ rfl
    have g5 := hg 5 _ rfl
    rw [List.getElem?_eq_getElem (by omega)] at g0 g1 g2 g3 g4 g5
    obtain ⟨a0, e0, _, m0⟩ := DataW.trod_int Try.underlying3 g0
    obtain ⟨a1, e1, _, m1⟩ := DataW.trod_int Try.underlying3 g1
    obtain ⟨a2, e2, _, m2⟩ := DataW.trod_int Try.underlying3 g2
    obtain ⟨a3, e3, _, m3⟩ := DataW.trod_string Try.underlying9 g3
    obtain ⟨a4, e4, _, m4⟩ := DataW.trod_string Try.underlying9 g4
    obtain ⟨a5, e5, _, m5⟩ := DataW.trod_string Try.underlying9 g5
    simp [cells_3, cells_9] at e0 e1 e2 e3 e4 e5
    exact ⟨a0, a1, a2, a3, a4, a5, by rw [e0, e1, e2, e3, e4, e5], wf_int m0, wf_int m1, wf_int m2, m3, m4, m5⟩

theorem cells_Client : Try.prog.cellsOf 67 = 13 := by kernel_rfl
set_option maxRecDepth 100000 in
theorem cs_Client {fuel : Nat} {cs : List Value} {x : DataW H × List MemPlace} (h : DataW.trod enc Try.prog W base spare held fuel 67 cs = some x) :
    ∃ (id : Int) (sv : Int) (rt : Int) (sq : Int) (bs : Int) (tg : Int) (wt : Int) (c_cl : Int) (c_sq : Int) (c_op : Int) (c_k : ByteArray) (c_v : ByteArray) (c_o : ByteArray), cs = [.int .i64 id, .int .i64 sv, .int .i64 rt, .int .i64 sq, .int .i64 bs, .int .i64 tg, .int .i64 wt, .int .i64 c_cl, .int .i64 c_sq, .int .i64 c_op, .string c_k, .string c_v, .string c_o] ∧ (-(2 ^ 63) ≤ id ∧ id < 2 ^ 63) ∧ (-(2 ^ 63) ≤ sv ∧ sv < 2 ^ 63) ∧ (-(2 ^ 63) ≤ rt ∧ rt < 2 ^ 63) ∧ (-(2 ^ 63) ≤ sq ∧ sq < 2 ^ 63) ∧ (-(2 ^ 63) ≤ bs ∧ bs < 2 ^ 63) ∧ (-(2 ^ 63) ≤ tg ∧ tg < 2 ^ 63) ∧ (-(2 ^ 63) ≤ wt ∧ wt < 2 ^ 63) ∧ (-(2 ^ 63) ≤ c_cl ∧ c_cl < 2 ^ 63) ∧ (-(2 ^ 63) ≤ c_sq ∧ c_sq < 2 ^ 63) ∧ (-(2 ^ 63) ≤ c_op ∧ c_op < 2 ^ 63) ∧ c_k.size ≤ maxLen ∧ c_v.size ≤ maxLen ∧ c_o.size ≤ maxLen := by
  obtain ⟨xs, n, _, hx, hl, hlen, hg⟩ := DataW.trod_struct Try.underlying67 h
  have hln : cs.length = 13 := hl.trans cells_Client
  match cs, hln with
  | [c0, c1, c2, c3, c4, c5, c6, c7, c8, c9, c10, c11, c12], _ =>
    have hlen' : xs.length = 8 := hlen
    have g0 := hg 0 _ rfl
    have g1 := hg 1 _ rfl
    have g2 := hg 2 _ rfl
    have g3 := hg 3 _ rfl
    have g4 := hg 4 _ rfl
    have g5 := hg 5 _ rfl
    have g6 := hg 6 _ rfl
    have g7 := hg 7 _ rfl
    rw [List.getElem?_eq_getElem (by omega)] at g0 g1 g2 g3 g4 g5 g6 g7
    obtain ⟨a0, e0, _, m0⟩ := DataW.trod_int Try.underlying3 g0
    obtain ⟨a1, e1, _, m1⟩ := DataW.trod_int Try.underlying3 g1
    obtain ⟨a2, e2, _, m2⟩ := DataW.trod_int Try.underlying3 g2
    obtain ⟨a3, e3, _, m3⟩ := DataW.trod_int Try.underlying3 g3
    obtain ⟨a4, e4, _, m4⟩ := DataW.trod_int Try.underlying3 g4
    obtain ⟨a5, e5, _, m5⟩ := DataW.trod_int Try.underlying3 g5
    obtain ⟨a6, e6, _, m6⟩ := DataW.trod_int Try.underlying3 g6
    obtain ⟨a7, a8, a9, a10, a11, a12, e7, m7_0, m7_1, m7_2, m7_3, m7_4, m7_5⟩ := cs_Cmd g7
    simp [cells_3, cells_9, cells_Cmd] at e0 e1 e2 e3 e4 e5 e6 e7
    obtain ⟨f7_0, f7_1, f7_2, f7_3, f7_4, f7_5⟩ := e7
    exact ⟨a0, a1, a2, a3, a4, a5, a6, a7, a8, a9, a10, a11, a12, by rw [e0, e1, e2, e3, e4, e5, e6, f7_0, f7_1, f7_2, f7_3, f7_4, f7_5], wf_int m0, wf_int m1, wf_int m2, wf_int m3, wf_int m4, wf_int m5, wf_int m6, m7_0, m7_1, m7_2, m7_3, m7_4, m7_5⟩

set_option maxRecDepth 100000 in
theorem opened {b0 : Nat} {v : Value} {d : DataW H} {p : List MemPlace}
    (hv : Value.okWide Try.prog W .any b0 67 v) (h : DataW.Trod enc Try.prog W base spare held 67 v d p) :
    ∃ (id : Int) (sv : Int) (rt : Int) (sq : Int) (bs : Int) (tg : Int) (wt : Int) (c_cl : Int) (c_sq : Int) (c_op : Int) (c_k : ByteArray) (c_v : ByteArray) (c_o : ByteArray), v = .agg #[.int .i64 id, .int .i64 sv, .int .i64 rt, .int .i64 sq, .int .i64 bs, .int .i64 tg, .int .i64 wt, .int .i64 c_cl, .int .i64 c_sq, .int .i64 c_op, .string c_k, .string c_v, .string c_o] ∧ (-(2 ^ 63) ≤ id ∧ id < 2 ^ 63) ∧ (-(2 ^ 63) ≤ sv ∧ sv < 2 ^ 63) ∧ (-(2 ^ 63) ≤ rt ∧ rt < 2 ^ 63) ∧ (-(2 ^ 63) ≤ sq ∧ sq < 2 ^ 63) ∧ (-(2 ^ 63) ≤ bs ∧ bs < 2 ^ 63) ∧ (-(2 ^ 63) ≤ tg ∧ tg < 2 ^ 63) ∧ (-(2 ^ 63) ≤ wt ∧ wt < 2 ^ 63) ∧ (-(2 ^ 63) ≤ c_cl ∧ c_cl < 2 ^ 63) ∧ (-(2 ^ 63) ≤ c_sq ∧ c_sq < 2 ^ 63) ∧ (-(2 ^ 63) ≤ c_op ∧ c_op < 2 ^ 63) ∧ c_k.size ≤ maxLen ∧ c_v.size ≤ maxLen ∧ c_o.size ≤ maxLen := by
  obtain ⟨cs, rfl, hsz⟩ := okWide_struct Try.underlying67 hv
  obtain ⟨fuel, hf⟩ := h
  obtain ⟨l⟩ := cs
  obtain ⟨b0, b1, b2, b3, b4, b5, b6, b7, b8, b9, b10, b11, b12, hl, hr⟩ := cs_Client hf
  have hl2 : l = [.int .i64 b0, .int .i64 b1, .int .i64 b2, .int .i64 b3, .int .i64 b4, .int .i64 b5, .int .i64 b6, .int .i64 b7, .int .i64 b8, .int .i64 b9, .string b10, .string b11, .string b12] := hl
  subst hl2
  exact ⟨b0, b1, b2, b3, b4, b5, b6, b7, b8, b9, b10, b11, b12, rfl, hr⟩
end
end argClient
end Go.Proofs.Ytjhkfjmgdkcipac
