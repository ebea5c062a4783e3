/-
  An argument of type laws.ClientEvent, opened.
-/
import Derived.Test.YtjhkfjmgdkcipacArgBase
namespace Go.Proofs.Ytjhkfjmgdkcipac
open Go.ChangeShapes Go.WideShapes Go.ChangeAt Go.RowKit
set_option linter.unusedVariables false
set_option linter.unusedSimpArgs false

namespace argClientEvent
theorem cells_3 : Try.prog.cellsOf 3 = 1 := by kernel_rfl
theorem cells_9 : Try.prog.cellsOf 9 = 1 := by kernel_rfl
theorem wf_int {n : Int} (h : (Lit.int .i64 n).wf = true) : -(2 ^ 63) ≤ n ∧ n < 2 ^ 63 := int_wf h
section
variable {H : Type} {enc : TypeId × Value → H} {W : World} {base : Nat} {spare : Nat → Bool} {held : Bool}

theorem cells_Cmd : Try.prog.cellsOf 65 = 6 := by kernel_rfl
set_option maxRecDepth 100000 in
theorem cs_Cmd {fuel : Nat} {cs : List Value} {x : DataW H × List MemPlace} (h : DataW.trod enc Try.prog W base spare held fuel 65 cs = some x) :
    ∃ (cl : Int) (sq : Int) (op : Int) (k : ByteArray) (v : ByteArray) (o : ByteArray), cs = [.int .i64 cl, .int .i64 sq, .int .i64 op, .string k, .string v, .string o] ∧ (-(2 ^ 63) ≤ cl ∧ cl < 2 ^ 63) ∧ (-(2 ^ 63) ≤ sq ∧ sq < 2 ^ 63) ∧ (-(2 ^ 63) ≤ op ∧ op < 2 ^ 63) ∧ k.size ≤ maxLen ∧ v.size ≤ maxLen ∧ o.size ≤ maxLen := by
  obtain ⟨xs, n, _, hx, hl, hlen, hg⟩ := DataW.trod_struct Try.underlying65 h
  have hln : cs.length = 6 := hl.trans cells_Cmd
  match cs, hln with
  | [c0, c1, c2, c3, c4, c5], _ =>
    have hlen' : xs.length = 6 := hlen
    have g0 := hg 0 _ rfl
    have g1 := hg 1 _ rfl
    have g2 := hg 2 _ rfl
    have g3 := hg 3 _ rfl
    have g4 := hg 4 _ rfl
    have g5 := hg 5 _ rfl
    rw [List.getElem?_eq_getElem (by omega)] at g0 g1 g2 g3 g4 g5
    obtain ⟨a0, e0, _, m0⟩ := DataW.trod_int Try.underlying3 g0
    obtain ⟨a1, e1, _, m1⟩ := DataW.trod_int Try.underlying3 g1
    obtain ⟨a2, e2, _, m2⟩ := DataW.trod_int Try.underlying3 g2
    obtain ⟨a3, e3, _, m3⟩ := DataW.trod_string Try.underlying9 g3
    obtain ⟨a4, e4, _, m4⟩ := DataW.trod_string Try.underlying9 g4
    obtain ⟨a5, e5, _, m5⟩ := DataW.trod_string Try.underlying9 g5
    simp [cells_3, cells_9] at e0 e1 e2 e3 e4 e5
    exact ⟨a0, a1, a2, a3, a4, a5, by rw [e0, e1, e2, e3, e4, e5], wf_int m0, wf_int m1, wf_int m2, m3, m4, m5⟩

theorem cells_Reply : Try.prog.cellsOf 23 = 6 := by kernel_rfl
set_option maxRecDepth 100000 in
theorem cs_Reply {fuel : Nat} {cs : List Value} {x : DataW H × List MemPlace} (h : DataW.trod enc Try.prog W base spare held fuel 23 cs = some x) :
    ∃ (cl : Int) (sq : Int) (st : Int) (cd : Int) (v : ByteArray) (ld : Int), cs = [.int .i64 cl, .int .i64 sq, .int .i64 st, .int .i64 cd, .string v, .int .i64 ld] ∧ (-(2 ^ 63) ≤ cl ∧ cl < 2 ^ 63) ∧ (-(2 ^ 63) ≤ sq ∧ sq < 2 ^ 63) ∧ (-(2 ^ 63) ≤ st ∧ st < 2 ^ 63) ∧ (-(2 ^ 63) ≤ cd ∧ cd < 2 ^ 63) ∧ v.size ≤ maxLen ∧ (-(2 ^ 63) ≤ ld ∧ ld < 2 ^ 63) := by
  obtain ⟨xs, n, _, hx, hl, hlen, hg⟩ := DataW.trod_struct Try.underlying23 h
  have hln : cs.length = 6 := hl.trans cells_Reply
  match cs, hln with
  | [c0, c1, c2, c3, c4, c5], _ =>
    have hlen' : xs.length = 6 := hlen
    have g0 := hg 0 _ rfl
    have g1 := hg 1 _ rfl
    have g2 := hg 2 _ rfl
    have g3 := hg 3 _ rfl
    have g4 := hg 4 _ rfl
    have g5 := hg 5 _ rfl
    rw [List.getElem?_eq_getElem (by omega)] at g0 g1 g2 g3 g4 g5
    obtain ⟨a0, e0, _, m0⟩ := DataW.trod_int Try.underlying3 g0
    obtain ⟨a1, e1, _, m1⟩ := DataW.trod_int Try.underlying3 g1
    obtain ⟨a2, e2, _, m2⟩ := DataW.trod_int Try.underlying3 g2
    obtain ⟨a3, e3, _, m3⟩ := DataW.trod_int Try.underlying3 g3
    obtain ⟨a4, e4, _, m4⟩ := DataW.trod_string Try.underlying9 g4
    obtain ⟨a5, e5, _, m5⟩ := DataW.trod_int Try.underlying3 g5
    simp [cells_3, cells_9] at e0 e1 e2 e3 e4 e5
    exact ⟨a0, a1, a2, a3, a4, a5, by rw [e0, e1, e2, e3, e4, e5], wf_int m0, wf_int m1, wf_int m2, wf_int m3, m4, wf_int m5⟩

theorem cells_ClientEvent : Try.prog.cellsOf 69 = 13 := by kernel_rfl
set_option maxRecDepth 100000 in
theorem cs_ClientEvent {fuel : Nat} {cs : List Value} {x : DataW H × List MemPlace} (h : DataW.trod enc Try.prog W base spare held fuel 69 cs = some x) :
    ∃ (kd : Int) (c_cl : Int) (c_sq : Int) (c_op : Int) (c_k : ByteArray) (c_v : ByteArray) (c_o : ByteArray) (r_cl : Int) (r_sq : Int) (r_st : Int) (r_cd : Int) (r_v : ByteArray) (r_ld : Int), cs = [.int .i64 kd, .int .i64 c_cl, .int .i64 c_sq, .int .i64 c_op, .string c_k, .string c_v, .string c_o, .int .i64 r_cl, .int .i64 r_sq, .int .i64 r_st, .int .i64 r_cd, .string r_v, .int .i64 r_ld] ∧ (-(2 ^ 63) ≤ kd ∧ kd < 2 ^ 63) ∧ (-(2 ^ 63) ≤ c_cl ∧ c_cl < 2 ^ 63) ∧ (-(2 ^ 63) ≤ c_sq ∧ c_sq < 2 ^ 63) ∧ (-(2 ^ 63) ≤ c_op ∧ c_op < 2 ^ 63) ∧ c_k.size ≤ maxLen ∧ c_v.size ≤ maxLen ∧ c_o.size ≤ maxLen ∧ (-(2 ^ 63) ≤ r_cl ∧ r_cl < 2 ^ 63) ∧ (-(2 ^ 63) ≤ r_sq ∧ r_sq < 2 ^ 63) ∧ (-(2 ^ 63) ≤ r_st ∧ r_st < 2 ^ 63) ∧ (-(2 ^ 63) ≤ r_cd ∧ r_cd < 2 ^ 63) ∧ r_v.size ≤ maxLen ∧ (-(2 ^ 63) ≤ r_ld ∧ r_ld < 2 ^ 63) := by
  obtain ⟨xs, n, _, hx, hl, hlen, hg⟩ := DataW.trod_struct Try.underlying69 h
  have hln : cs.length = 13 := hl.trans cells_ClientEvent
  match cs, hln with
  | [c0, c1, c2, c3, c4, c5, c6, c7, c8, c9, c10, c11, c12], _ =>
    have hlen' : xs.length = 3 := hlen
    have g0 := hg 0 _ rfl
    have g1 := hg 1 _ rfl
    have g2 := hg 2 _ rfl
    rw [List.getElem?_eq_getElem (by omega)] at g0 g1 g2
    obtain ⟨a0, e0, _, m0⟩ := DataW.trod_int Try.underlying3 g0
    obtain ⟨a1, a2, a3, a4, a5, a6, e1, m1_0, m1_1, m1_2, m1_3, m1_4, m1_5⟩ := cs_Cmd g1
    obtain ⟨a7, a8, a9, a10, a11, a12, e2, m2_0, m2_1, m2_2, m2_3, m2_4, m2_5⟩ := cs_Reply g2
    simp [cells_3, cells_9, cells_Cmd, cells_Reply] at e0 e1 e2
    obtain ⟨f1_0, f1_1, f1_2, f1_3, f1_4, f1_5⟩ := e1
    obtain ⟨f2_0, f2_1, f2_2, f2_3, f2_4, f2_5⟩ := e2
    exact ⟨a0, a1, a2, a3, a4, a5, a6, a7, a8, a9, a10, a11, a12, by rw [e0, f1_0, f1_1, f1_2, f1_3, f1_4, f1_5, f2_0, f2_1, f2_2, f2_3, f2_4, f2_5], wf_int m0, m1_0, m1_1, m1_2, m1_3, m1_4, m1_5, m2_0, m2_1, m2_2, m2_3, m2_4, m2_5⟩

set_option maxRecDepth 100000 in
theorem opened {b0 : Nat} {v : Value} {d : DataW H} {p : List MemPlace}
    (hv : Value.okWide Try.prog W .any b0 69 v) (h : DataW.Trod enc Try.prog W base spare held 69 v d p) :
    ∃ (kd : Int) (c_cl : Int) (c_sq : Int) (c_op : Int) (c_k : ByteArray) (c_v : ByteArray) (c_o : ByteArray) (r_cl : Int) (r_sq : Int) (r_st : Int) (r_cd : Int) (r_v : ByteArray) (r_ld : Int), v = .agg #[.int .i64 kd, .int .i64 c_cl, .int .i64 c_sq, .int .i64 c_op, .string c_k, .string c_v, .string c_o, .int .i64 r_cl, .int .i64 r_sq, .int .i64 r_st, .int .i64 r_cd, .string r_v, .int .i64 r_ld] ∧ (-(2 ^ 63) ≤ kd ∧ kd < 2 ^ 63) ∧ (-(2 ^ 63) ≤ c_cl ∧ c_cl < 2 ^ 63) ∧ (-(2 ^ 63) ≤ c_sq ∧ c_sq < 2 ^ 63) ∧ (-(2 ^ 63) ≤ c_op ∧ c_op < 2 ^ 63) ∧ c_k.size ≤ maxLen ∧ c_v.size ≤ maxLen ∧ c_o.size ≤ maxLen ∧ (-(2 ^ 63) ≤ r_cl ∧ r_cl < 2 ^ 63) ∧ (-(2 ^ 63) ≤ r_sq ∧ r_sq < 2 ^ 63) ∧ (-(2 ^ 63) ≤ r_st ∧ r_st < 2 ^ 63) ∧ (-(2 ^ 63) ≤ r_cd ∧ r_cd < 2 ^ 63) ∧ r_v.size ≤ maxLen ∧ (-(2 ^ 63) ≤ r_ld ∧ r_ld < 2 ^ 63) := by
  obtain ⟨cs, rfl, hsz⟩ := okWide_struct Try.underlying69 hv
  obtain ⟨fuel, hf⟩ := h
  obtain ⟨l⟩ := cs
  obtain ⟨b0, b1, b2, b3, b4, b5, b6, b7, b8, b9, b10, b11, b12, hl, hr⟩ := cs_ClientEvent hf
  have hl2 : l = [.int .i64 b0, .int .i64 b1, .int .i64 b2, .int .i64 b3, .string b4, .string b5, .string b6, .int .i64 b7, .int .i64 b8, .int .i64 b9, .int .i64 b10, .string b11, .int .i64 b12] := hl
  subst hl2
  exact ⟨b0, b1, b2, b3, b4, b5, b6, b7, b8, b9, b10, b11, b12, rfl, hr⟩
end
end argClientEvent
end Go.Proofs.Ytjhkfjmgdkcipac
