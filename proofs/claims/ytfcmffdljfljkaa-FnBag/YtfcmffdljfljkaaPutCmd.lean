/-
  impl.putCmd.
-/
import Derived.Test.YtfcmffdljfljkaaPutNum
namespace Go.Proofs.Ytfcmffdljfljkaa
open Go.RowKit
set_option linter.unusedVariables false

def cmdL (cl sq op : Nat) (k v o : ByteArray) : List Int := numsL [cl, sq, op] ++ textL k ++ textL v ++ textL o

theorem Ints.three (w : World) (a b c : Nat) : ∀ j, j < [a, b, c].length → (w.alloc (.cells #[.int .i64 a, .int .i64 b, .int .i64 c] 3)).cell? ⟨w.heap.size, j, none⟩ = some (.int .i64 ([a, b, c][j]?.getD 0 : Nat)) := by
  intro j hj
  rw [World.cell?_alloc_new]
  match j, hj with
  | 0, _ => rfl
  | 1, _ => rfl
  | 2, _ => rfl

set_option maxHeartbeats 1000000 in
set_option maxRecDepth 100000 in
theorem putCmd_any (v : Value) (l : List Int) (cl sq op : Nat) (k vl o : ByteArray) (w : World) (B : Nat) (hv : Own w B v l) (hB : B ≤ w.heap.size) (hl : l.length ≤ 100000)
    (h1 : cl < 9223372036854775808) (h2 : sq < 9223372036854775808) (h3 : op < 9223372036854775808) (hk : k.size ≤ 64) (hvl : vl.size ≤ 64) (ho : o.size ≤ 64) :
    Calls Try.prog 169 #[v, .agg #[.int .i64 cl, .int .i64 sq, .int .i64 op, .string k, .string vl, .string o]] w fun e w' => ∃ v', e = .returned v' ∧ Own w' B v' (l ++ cmdL cl sq op k vl o) ∧ Grew w v w' v' := by
  have n0 := hv.ne (Nat.le_refl _)
  have n1 : v.ownBlock ≠ some (w.heap.size + 1) := hv.ne (Nat.le_succ w.heap.size)
  have hb0 : ∀ o1 o2 : Obj, Below w.heap.size w ((w.alloc o1).alloc o2) := fun o1 o2 => ((Below.refl _ _).alloc (Nat.le_refl _) _).alloc (by simp) _
  have hA : ∀ o1 o2 : Obj, Own ((w.alloc o1).alloc o2) B v l := fun o1 o2 => hv.below (hb0 o1 o2)
  have hn : (numsL [cl, sq, op]).length ≤ 27 := numsL_len [cl, sq, op] (by simp; omega)
  have t1 := textL_len k (by omega)
  have t2 := textL_len vl (by omega)
  have hI := Ints.three (w.alloc (.cells #[.int .i64 cl, .int .i64 sq, .int .i64 op, .string k, .string vl, .string o] 89)) cl sq op
  have hC := putNumbers_any v l [cl, sq, op] (w.heap.size + 1) 3 _ B (hA (.cells #[.int .i64 cl, .int .i64 sq, .int .i64 op, .string k, .string vl, .string o] 89) (.cells #[.int .i64 cl, .int .i64 sq, .int .i64 op] 3)) (by simp; omega) (by omega) (by simp; omega) (by simp) (by simpa using hI) n1
  have HC : Hid _ := hC
  clear hA hI hb0 hC
  go_enter Try.func169, Try.ntmps169
  go_wp2_with (first
    | (go_at_call 162; (refine Calls.mono HC.out ?_; clear HC; rintro e w1 ⟨v1, rfl, ho1, hg1⟩; have hz : w.heap.size < w1.heap.size := (by have := hg1.g.size; simp at this; omega); have c3 := hg1.held (b := w.heap.size) (o := 3) (x := .string k) (by simp [go_sem]) n0; have c4 := hg1.held (b := w.heap.size) (o := 4) (x := .string vl) (by simp [go_sem]) n0; have c5 := hg1.held (b := w.heap.size) (o := 5) (x := .string o) (by simp [go_sem]) n0; have f1 : v1.ownBlock ≠ some w.heap.size := hg1.far (by simp; omega) n0))
    | (go_at_call 171; refine (putText_any _ _ k _ B ho1 (by omega) (by simp; omega) (by omega)).mono ?_; rintro e w2 ⟨v2, rfl, ho2, hg2⟩; have hz2 := hg2.g.size; have d4 := hg2.held c4 f1; have d5 := hg2.held c5 f1; have f2 := hg2.far hz f1; clear ho1 c4 c5)
    | (go_at_call 171; refine (putText_any _ _ vl _ B ho2 (by omega) (by simp; omega) (by omega)).mono ?_; rintro e w3 ⟨v3, rfl, ho3, hg3⟩; have hz3 := hg3.g.size; have e5 := hg3.held d5 f2; clear ho2 d5)
    | (go_at_call 171; refine (putText_any _ _ o _ B ho3 (by omega) (by simp; omega) (by omega)).mono ?_; rintro e w4 ⟨v4, rfl, ho4, hg4⟩))
  go_ret
  refine ⟨_, rfl, ?_, ((((Grew.refl _ _).alloc _).alloc _).trans (hg1.trans (hg2.trans (hg3.trans hg4))))⟩
  simpa [cmdL, List.append_assoc] using ho4
end Go.Proofs.Ytfcmffdljfljkaa
