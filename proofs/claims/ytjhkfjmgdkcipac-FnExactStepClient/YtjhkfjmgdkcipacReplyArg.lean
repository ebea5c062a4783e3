/-
  laws.toReply, laws.szReply.
-/
import Derived.Test.YtjhkfjmgdkcipacBasic
namespace Go.Proofs.Ytjhkfjmgdkcipac
open Go.RowKit
set_option linter.unusedVariables false

theorem toReply_any (cl sq st cd ld : Int) (v : ByteArray) (w : World) :
    Calls Try.prog 10 #[.agg #[.int .i64 cl, .int .i64 sq, .int .i64 st, .int .i64 cd, .string v, .int .i64 ld]] w fun e w' => e = .returned (.agg #[.int .i64 cl, .int .i64 sq, .int .i64 st, .int .i64 cd, .string v, .int .i64 ld]) ∧ Below w.heap.size w w' := by
  go_enter Try.func10, Try.ntmps10
  go_wp2
  exact bodyPost_ret (v := .agg #[.int .i64 cl, .int .i64 sq, .int .i64 st, .int .i64 cd, .string v, .int .i64 ld]) (by simp [results, Try.results10, go_sem]) rfl
    ⟨rfl, (((Below.refl _ _).alloc (Nat.le_refl _) _).alloc (by simp) _).alloc (by simp; omega) _⟩

def szR (v left : Int) : Int := if left - v < 0 then -1 else left - v
theorem szReply_any (cl sq st cd ld : Int) (v : ByteArray) (left : Int) (hl : 0 ≤ left) (hl' : left ≤ 1048576) (hv : v.size ≤ maxLen) (w : World) :
    Calls Try.prog 8 #[.agg #[.int .i64 cl, .int .i64 sq, .int .i64 st, .int .i64 cd, .string v, .int .i64 ld], .int .i64 left] w fun e w' => e = .returned (.int .i64 (szR v.size left)) ∧ Below w.heap.size w w' := by
  unfold maxLen at hv
  unfold szR
  go_enter Try.func8, Try.ntmps8
  go_wp2
  all_goals go_ret
  all_goals refine ⟨?_, (Below.refl _ _).alloc (Nat.le_refl _) _⟩
  all_goals simp [*]
end Go.Proofs.Ytjhkfjmgdkcipac
