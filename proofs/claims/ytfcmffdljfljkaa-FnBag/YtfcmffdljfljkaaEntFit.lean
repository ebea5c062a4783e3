/-
  impl.entryFits, spec.l1entryOk.
-/
import Derived.Test.YtfcmffdljfljkaaCmd
import Derived.Test.YtfcmffdljfljkaaEntsBase
namespace Go.Proofs.Ytfcmffdljfljkaa
open Go.RowKit
set_option linter.unusedVariables false

theorem ret_bool {a b : Bool} (h : a = b) : Ending.returned (.bool a) = .returned (.bool b) := by rw [h]

/-- is an entry well-formed? -/
def entB (e : Ent) : Bool := inB e.t 1 1073741824 && (cmdF e.cl e.sq e.op e.k.size e.v.size e.o.size == 0)

set_option maxHeartbeats 2000000 in
theorem entryFits_any (e : Ent) (hf : e.fits) (w : World) :
    Calls Try.prog 172 #[.agg #[.int .i64 e.t, .int .i64 e.cl, .int .i64 e.sq, .int .i64 e.op, .string e.k, .string e.v, .string e.o]] w fun r w' => r = .returned (.bool (entB e)) ∧ Below w.heap.size w w' := by
  obtain ⟨h1, h2, h3⟩ := hf
  go_enter Try.func172, Try.ntmps172
  go_wp2_with (first
    | (go_at_call 48; refine (within_any _ _ _ _).mono ?_; rintro r w' ⟨rfl, rfl⟩)
    | (go_at_call 173; refine (implCmdFault_any e.cl e.sq e.op e.k e.v e.o h1 h2 h3 _).mono ?_; rintro r w1 ⟨rfl, hb⟩))
  · go_ret
    exact ⟨ret_bool (by go_light; simp_all [entB]), ((Below.refl _ _).alloc (Nat.le_refl _) _).trans (hb.mono (by simp))⟩
  · go_ret
    exact ⟨ret_bool (by go_light; simp_all [entB]), (Below.refl _ _).alloc (Nat.le_refl _) _⟩

set_option maxHeartbeats 2000000 in
theorem entryOk_any (e : Ent) (hf : e.fits) (w : World) :
    Calls Try.prog 111 #[.agg #[.int .i64 e.t, .int .i64 e.cl, .int .i64 e.sq, .int .i64 e.op, .string e.k, .string e.v, .string e.o]] w fun r w' => r = .returned (.bool (entB e)) ∧ Below w.heap.size w w' := by
  obtain ⟨h1, h2, h3⟩ := hf
  by_cases t1 : 1 ≤ e.t
  · by_cases t2 : e.t ≤ 1073741824
    · have hin : inB e.t 1 1073741824 = true := (inB_iff _ _ _).2 ⟨t1, t2⟩
      go_enter Try.func111, Try.ntmps111
      go_wp2_with (go_at_call 123; refine (specCmdFault_any e.cl e.sq e.op e.k e.v e.o h1 h2 h3 _).mono ?_; rintro r w1 ⟨rfl, hb⟩)
      go_ret
      exact ⟨ret_bool (by rw [entB, hin]; simp), ((Below.refl _ _).alloc (Nat.le_refl _) _).trans (hb.mono (by simp))⟩
    · have hin : inB e.t 1 1073741824 = false := (inB_not _ _ _).2 (by omega)
      have hd : decide (e.t ≤ 1073741824) = false := by simpa using t2
      go_enter Try.func111, Try.ntmps111
      go_wp2_with (go_at_call 123; refine (specCmdFault_any e.cl e.sq e.op e.k e.v e.o h1 h2 h3 _).mono ?_; rintro r w1 ⟨rfl, hb⟩)
      go_ret
      exact ⟨ret_bool (by rw [entB, hin]; simp), (Below.refl _ _).alloc (Nat.le_refl _) _⟩
  · have hin : inB e.t 1 1073741824 = false := (inB_not _ _ _).2 (by omega)
    have hd : decide (1 ≤ e.t) = false := by simpa using t1
    go_enter Try.func111, Try.ntmps111
    go_wp2_with (go_at_call 123; refine (specCmdFault_any e.cl e.sq e.op e.k e.v e.o h1 h2 h3 _).mono ?_; rintro r w1 ⟨rfl, hb⟩)
    go_ret
    exact ⟨ret_bool (by rw [entB, hin]; simp), (Below.refl _ _).alloc (Nat.le_refl _) _⟩

/-- every entry well-formed, no term below the one ahead of it, all up tq high -/
def fitL (high : Int) : Int → List Ent → Bool
  | _, [] => true
  | low, e :: r => entB e && inB e.t low high && fitL high e.t r

theorem fitL_drop (high low : Int) (l : List Ent) (k : Nat) (h : k < l.length) : fitL high low (l.drop k) = (entB l[k] && inB l[k].t low high && fitL high l[k].t (l.drop (k + 1))) := by
  rw [List.drop_eq_getElem_cons h]
  rfl
end Go.Proofs.Ytfcmffdljfljkaa
