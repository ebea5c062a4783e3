/-
  laws.szEntry, laws.toEntry.
-/
import Derived.Test.YtelfejhopjbhpaaCmdArg
import Derived.Test.YtelfejhopjbhpaaEntsBase
namespace Go.Proofs.Ytelfejhopjbhpaa
open Go.RowKit
set_option linter.unusedVariables false

theorem szC_le (k v o left : Int) (hk : 0 ≤ k) (hv : 0 ≤ v) (ho : 0 ≤ o) (hl : 0 ≤ left) : szC k v o left ≤ left := by
  unfold szC
  repeat' split
  all_goals omega

set_option maxHeartbeats 1000000 in
theorem szEntry_any (e : Ent) (left : Int) (hl : 0 ≤ left) (hl' : left ≤ 1048576) (hf : e.fits) (w : World) :
    Calls Try.prog 36 #[.agg #[.int .i64 e.t, .int .i64 e.cl, .int .i64 e.sq, .int .i64 e.op, .string e.k, .string e.v, .string e.o], .int .i64 left] w fun r w' =>
      (∃ s : Int, r = .returned (.int .i64 s) ∧ s ≤ left) ∧ Below w.heap.size w w' := by
  obtain ⟨h1, h2, h3⟩ := hf
  have hS := szC_le e.k.size e.v.size e.o.size left (by omega) (by omega) (by omega) hl
  go_enter Try.func36, Try.ntmps36
  go_wp2_with (go_at_call 19; refine (szCmd_any e.cl e.sq e.op e.k e.v e.o _ hl hl' h1 h2 h3 _).mono ?_; rintro r w1 ⟨rfl, hb⟩)
  all_goals go_ret
  all_goals refine ⟨⟨_, rfl, ?_⟩, ((Below.refl _ _).alloc (Nat.le_refl _) _).trans (hb.mono (by simp))⟩
  all_goals omega

set_option maxHeartbeats 2000000 in
theorem toEntry_any (e : Ent) (w : World) :
    Calls Try.prog 37 #[.agg #[.int .i64 e.t, .int .i64 e.cl, .int .i64 e.sq, .int .i64 e.op, .string e.k, .string e.v, .string e.o]] w fun r w' =>
      r = .returned (.agg #[.int .i64 e.t, .int .i64 e.cl, .int .i64 e.sq, .int .i64 e.op, .string e.k, .string e.v, .string e.o]) ∧ Below w.heap.size w w' := by
  go_enter Try.func37, Try.ntmps37
  go_wp2_with (go_at_call 22; refine (toCmd_any e.cl e.sq e.op e.k e.v e.o _).mono ?_; rintro r w1 ⟨rfl, hb⟩; obtain ⟨hc, hf⟩ := bcell hb; have hz : w.heap.size + 1 + 1 < w1.heap.size := (by have := hb.size; simp at this; omega))
  refine bodyPost_ret (v := .agg #[.int .i64 e.t, .int .i64 e.cl, .int .i64 e.sq, .int .i64 e.op, .string e.k, .string e.v, .string e.o]) (by simp [results, Try.results37, go_sem, hc]) rfl ⟨rfl, ?_⟩
  have hB0 : Below w.heap.size w w1 := ((((Below.refl _ _).alloc (Nat.le_refl _) _).alloc (by simp) _).alloc (by simp; omega) _).trans (hb.mono (by simp; omega))
  clear hb hc hf
  have h1 : w.heap.size ≤ w.heap.size + 1 := by omega
  have h2 : w.heap.size ≤ w.heap.size + 1 + 1 := by omega
  exact ((((((((((((hB0.setCell (p := ⟨w.heap.size + 1 + 1, 1, none⟩) h2 _).setCell (p := ⟨w.heap.size + 1 + 1, 2, none⟩) h2 _).setCell (p := ⟨w.heap.size + 1 + 1, 3, none⟩) h2 _).setCell (p := ⟨w.heap.size + 1 + 1, 4, none⟩) h2 _).setCell (p := ⟨w.heap.size + 1 + 1, 5, none⟩) h2 _).setCell (p := ⟨w.heap.size + 1 + 1, 6, none⟩) h2 _).setCell (p := ⟨w.heap.size + 1, 0, none⟩) h1 _).setCell (p := ⟨w.heap.size + 1, 1, none⟩) h1 _).setCell (p := ⟨w.heap.size + 1, 2, none⟩) h1 _).setCell (p := ⟨w.heap.size + 1, 3, none⟩) h1 _).setCell (p := ⟨w.heap.size + 1, 4, none⟩) h1 _).setCell (p := ⟨w.heap.size + 1, 5, none⟩) h1 _).setCell (p := ⟨w.heap.size + 1, 6, none⟩) h1 _

end Go.Proofs.Ytelfejhopjbhpaa
