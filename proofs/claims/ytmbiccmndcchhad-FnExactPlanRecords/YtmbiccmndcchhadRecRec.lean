/-
  The changes of impl: record; fits of a hard change.
-/
import Derived.Test.YtmbiccmndcchhadRecEq
import Derived.Test.YtmbiccmndcchhadEntFit
import Derived.Test.YtmbiccmndcchhadWithin
import Derived.Deep.RegionHeld3
namespace Go.Proofs.Ytmbiccmndcchhad
open Go.RowKit
set_option linter.unusedVariables false
set_option linter.unusedSimpArgs false

abbrev zCells : List Value := [.int .i64 0, .int .i64 0, .int .i64 0, .int .i64 0, .int .i64 0, .int .i64 0, .int .i64 0, .int .i64 0, .string ⟨#[]⟩, .string ⟨#[]⟩, .string ⟨#[]⟩]

set_option maxHeartbeats 2000000 in
set_option maxRecDepth 100000 in
theorem hardRecord_any (tm vo : Int) (w : World) :
    Calls Try.prog 33 #[.agg #[.int .i64 tm, .int .i64 vo]] w fun e w' => e = .returned (.agg #[.int .i64 1, .int .i64 tm, .int .i64 vo, .int .i64 0, .int .i64 0, .int .i64 0, .int .i64 0, .int .i64 0, .string ⟨#[]⟩, .string ⟨#[]⟩, .string ⟨#[]⟩]) ∧ Below w.heap.size w w' := by
  go_enter Try.func33, Try.ntmps33
  go_wp2
  exact bodyPost_ret (v := .agg #[.int .i64 1, .int .i64 tm, .int .i64 vo, .int .i64 0, .int .i64 0, .int .i64 0, .int .i64 0, .int .i64 0, .string ⟨#[]⟩, .string ⟨#[]⟩, .string ⟨#[]⟩]) (by simp [results, Try.results33, go_sem]) rfl
    ⟨rfl, ((Below.refl _ _).alloc (Nat.le_refl _) _).alloc (by simp) _⟩

set_option maxHeartbeats 2000000 in
set_option maxRecDepth 100000 in
theorem addRecord_any (ix : Int) (e : Ent) (w : World) :
    Calls Try.prog 36 #[.agg #[.int .i64 ix, .int .i64 e.t, .int .i64 e.cl, .int .i64 e.sq, .int .i64 e.op, .string e.k, .string e.v, .string e.o]] w fun x w' => x = .returned (.agg #[.int .i64 2, .int .i64 0, .int .i64 0, .int .i64 ix, .int .i64 e.t, .int .i64 e.cl, .int .i64 e.sq, .int .i64 e.op, .string e.k, .string e.v, .string e.o]) ∧ Below w.heap.size w w' := by
  go_enter Try.func36, Try.ntmps36
  go_wp2
  exact bodyPost_ret (v := .agg #[.int .i64 2, .int .i64 0, .int .i64 0, .int .i64 ix, .int .i64 e.t, .int .i64 e.cl, .int .i64 e.sq, .int .i64 e.op, .string e.k, .string e.v, .string e.o]) (by simp [results, Try.results36, go_sem]) rfl
    ⟨rfl, ((Below.refl _ _).alloc (Nat.le_refl _) _).alloc (by simp) _⟩

set_option maxHeartbeats 2000000 in
set_option maxRecDepth 100000 in
theorem cutRecord_any (ix : Int) (w : World) :
    Calls Try.prog 35 #[.agg #[.int .i64 ix]] w fun e w' => e = .returned (.agg #[.int .i64 3, .int .i64 0, .int .i64 0, .int .i64 ix, .int .i64 0, .int .i64 0, .int .i64 0, .int .i64 0, .string ⟨#[]⟩, .string ⟨#[]⟩, .string ⟨#[]⟩]) ∧ Below w.heap.size w w' := by
  go_enter Try.func35, Try.ntmps35
  go_wp2
  exact bodyPost_ret (v := .agg #[.int .i64 3, .int .i64 0, .int .i64 0, .int .i64 ix, .int .i64 0, .int .i64 0, .int .i64 0, .int .i64 0, .string ⟨#[]⟩, .string ⟨#[]⟩, .string ⟨#[]⟩]) (by simp [results, Try.results35, go_sem]) rfl
    ⟨rfl, ((Below.refl _ _).alloc (Nat.le_refl _) _).alloc (by simp) _⟩

set_option maxHeartbeats 2000000 in
set_option maxRecDepth 100000 in
theorem hardFits_any (tm vo : Int) (w : World) :
    Calls Try.prog 75 #[.agg #[.int .i64 tm, .int .i64 vo]] w fun e w' => e = .returned (.bool (inB tm 0 1073741824 && (inB vo 0 7 && (decide (0 < tm) || vo == 0)))) ∧ Below w.heap.size w w' := by
  have hb := (Below.refl w.heap.size w).alloc (Nat.le_refl _) (.cells #[.int .i64 tm, .int .i64 vo] 72)
  cases ha : inB tm 0 1073741824
  · go_enter Try.func75, Try.ntmps75
    go_wp2_with (go_at_call 53; refine (within_any _ _ _ _).mono ?_; rintro r w1 ⟨rfl, hw⟩; obtain rfl := hw.symm)
    go_ret
    exact ⟨ret_bool (by simp [ha]), hb⟩
  · cases hc : inB vo 0 7
    · go_enter Try.func75, Try.ntmps75
      go_wp2_with (go_at_call 53; refine (within_any _ _ _ _).mono ?_; rintro r w1 ⟨rfl, hw⟩; obtain rfl := hw.symm)
      go_ret
      exact ⟨ret_bool (by simp [ha, hc]), hb⟩
    · cases hv : (vo == 0)
      · go_enter Try.func75, Try.ntmps75
        go_wp2_with (go_at_call 53; refine (within_any _ _ _ _).mono ?_; rintro r w1 ⟨rfl, hw⟩; obtain rfl := hw.symm)
        go_ret
        exact ⟨ret_bool (by simp [ha, hc, hv]), hb⟩
      · go_enter Try.func75, Try.ntmps75
        go_wp2_with (go_at_call 53; refine (within_any _ _ _ _).mono ?_; rintro r w1 ⟨rfl, hw⟩; obtain rfl := hw.symm)
        go_ret
        exact ⟨ret_bool (by simp [ha, hc, hv]), hb⟩
end Go.Proofs.Ytmbiccmndcchhad
