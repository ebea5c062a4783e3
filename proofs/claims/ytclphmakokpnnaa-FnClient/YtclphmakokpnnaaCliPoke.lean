/-
  A client is poked.
-/
import Derived.Test.YtclphmakokpnnaaSize
import Derived.Test.YtclphmakokpnnaaBlk
namespace Go.Proofs.Ytclphmakokpnnaa
open Go.RowKit
set_option linter.unusedVariables false
set_option linter.unusedSimpArgs false

theorem le3 (w : World) (a b c : Obj) : w.heap.size ≤ (((w.alloc a).alloc b).alloc c).heap.size := by simp <;> omega
theorem sizeCli : (Try.prog.info? 35).map (·.size) = some 13 := by kernel_rfl
theorem sizeCliA : (Try.prog.info? 40).map (·.size) = some 16 := by kernel_rfl

theorem nextServer_any (id sv rt sq bs tg wt ccl csq cop : Int) (ck cv co : ByteArray) (hs : sizB sv = true) (ht : 1 ≤ tg) (ht2 : tg ≤ sv) (w : World) : Calls Try.prog 61 #[.agg #[.int .i64 id, .int .i64 sv, .int .i64 rt, .int .i64 sq, .int .i64 bs, .int .i64 tg, .int .i64 wt, .int .i64 ccl, .int .i64 csq, .int .i64 cop, .string ck, .string cv, .string co]] w fun e w' => e = .returned (.int .i64 (tg % sv + 1)) ∧ w' = w.alloc (.cells #[.int .i64 id, .int .i64 sv, .int .i64 rt, .int .i64 sq, .int .i64 bs, .int .i64 tg, .int .i64 wt, .int .i64 ccl, .int .i64 csq, .int .i64 cop, .string ck, .string cv, .string co] 35) := by
  have hs2 : sv = 3 ∨ sv = 5 ∨ sv = 7 := by simpa [sizB, or_assoc] using hs
  clear hs
  have hm := Int.emod_nonneg tg (show sv ≠ 0 by omega)
  have hm2 := Int.emod_lt_of_pos tg (show 0 < sv by omega)
  go_enter Try.func61, Try.ntmps61
  go_wp2
  go_ret
  exact ⟨rfl, rfl⟩

def pokeV (id sv rt sq bs tg wt ccl csq cop : Int) (ck cv co : ByteArray) : Value :=
  if bs = 0 then .agg #[.int .i64 3, .int .i64 0, .int .i64 0, .int .i64 id, .int .i64 sv, .int .i64 rt, .int .i64 sq, .int .i64 bs, .int .i64 tg, .int .i64 wt, .int .i64 ccl, .int .i64 csq, .int .i64 cop, .string ck, .string cv, .string co] else if wt + 1 < rt then .agg #[.int .i64 0, .int .i64 0, .int .i64 0, .int .i64 id, .int .i64 sv, .int .i64 rt, .int .i64 sq, .int .i64 bs, .int .i64 tg, .int .i64 (wt + 1), .int .i64 ccl, .int .i64 csq, .int .i64 cop, .string ck, .string cv, .string co] else .agg #[.int .i64 0, .int .i64 (tg % sv + 1), .int .i64 0, .int .i64 id, .int .i64 sv, .int .i64 rt, .int .i64 sq, .int .i64 bs, .int .i64 (tg % sv + 1), .int .i64 (0), .int .i64 ccl, .int .i64 csq, .int .i64 cop, .string ck, .string cv, .string co]
set_option maxHeartbeats 4000000 in
set_option maxRecDepth 100000 in
theorem pokeClient_any (id sv rt sq bs tg wt ccl csq cop : Int) (ck cv co : ByteArray) (hs : sizB sv = true) (ht : 1 ≤ tg) (ht2 : tg ≤ sv) (hw0 : 0 ≤ wt) (hw1 : wt < 1000) (w : World) : Calls Try.prog 43 #[.agg #[.int .i64 id, .int .i64 sv, .int .i64 rt, .int .i64 sq, .int .i64 bs, .int .i64 tg, .int .i64 wt, .int .i64 ccl, .int .i64 csq, .int .i64 cop, .string ck, .string cv, .string co]] w fun e w' => e = .returned (pokeV id sv rt sq bs tg wt ccl csq cop ck cv co) ∧ Below w.heap.size w w' := by
  by_cases hb : bs = 0
  · subst hb
    have e : pokeV id sv rt sq 0 tg wt ccl csq cop ck cv co = .agg #[.int .i64 3, .int .i64 0, .int .i64 0, .int .i64 id, .int .i64 sv, .int .i64 rt, .int .i64 sq, .int .i64 (0), .int .i64 tg, .int .i64 wt, .int .i64 ccl, .int .i64 csq, .int .i64 cop, .string ck, .string cv, .string co] := by simp [pokeV, *]
    rw [e]
    go_enter Try.func43, Try.ntmps43
    go_wp2_with (first
        | (refine gate_ld 35 (.tmp 1) rfl ?_; refine wpl_load_blk rfl 35 (.tmp 1) rfl (w.heap.size) rfl (by first | exact (Blk.new _ _ _).alloc _ | exact ((Blk.new _ _ _).alloc _).alloc _ | exact (((Blk.new _ _ _).alloc _).alloc _).alloc _) Try.underlying35 rfl sizeCli rfl ?_)
        | (refine gate_st 40 (.tmp 2) _ rfl ?_; refine wpl_store_last rfl 40 (.tmp 2) _ rfl (w.heap.size + 1) rfl (by simp) rfl sizeCliA rfl rfl (by simp [Value.oneCell']) ?_))
    exact bodyPost_ret (v := .agg #[.int .i64 3, .int .i64 0, .int .i64 0, .int .i64 id, .int .i64 sv, .int .i64 rt, .int .i64 sq, .int .i64 (0), .int .i64 tg, .int .i64 wt, .int .i64 ccl, .int .i64 csq, .int .i64 cop, .string ck, .string cv, .string co]) (results_blk Try.results43 rfl (Blk.new' _ _ _ (by simp)) Try.underlying40 rfl sizeCliA rfl) rfl ⟨rfl, (((Below.refl _ _).alloc (by simp <;> omega) _).alloc (by simp <;> omega) _)⟩
  by_cases hr : wt + 1 < rt
  · skip
    have e : pokeV id sv rt sq bs tg wt ccl csq cop ck cv co = .agg #[.int .i64 0, .int .i64 0, .int .i64 0, .int .i64 id, .int .i64 sv, .int .i64 rt, .int .i64 sq, .int .i64 bs, .int .i64 tg, .int .i64 (wt + 1), .int .i64 ccl, .int .i64 csq, .int .i64 cop, .string ck, .string cv, .string co] := by simp [pokeV, *]
    rw [e]
    have n0 : (bs == 0) = false := by simpa using hb
    go_enter Try.func43, Try.ntmps43
    go_wp2_with (first
        | (refine gate_ld 35 (.tmp 1) rfl ?_; refine wpl_load_blk rfl 35 (.tmp 1) rfl (w.heap.size) rfl (by first | exact (Blk.new _ _ _).alloc _ | exact ((Blk.new _ _ _).alloc _).alloc _ | exact (((Blk.new _ _ _).alloc _).alloc _).alloc _) Try.underlying35 rfl sizeCli rfl ?_)
        | (refine gate_st 40 (.tmp 2) _ rfl ?_; refine wpl_store_last rfl 40 (.tmp 2) _ rfl (w.heap.size + 1) rfl (by simp) rfl sizeCliA rfl rfl (by simp [Value.oneCell']) ?_))
    exact bodyPost_ret (v := .agg #[.int .i64 0, .int .i64 0, .int .i64 0, .int .i64 id, .int .i64 sv, .int .i64 rt, .int .i64 sq, .int .i64 bs, .int .i64 tg, .int .i64 (wt + 1), .int .i64 ccl, .int .i64 csq, .int .i64 cop, .string ck, .string cv, .string co]) (results_blk Try.results43 rfl (Blk.new' _ _ _ (by simp)) Try.underlying40 rfl sizeCliA rfl) rfl ⟨rfl, (((Below.refl _ _).alloc (by simp <;> omega) _).alloc (by simp <;> omega) _)⟩
  have e : pokeV id sv rt sq bs tg wt ccl csq cop ck cv co = .agg #[.int .i64 0, .int .i64 (tg % sv + 1), .int .i64 0, .int .i64 id, .int .i64 sv, .int .i64 rt, .int .i64 sq, .int .i64 bs, .int .i64 (tg % sv + 1), .int .i64 (0), .int .i64 ccl, .int .i64 csq, .int .i64 cop, .string ck, .string cv, .string co] := by simp [pokeV, *]
  rw [e]
  have n0 : (bs == 0) = false := by simpa using hb
  go_enter Try.func43, Try.ntmps43
  go_wp2_with (first
      | (go_at_call 61; refine (nextServer_any _ _ _ _ _ _ _ _ _ _ _ _ _ hs ht ht2 _).mono ?_; rintro e w1 ⟨rfl, rfl⟩)
      | (refine gate_ld 35 (.tmp 1) rfl ?_; refine wpl_load_blk rfl 35 (.tmp 1) rfl (w.heap.size) rfl (by first | exact (Blk.new _ _ _).alloc _ | exact ((Blk.new _ _ _).alloc _).alloc _ | exact (((Blk.new _ _ _).alloc _).alloc _).alloc _) Try.underlying35 rfl sizeCli rfl ?_)
      | (refine gate_st 40 (.tmp 2) _ rfl ?_; refine wpl_store_under rfl 40 (.tmp 2) _ rfl (w.heap.size + 1) rfl (by simp) rfl sizeCliA rfl rfl (by simp [Value.oneCell']) ?_))
  exact bodyPost_ret (v := .agg #[.int .i64 0, .int .i64 (tg % sv + 1), .int .i64 0, .int .i64 id, .int .i64 sv, .int .i64 rt, .int .i64 sq, .int .i64 bs, .int .i64 (tg % sv + 1), .int .i64 (0), .int .i64 ccl, .int .i64 csq, .int .i64 cop, .string ck, .string cv, .string co]) (results_blk Try.results43 rfl ((Blk.new' _ _ _ (by simp)).alloc _) Try.underlying40 rfl sizeCliA rfl) rfl ⟨rfl, ((((Below.refl _ _).alloc (by simp <;> omega) _).alloc (by simp <;> omega) _).alloc (by simp <;> omega) _)⟩
set_option maxHeartbeats 4000000 in
set_option maxRecDepth 100000 in
theorem l6poke_any (id sv rt sq bs tg wt ccl csq cop : Int) (ck cv co : ByteArray) (hs : sizB sv = true) (ht : 1 ≤ tg) (ht2 : tg ≤ sv) (hw0 : 0 ≤ wt) (hw1 : wt < 1000) (w : World) : Calls Try.prog 39 #[.agg #[.int .i64 id, .int .i64 sv, .int .i64 rt, .int .i64 sq, .int .i64 bs, .int .i64 tg, .int .i64 wt, .int .i64 ccl, .int .i64 csq, .int .i64 cop, .string ck, .string cv, .string co]] w fun e w' => e = .returned (pokeV id sv rt sq bs tg wt ccl csq cop ck cv co) ∧ Below w.heap.size w w' := by
  by_cases hb : bs = 0
  · subst hb
    have e : pokeV id sv rt sq 0 tg wt ccl csq cop ck cv co = .agg #[.int .i64 3, .int .i64 0, .int .i64 0, .int .i64 id, .int .i64 sv, .int .i64 rt, .int .i64 sq, .int .i64 (0), .int .i64 tg, .int .i64 wt, .int .i64 ccl, .int .i64 csq, .int .i64 cop, .string ck, .string cv, .string co] := by simp [pokeV, *]
    rw [e]
    go_enter Try.func39, Try.ntmps39
    go_wp2_with (first
        | (refine gate_ld 35 (.tmp 1) rfl ?_; refine wpl_load_blk rfl 35 (.tmp 1) rfl (w.heap.size) rfl (by first | exact (Blk.new _ _ _).alloc _ | exact ((Blk.new _ _ _).alloc _).alloc _ | exact (((Blk.new _ _ _).alloc _).alloc _).alloc _) Try.underlying35 rfl sizeCli rfl ?_)
        | (refine gate_st 40 (.tmp 2) _ rfl ?_; refine wpl_store_last rfl 40 (.tmp 2) _ rfl (w.heap.size + 1) rfl (by simp) rfl sizeCliA rfl rfl (by simp [Value.oneCell']) ?_))
    exact bodyPost_ret (v := .agg #[.int .i64 3, .int .i64 0, .int .i64 0, .int .i64 id, .int .i64 sv, .int .i64 rt, .int .i64 sq, .int .i64 (0), .int .i64 tg, .int .i64 wt, .int .i64 ccl, .int .i64 csq, .int .i64 cop, .string ck, .string cv, .string co]) (results_blk Try.results39 rfl (Blk.new' _ _ _ (by simp)) Try.underlying40 rfl sizeCliA rfl) rfl ⟨rfl, (((Below.refl _ _).alloc (by simp <;> omega) _).alloc (by simp <;> omega) _)⟩
  by_cases hr : wt + 1 < rt
  · skip
    have e : pokeV id sv rt sq bs tg wt ccl csq cop ck cv co = .agg #[.int .i64 0, .int .i64 0, .int .i64 0, .int .i64 id, .int .i64 sv, .int .i64 rt, .int .i64 sq, .int .i64 bs, .int .i64 tg, .int .i64 (wt + 1), .int .i64 ccl, .int .i64 csq, .int .i64 cop, .string ck, .string cv, .string co] := by simp [pokeV, *]
    rw [e]
    have n0 : (bs == 0) = false := by simpa using hb
    go_enter Try.func39, Try.ntmps39
    go_wp2_with (first
        | (refine gate_ld 35 (.tmp 1) rfl ?_; refine wpl_load_blk rfl 35 (.tmp 1) rfl (w.heap.size) rfl (by first | exact (Blk.new _ _ _).alloc _ | exact ((Blk.new _ _ _).alloc _).alloc _ | exact (((Blk.new _ _ _).alloc _).alloc _).alloc _) Try.underlying35 rfl sizeCli rfl ?_)
        | (refine gate_st 40 (.tmp 2) _ rfl ?_; refine wpl_store_last rfl 40 (.tmp 2) _ rfl (w.heap.size + 1) rfl (by simp) rfl sizeCliA rfl rfl (by simp [Value.oneCell']) ?_))
    exact bodyPost_ret (v := .agg #[.int .i64 0, .int .i64 0, .int .i64 0, .int .i64 id, .int .i64 sv, .int .i64 rt, .int .i64 sq, .int .i64 bs, .int .i64 tg, .int .i64 (wt + 1), .int .i64 ccl, .int .i64 csq, .int .i64 cop, .string ck, .string cv, .string co]) (results_blk Try.results39 rfl (Blk.new' _ _ _ (by simp)) Try.underlying40 rfl sizeCliA rfl) rfl ⟨rfl, (((Below.refl _ _).alloc (by simp <;> omega) _).alloc (by simp <;> omega) _)⟩
  have e : pokeV id sv rt sq bs tg wt ccl csq cop ck cv co = .agg #[.int .i64 0, .int .i64 (tg % sv + 1), .int .i64 0, .int .i64 id, .int .i64 sv, .int .i64 rt, .int .i64 sq, .int .i64 bs, .int .i64 (tg % sv + 1), .int .i64 (0), .int .i64 ccl, .int .i64 csq, .int .i64 cop, .string ck, .string cv, .string co] := by simp [pokeV, *]
  rw [e]
  have n0 : (bs == 0) = false := by simpa using hb
  have hs2 : sv = 3 ∨ sv = 5 ∨ sv = 7 := by simpa [sizB, or_assoc] using hs
  clear hs
  have hm := Int.emod_nonneg tg (show sv ≠ 0 by omega)
  have hm2 := Int.emod_lt_of_pos tg (show 0 < sv by omega)
  go_enter Try.func39, Try.ntmps39
  go_wp2_with (first
      | (refine gate_ld 35 (.tmp 1) rfl ?_; refine wpl_load_blk rfl 35 (.tmp 1) rfl (w.heap.size) rfl (by first | exact (Blk.new _ _ _).alloc _ | exact ((Blk.new _ _ _).alloc _).alloc _ | exact (((Blk.new _ _ _).alloc _).alloc _).alloc _) Try.underlying35 rfl sizeCli rfl ?_)
      | (refine gate_st 40 (.tmp 2) _ rfl ?_; refine wpl_store_last rfl 40 (.tmp 2) _ rfl (w.heap.size + 1) rfl (by simp) rfl sizeCliA rfl rfl (by simp [Value.oneCell']) ?_))
  exact bodyPost_ret (v := .agg #[.int .i64 0, .int .i64 (tg % sv + 1), .int .i64 0, .int .i64 id, .int .i64 sv, .int .i64 rt, .int .i64 sq, .int .i64 bs, .int .i64 (tg % sv + 1), .int .i64 (0), .int .i64 ccl, .int .i64 csq, .int .i64 cop, .string ck, .string cv, .string co]) (results_blk Try.results39 rfl (Blk.new' _ _ _ (by simp)) Try.underlying40 rfl sizeCliA rfl) rfl ⟨rfl, (((Below.refl _ _).alloc (by simp <;> omega) _).alloc (by simp <;> omega) _)⟩
end Go.Proofs.Ytclphmakokpnnaa
