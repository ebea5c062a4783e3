/-
  StepClient: spec.
-/
import Derived.Test.YtclphmakokpnnaaCliStep
namespace Go.Proofs.Ytclphmakokpnnaa
open Go.RowKit
set_option linter.unusedVariables false
set_option linter.unusedSimpArgs false

set_option maxHeartbeats 8000000 in
set_option maxRecDepth 100000 in
theorem sStepClient_any (id sv rt sq bs tg wt ccl csq cop : Int) (ck cv co : ByteArray) (kd ecl esq eop : Int) (ek ev eo : ByteArray) (rcl rsq rst rcd : Int) (rv : ByteArray) (rld : Int) (hk : ck.size ≤ maxLen) (hv : cv.size ≤ maxLen) (ho : co.size ≤ maxLen) (mk : ek.size ≤ maxLen) (mv : ev.size ≤ maxLen) (mo : eo.size ≤ maxLen) (hrv : rv.size ≤ maxLen) (w : World) : Calls Try.prog 14 #[.agg #[.int .i64 id, .int .i64 sv, .int .i64 rt, .int .i64 sq, .int .i64 bs, .int .i64 tg, .int .i64 wt, .int .i64 ccl, .int .i64 csq, .int .i64 cop, .string ck, .string cv, .string co], .agg #[.int .i64 kd, .int .i64 ecl, .int .i64 esq, .int .i64 eop, .string ek, .string ev, .string eo, .int .i64 rcl, .int .i64 rsq, .int .i64 rst, .int .i64 rcd, .string rv, .int .i64 rld]] w fun e w' => e = .returned (stepV id sv rt sq bs tg wt ccl csq cop ck cv co kd ecl esq eop ek ev eo rcl rsq rst rcd rv rld) ∧ Below w.heap.size w w' := by
  have g1 : True := trivial
  cases hfit : cliB id sv rt sq bs tg wt ccl csq cop ck cv co
  · rw [show stepV id sv rt sq bs tg wt ccl csq cop ck cv co kd ecl esq eop ek ev eo rcl rsq rst rcd rv rld = .agg #[.int .i64 9, .int .i64 0, .int .i64 0, .int .i64 0, .int .i64 0, .int .i64 0, .int .i64 0, .int .i64 0, .int .i64 0, .int .i64 0, .int .i64 0, .int .i64 0, .int .i64 0, .string ⟨#[]⟩, .string ⟨#[]⟩, .string ⟨#[]⟩] by simp [stepV, hfit]]
    go_enter Try.func14, Try.ntmps14
    go_wp2_with (first
      | (refine gate_ld 35 (.tmp 2) rfl ?_; clear g1; refine wpl_load_blk rfl 35 (.tmp 2) rfl (w.heap.size) rfl (((Blk.new w _ _).alloc _).alloc _) Try.underlying35 rfl sizeCli rfl ?_)
      | (go_at_call 37; refine (l6clientOk_any _ _ _ _ _ _ _ _ _ _ _ _ _ hk hv ho _).mono ?_; rintro e w1 ⟨rfl, hb1⟩; rw [hfit]; have hz : w.heap.size + 2 < w1.heap.size := (by have := hb1.size; simp at this; omega); have BA := (((Blk.new w _ _).alloc _).alloc _).below hb1 (by simp <;> omega); have BE := ((Blk.new' (w.alloc _) _ _ (k := w.heap.size + 1) (by simp)).alloc _).below hb1 (by simp <;> omega); have BR := (Blk.new' ((w.alloc _).alloc _) _ _ (k := w.heap.size + 1 + 1) (by simp)).below hb1 (by simp <;> omega); have HB := (((((Below.refl w.heap.size w).alloc (Nat.le_refl _) _).alloc (by simp) _).alloc (by simp <;> omega) _).trans (hb1.mono (le3 w _ _ _))); have cE := BE.cell; have fE := BE.free; clear hb1)
      | (refine gate_ld 35 (.tmp 2) rfl ?_; refine wpl_load_blk rfl 35 (.tmp 2) rfl (w.heap.size) rfl BA Try.underlying35 rfl sizeCli rfl ?_)
      | (refine gate_st 40 (.tmp 4) _ rfl ?_; refine wpl_store_blk rfl 40 (.tmp 4) _ rfl (w.heap.size + 1 + 1) rfl rfl BR sizeCliA rfl rfl (by simp [Value.oneCell']) ?_))
    exact bodyPost_ret (v := .agg #[.int .i64 9, .int .i64 0, .int .i64 0, .int .i64 0, .int .i64 0, .int .i64 0, .int .i64 0, .int .i64 0, .int .i64 0, .int .i64 0, .int .i64 0, .int .i64 0, .int .i64 0, .string ⟨#[]⟩, .string ⟨#[]⟩, .string ⟨#[]⟩]) (results_blk Try.results14 rfl (BR.row _) Try.underlying40 rfl sizeCliA rfl) rfl ⟨rfl, below_row HB (by omega) _⟩
  obtain ⟨hs, ⟨ht, ht2⟩, ⟨hw0, hw1⟩, hq0, hq1⟩ := cliB_facts _ _ _ _ _ _ _ _ _ _ _ _ _ hfit
  by_cases h1 : kd = 1
  · subst h1
    obtain ⟨zc, zs, zd, zid, zsv, zrt, zsq, zbs, ztg, zwt, zccl, zcsq, zcop, zck, zcv, zco, hV⟩ := askV_ans id sv rt sq bs tg wt ccl csq cop ck cv co ecl esq eop ek ev eo
    rw [show stepV id sv rt sq bs tg wt ccl csq cop ck cv co 1 ecl esq eop ek ev eo rcl rsq rst rcd rv rld = askV id sv rt sq bs tg wt ccl csq cop ck cv co ecl esq eop ek ev eo by simp [stepV, hfit], hV]
    have HV : Hid (askV id sv rt sq bs tg wt ccl csq cop ck cv co ecl esq eop ek ev eo = _) := hV
    clear hV
    go_enter Try.func14, Try.ntmps14
    go_wp2_with (first
      | (refine gate_ld 35 (.tmp 2) rfl ?_; clear g1; refine wpl_load_blk rfl 35 (.tmp 2) rfl (w.heap.size) rfl (((Blk.new w _ _).alloc _).alloc _) Try.underlying35 rfl sizeCli rfl ?_)
      | (go_at_call 37; refine (l6clientOk_any _ _ _ _ _ _ _ _ _ _ _ _ _ hk hv ho _).mono ?_; rintro e w1 ⟨rfl, hb1⟩; rw [hfit]; have hz : w.heap.size + 2 < w1.heap.size := (by have := hb1.size; simp at this; omega); have BA := (((Blk.new w _ _).alloc _).alloc _).below hb1 (by simp <;> omega); have BE := ((Blk.new' (w.alloc _) _ _ (k := w.heap.size + 1) (by simp)).alloc _).below hb1 (by simp <;> omega); have BR := (Blk.new' ((w.alloc _).alloc _) _ _ (k := w.heap.size + 1 + 1) (by simp)).below hb1 (by simp <;> omega); have HB := (((((Below.refl w.heap.size w).alloc (Nat.le_refl _) _).alloc (by simp) _).alloc (by simp <;> omega) _).trans (hb1.mono (le3 w _ _ _))); have cE := BE.cell; have fE := BE.free; clear hb1)
      | (refine gate_ld 35 (.tmp 2) rfl ?_; refine wpl_load_blk rfl 35 (.tmp 2) rfl (w.heap.size) rfl BA Try.underlying35 rfl sizeCli rfl ?_)
      | (go_at_call 38; refine (l6ask_any _ _ _ _ _ _ _ _ _ _ _ _ _ _ _ _ _ _ _ mk mv mo hq0 hq1 _).mono ?_; rintro e w2 ⟨rfl, hb2⟩; rw [HV.out]; have BR := BR.below hb2 (by omega); have HB := HB.trans (hb2.mono (by omega)))
      | (refine gate_st 40 (.tmp 4) _ rfl ?_; refine wpl_store_blk rfl 40 (.tmp 4) _ rfl (w.heap.size + 1 + 1) rfl rfl BR sizeCliA rfl rfl (by simp [Value.oneCell']) ?_))
    exact bodyPost_ret (v := .agg #[.int .i64 zc, .int .i64 zs, .int .i64 zd, .int .i64 zid, .int .i64 zsv, .int .i64 zrt, .int .i64 zsq, .int .i64 zbs, .int .i64 ztg, .int .i64 zwt, .int .i64 zccl, .int .i64 zcsq, .int .i64 zcop, .string zck, .string zcv, .string zco]) (results_blk Try.results14 rfl (BR.row _) Try.underlying40 rfl sizeCliA rfl) rfl ⟨rfl, below_row HB (by omega) _⟩
  have n1 : (kd == 1) = false := by simpa using h1
  by_cases h2 : kd = 2
  · subst h2
    obtain ⟨zc, zs, zd, zid, zsv, zrt, zsq, zbs, ztg, zwt, zccl, zcsq, zcop, zck, zcv, zco, hV⟩ := pokeV_ans id sv rt sq bs tg wt ccl csq cop ck cv co
    rw [show stepV id sv rt sq bs tg wt ccl csq cop ck cv co 2 ecl esq eop ek ev eo rcl rsq rst rcd rv rld = pokeV id sv rt sq bs tg wt ccl csq cop ck cv co by simp [stepV, hfit], hV]
    have HV : Hid (pokeV id sv rt sq bs tg wt ccl csq cop ck cv co = _) := hV
    clear hV
    go_enter Try.func14, Try.ntmps14
    go_wp2_with (first
      | (refine gate_ld 35 (.tmp 2) rfl ?_; clear g1; refine wpl_load_blk rfl 35 (.tmp 2) rfl (w.heap.size) rfl (((Blk.new w _ _).alloc _).alloc _) Try.underlying35 rfl sizeCli rfl ?_)
      | (go_at_call 37; refine (l6clientOk_any _ _ _ _ _ _ _ _ _ _ _ _ _ hk hv ho _).mono ?_; rintro e w1 ⟨rfl, hb1⟩; rw [hfit]; have hz : w.heap.size + 2 < w1.heap.size := (by have := hb1.size; simp at this; omega); have BA := (((Blk.new w _ _).alloc _).alloc _).below hb1 (by simp <;> omega); have BE := ((Blk.new' (w.alloc _) _ _ (k := w.heap.size + 1) (by simp)).alloc _).below hb1 (by simp <;> omega); have BR := (Blk.new' ((w.alloc _).alloc _) _ _ (k := w.heap.size + 1 + 1) (by simp)).below hb1 (by simp <;> omega); have HB := (((((Below.refl w.heap.size w).alloc (Nat.le_refl _) _).alloc (by simp) _).alloc (by simp <;> omega) _).trans (hb1.mono (le3 w _ _ _))); have cE := BE.cell; have fE := BE.free; clear hb1)
      | (refine gate_ld 35 (.tmp 2) rfl ?_; refine wpl_load_blk rfl 35 (.tmp 2) rfl (w.heap.size) rfl BA Try.underlying35 rfl sizeCli rfl ?_)
      | (go_at_call 39; refine (l6poke_any _ _ _ _ _ _ _ _ _ _ _ _ _ hs ht ht2 hw0 hw1 _).mono ?_; rintro e w2 ⟨rfl, hb2⟩; rw [HV.out]; have BR := BR.below hb2 (by omega); have HB := HB.trans (hb2.mono (by omega)))
      | (refine gate_st 40 (.tmp 4) _ rfl ?_; refine wpl_store_blk rfl 40 (.tmp 4) _ rfl (w.heap.size + 1 + 1) rfl rfl BR sizeCliA rfl rfl (by simp [Value.oneCell']) ?_))
    exact bodyPost_ret (v := .agg #[.int .i64 zc, .int .i64 zs, .int .i64 zd, .int .i64 zid, .int .i64 zsv, .int .i64 zrt, .int .i64 zsq, .int .i64 zbs, .int .i64 ztg, .int .i64 zwt, .int .i64 zccl, .int .i64 zcsq, .int .i64 zcop, .string zck, .string zcv, .string zco]) (results_blk Try.results14 rfl (BR.row _) Try.underlying40 rfl sizeCliA rfl) rfl ⟨rfl, below_row HB (by omega) _⟩
  have n2 : (kd == 2) = false := by simpa using h2
  by_cases h3 : kd = 3
  · subst h3
    obtain ⟨zc, zs, zd, zid, zsv, zrt, zsq, zbs, ztg, zwt, zccl, zcsq, zcop, zck, zcv, zco, hV⟩ := repV_ans id sv rt sq bs tg wt ccl csq cop ck cv co rcl rsq rst rcd rv rld
    rw [show stepV id sv rt sq bs tg wt ccl csq cop ck cv co 3 ecl esq eop ek ev eo rcl rsq rst rcd rv rld = repV id sv rt sq bs tg wt ccl csq cop ck cv co rcl rsq rst rcd rv rld by simp [stepV, hfit], hV]
    have HV : Hid (repV id sv rt sq bs tg wt ccl csq cop ck cv co rcl rsq rst rcd rv rld = _) := hV
    clear hV
    go_enter Try.func14, Try.ntmps14
    go_wp2_with (first
      | (refine gate_ld 35 (.tmp 2) rfl ?_; clear g1; refine wpl_load_blk rfl 35 (.tmp 2) rfl (w.heap.size) rfl (((Blk.new w _ _).alloc _).alloc _) Try.underlying35 rfl sizeCli rfl ?_)
      | (go_at_call 37; refine (l6clientOk_any _ _ _ _ _ _ _ _ _ _ _ _ _ hk hv ho _).mono ?_; rintro e w1 ⟨rfl, hb1⟩; rw [hfit]; have hz : w.heap.size + 2 < w1.heap.size := (by have := hb1.size; simp at this; omega); have BA := (((Blk.new w _ _).alloc _).alloc _).below hb1 (by simp <;> omega); have BE := ((Blk.new' (w.alloc _) _ _ (k := w.heap.size + 1) (by simp)).alloc _).below hb1 (by simp <;> omega); have BR := (Blk.new' ((w.alloc _).alloc _) _ _ (k := w.heap.size + 1 + 1) (by simp)).below hb1 (by simp <;> omega); have HB := (((((Below.refl w.heap.size w).alloc (Nat.le_refl _) _).alloc (by simp) _).alloc (by simp <;> omega) _).trans (hb1.mono (le3 w _ _ _))); have cE := BE.cell; have fE := BE.free; clear hb1)
      | (refine gate_ld 35 (.tmp 2) rfl ?_; refine wpl_load_blk rfl 35 (.tmp 2) rfl (w.heap.size) rfl BA Try.underlying35 rfl sizeCli rfl ?_)
      | (go_at_call 40; refine (l6reply_any _ _ _ _ _ _ _ _ _ _ _ _ _ _ _ _ _ _ _ hrv hs ht ht2 _).mono ?_; rintro e w2 ⟨rfl, hb2⟩; rw [HV.out]; have BR := BR.below hb2 (by omega); have HB := HB.trans (hb2.mono (by omega)))
      | (refine gate_st 40 (.tmp 4) _ rfl ?_; refine wpl_store_blk rfl 40 (.tmp 4) _ rfl (w.heap.size + 1 + 1) rfl rfl BR sizeCliA rfl rfl (by simp [Value.oneCell']) ?_))
    exact bodyPost_ret (v := .agg #[.int .i64 zc, .int .i64 zs, .int .i64 zd, .int .i64 zid, .int .i64 zsv, .int .i64 zrt, .int .i64 zsq, .int .i64 zbs, .int .i64 ztg, .int .i64 zwt, .int .i64 zccl, .int .i64 zcsq, .int .i64 zcop, .string zck, .string zcv, .string zco]) (results_blk Try.results14 rfl (BR.row _) Try.underlying40 rfl sizeCliA rfl) rfl ⟨rfl, below_row HB (by omega) _⟩
  have n3 : (kd == 3) = false := by simpa using h3
  rw [show stepV id sv rt sq bs tg wt ccl csq cop ck cv co kd ecl esq eop ek ev eo rcl rsq rst rcd rv rld = .agg #[.int .i64 8, .int .i64 0, .int .i64 0, .int .i64 id, .int .i64 sv, .int .i64 rt, .int .i64 sq, .int .i64 bs, .int .i64 tg, .int .i64 wt, .int .i64 ccl, .int .i64 csq, .int .i64 cop, .string ck, .string cv, .string co] by simp [stepV, hfit, h1, h2, h3]]
  clear h1 h2 h3
  go_enter Try.func14, Try.ntmps14
  go_wp2_with (first
    | (refine gate_ld 35 (.tmp 2) rfl ?_; clear g1; refine wpl_load_blk rfl 35 (.tmp 2) rfl (w.heap.size) rfl (((Blk.new w _ _).alloc _).alloc _) Try.underlying35 rfl sizeCli rfl ?_)
    | (go_at_call 37; refine (l6clientOk_any _ _ _ _ _ _ _ _ _ _ _ _ _ hk hv ho _).mono ?_; rintro e w1 ⟨rfl, hb1⟩; rw [hfit]; have hz : w.heap.size + 2 < w1.heap.size := (by have := hb1.size; simp at this; omega); have BA := (((Blk.new w _ _).alloc _).alloc _).below hb1 (by simp <;> omega); have BE := ((Blk.new' (w.alloc _) _ _ (k := w.heap.size + 1) (by simp)).alloc _).below hb1 (by simp <;> omega); have BR := (Blk.new' ((w.alloc _).alloc _) _ _ (k := w.heap.size + 1 + 1) (by simp)).below hb1 (by simp <;> omega); have HB := (((((Below.refl w.heap.size w).alloc (Nat.le_refl _) _).alloc (by simp) _).alloc (by simp <;> omega) _).trans (hb1.mono (le3 w _ _ _))); have cE := BE.cell; have fE := BE.free; clear hb1)
    | (refine gate_ld 35 (.tmp 2) rfl ?_; refine wpl_load_blk rfl 35 (.tmp 2) rfl (w.heap.size) rfl BA Try.underlying35 rfl sizeCli rfl ?_)
    | (refine gate_st 40 (.tmp 4) _ rfl ?_; refine wpl_store_blk rfl 40 (.tmp 4) _ rfl (w.heap.size + 1 + 1) rfl rfl BR sizeCliA rfl rfl (by simp [Value.oneCell']) ?_))
  exact bodyPost_ret (v := .agg #[.int .i64 8, .int .i64 0, .int .i64 0, .int .i64 id, .int .i64 sv, .int .i64 rt, .int .i64 sq, .int .i64 bs, .int .i64 tg, .int .i64 wt, .int .i64 ccl, .int .i64 csq, .int .i64 cop, .string ck, .string cv, .string co]) (results_blk Try.results14 rfl (BR.row _) Try.underlying40 rfl sizeCliA rfl) rfl ⟨rfl, below_row HB (by omega) _⟩
end Go.Proofs.Ytclphmakokpnnaa
