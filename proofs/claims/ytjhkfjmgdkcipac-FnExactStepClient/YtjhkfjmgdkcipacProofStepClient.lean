/-
  FnExactStepClient: the frame round the walk.
-/
import Derived.Test.YtjhkfjmgdkcipacStepClientLaw
import Derived.Test.YtjhkfjmgdkcipacArgBase
import Derived.Test.YtjhkfjmgdkcipacArgClient
import Derived.Test.YtjhkfjmgdkcipacArgClientEvent
namespace Go.Proofs.Ytjhkfjmgdkcipac.lawStepClient
open Go.ChangeShapes Go.WideShapes Go.ChangeAt Go.RowKit
set_option linter.unusedVariables false

set_option maxRecDepth 100000 in
theorem lifted (os : Os) (started : os.Started) (H : Type) (enc : TypeId × Value → H) :
    ReturnsInHanded {} Try.checked os 7 .any (Rows.fnExactStepClientSpec.pre6 enc Try.prog Try.f7 Rows.fnExactStepClientRow.domain false) (Rows.fnExactStepClientSpec.post enc Try.prog Try.f7 false true false false) := by
  refine returnsInHanded_of_change (C := Try.checked) own started (by kernel_rfl) Try.func7
    (ChangeSpec.witness6 (enc := enc) (C := Try.checked) false ⟨#[], #[.agg #[.int .i64 0, .int .i64 0, .int .i64 0, .int .i64 0, .int .i64 0, .int .i64 0, .int .i64 0, .int .i64 0, .int .i64 0, .int .i64 0, .string .empty, .string .empty, .string .empty], .agg #[.int .i64 0, .int .i64 0, .int .i64 0, .int .i64 0, .string .empty, .string .empty, .string .empty, .int .i64 0, .int .i64 0, .int .i64 0, .int .i64 0, .string .empty, .int .i64 0]], []⟩ 8 (by kernel_rfl) (by kernel_rfl) (by kernel_rfl) (by kernel_rfl)) ?_
  intro W base args ds gs before hval0 hW hcnd _
  have hval : ∀ (j : Nat) t v, Try.f7.params[j]? = some t → args[j]? = some v → Value.okWide Try.prog W .any base t v := hval0
  have hW' := hW
  obtain ⟨p, q, hA0, hV, rfl, hfz, hnd⟩ := hW
  have hA : DataW.TrodAll enc Try.prog W 0 (fun _ => true) true Try.f7.params.toList args.toList ds p := hA0
  rw [Try.params7] at hA hval
  obtain ⟨v0, vs0, d0, ds0, p0, q0, hargs, rfl, rfl, h0, r0⟩ := trodAll_cons hA
  obtain ⟨v1, vs1, d1, ds1, p1, q1, rfl, rfl, rfl, h1, r1⟩ := trodAll_cons r0
  obtain ⟨rfl, rfl, rfl⟩ := trodAll_nil r1
  obtain rfl : args = #[v0, v1] := by cases args; simp_all
  obtain ⟨rfl, rfl⟩ := trodVars_none hV
  have k0 := h0
  have lt0 : ∀ x ∈ p0, x.block < W.heap.size := by obtain ⟨m, hm⟩ := k0; exact DataW.trod_lt m _ _ _ hm
  have k1 := h1
  have lt1 : ∀ x ∈ p1, x.block < W.heap.size := by obtain ⟨m, hm⟩ := k1; exact DataW.trod_lt m _ _ _ hm
  obtain ⟨id0, sv0, rt0, sq0, bs0, tg0, wt0, ccl0, csq0, cop0, ck0, cv0, co0, rfl, zid0, zsv0, zrt0, zsq0, zbs0, ztg0, zwt0, _, _, _, mck0, mcv0, mco0⟩ := argClient.opened (hval 0 67 v0 rfl rfl) h0
  obtain ⟨kd1, ecl1, esq1, eop1, ek1, ev1, eo1, rcl1, rsq1, rst1, rcd1, rv1, rld1, rfl, _, _, _, _, mek1, mev1, meo1, _, _, _, _, mrv1, _⟩ := argClientEvent.opened (hval 1 69 v1 rfl rfl) h1
  clear hA0 hval0
  refine (lawStepClient_walk (w := W) id0 sv0 rt0 sq0 bs0 tg0 wt0 ccl0 csq0 cop0 ck0 cv0 co0 kd1 ecl1 esq1 eop1 ek1 ev1 eo1 rcl1 rsq1 rst1 rcd1 rv1 rld1 mck0 mcv0 mco0 mek1 mev1 meo1 mrv1).mono fun e W' ⟨he, bel⟩ => ?_
  subst he
  exact ⟨_, rfl, _, _, _, [], _, [], hW', trodAll_mk1 (shut_bool Try.underlying4 _), (trodAll_cons_mk (Below.trod laidOut (by kernel_rfl) (of_decide_eq_true (by kernel_rfl)) k0 bel lt0) (trodAll_cons_mk (Below.trod laidOut (by kernel_rfl) (of_decide_eq_true (by kernel_rfl)) k1 bel lt1) trodAll_mk0)), rfl, bel.frame _, fun h => by cases h⟩

theorem over : Rows.fnExactStepClientRow.holds Try.pinned (OpenSpec.ofChange Rows.fnExactStepClientSpec) :=
  OpenClaim.holds_of_wide 7 Try.f7 rfl rfl rfl rfl rfl rfl rfl ⟨rfl, rfl, rfl, rfl, rfl⟩ rfl rfl rfl rfl rfl (by kernel_rfl) Try.func7 (by kernel_rfl)
    (of_decide_eq_true (by kernel_rfl)) (by unfold Func.isWrapper; first | (rw [if_pos (by decide +kernel)]; kernel_rfl) | (rw [if_neg (by decide +kernel)]; exact ⟨rfl, rfl⟩))
    (fun os started H enc _ => lifted os started H enc)
end Go.Proofs.Ytjhkfjmgdkcipac.lawStepClient
namespace Go.Proofs.Ytjhkfjmgdkcipac
theorem fnExactStepClient_proved : Rows.FnExactStepClientSaid := lawStepClient.over
#print axioms fnExactStepClient_proved
end Go.Proofs.Ytjhkfjmgdkcipac
