/-
  FnTorn: the frame round the walk; the card.
-/
import Derived.Test.YtjoflnnomebkpaaDoorFnTornLaw
import Derived.Test.YtjoflnnomebkpaaDoorLaidTorn
import Derived.Test.YtjoflnnomebkpaaDoorArgBytes
import Derived.ProofKit
import Derived.OpenShut
import Derived.ShutString
import Derived.ChangeOld
import Derived.Carry
import Derived.Deep.DeepHandedRow
import Derived.Deep.DeepWitnessRowRef
import Derived.LaidMore
namespace Go.Proofs.YtjoflnnomebkpaaDoor.fnTorn
open Go.ChangeShapes Go.WideShapes Go.ChangeAt Go.RowKit
set_option linter.unusedVariables false

theorem own : ownKnob Tryd.prog.godebug = none := by kernel_rfl
theorem laidOut : laidOutB Tryd.prog = true := by kernel_rfl

set_option maxRecDepth 100000 in
theorem contract (H : Type) (enc : TypeId × Value → H) (W : World) (base : Nat) (args : Array Value) (ds gs : List (DataW H)) (before : List MemPlace)
    (hval0 : ∀ (j : Nat) t v, Tryd.f4.params[j]? = some t → args[j]? = some v → Value.okWide Tryd.prog W .any base t v)
    (hW : DataW.Whole enc Tryd.prog Tryd.f4.params.toList Rows.fnTornSpec.vars false W args.toList ds gs before) (hL0 : laidMetH Tryd.prog Rows.fnTornRow.laid W) :
    Calls Tryd.prog 4 args W fun e W' => ∃ v, e = .returned v ∧ Rows.fnTornSpec.post enc Tryd.prog Tryd.f4 false true false false W args v W' := by
  have hL : laidMetH Tryd.prog laidL W := hL0
  have hval : ∀ (j : Nat) t v, Tryd.f4.params[j]? = some t → args[j]? = some v → Value.okWide Tryd.prog W .any base t v := hval0
  have hW' := hW
  obtain ⟨p, q, hA0, hV0, rfl, hfz, hnd⟩ := hW
  have hA : DataW.TrodAll enc Tryd.prog W 0 (fun _ => true) true Tryd.f4.params.toList args.toList ds p := hA0
  have hV : DataW.TrodVars enc Tryd.prog W (fun _ => true) ["loop.example/s01586/impl.errFull", "loop.example/s01586/impl.errRecords", "loop.example/s01586/impl.errTorn", "loop.example/s01586/impl.errBounds", "loop.example/s01586/impl.errSize", "loop.example/s01586/impl.errLength", "loop.example/s01586/impl.errSum", "loop.example/s01586/impl.errKind", "loop.example/s01586/impl.errValue", "loop.example/s01586/impl.errShape", "loop.example/s01586/impl.errPlace"] gs q := hV0
  rw [Tryd.params4] at hA hval
  obtain ⟨v0, vs0, d0, ds0, p0, q0, hargs, rfl, rfl, h0, r0⟩ := trodAll_cons hA
  obtain ⟨rfl, rfl, rfl⟩ := trodAll_nil r0
  obtain rfl : args = #[v0] := by cases args; simp_all
  have k0 := h0
  have lt0 : ∀ x ∈ p0, x.block < W.heap.size := by obtain ⟨m, hm⟩ := k0; exact DataW.trod_lt m _ _ _ hm
  obtain ⟨A, A1, A2, hN, hS, x1, x2, x3, x4, x5, x6, x7, x8, x9, x10, x11⟩ := sents_of hL
  obtain ⟨rfl, rfl⟩ := hV.unique (vars_read enc x1 x2 x3 x4 x5 x6 x7 x8 x9 x10 x11 _)
  obtain ⟨l0, b0⟩ := open_bytes (hval 0 22 v0 rfl rfl) h0
  have hgl1 : 9 < W.heap.size := cell_lt (o := 0) (v := sentV (A 1)) (by simpa using World.var?_cell globerrSize x1 0)
  have hgl2 : 10 < W.heap.size := cell_lt (o := 0) (v := sentV (A 2)) (by simpa using World.var?_cell globerrLength x2 0)
  have hgl3 : 4 < W.heap.size := cell_lt (o := 0) (v := sentV (A 3)) (by simpa using World.var?_cell globerrSum x3 0)
  have hgl4 : 5 < W.heap.size := cell_lt (o := 0) (v := sentV (A 4)) (by simpa using World.var?_cell globerrKind x4 0)
  have hgl5 : 6 < W.heap.size := cell_lt (o := 0) (v := sentV (A 5)) (by simpa using World.var?_cell globerrShape x5 0)
  have hgl6 : 7 < W.heap.size := cell_lt (o := 0) (v := sentV (A 6)) (by simpa using World.var?_cell globerrValue x6 0)
  have hgl7 : 2 < W.heap.size := cell_lt (o := 0) (v := sentV (A 7)) (by simpa using World.var?_cell globerrTorn x7 0)
  have hgl8 : 3 < W.heap.size := cell_lt (o := 0) (v := sentV (A 8)) (by simpa using World.var?_cell globerrBounds x8 0)
  have hgl9 : 8 < W.heap.size := cell_lt (o := 0) (v := sentV (A 9)) (by simpa using World.var?_cell globerrPlace x9 0)
  have hgl10 : 0 < W.heap.size := cell_lt (o := 0) (v := sentV (A1)) (by simpa using World.var?_cell globerrRecords x10 0)
  have hgl11 : 1 < W.heap.size := cell_lt (o := 0) (v := sentV (A2)) (by simpa using World.var?_cell globerrFull x11 0)
  clear hA0 hval0 hV0
  refine (lawTorn_walk (w := W) v0 l0 b0 A _ hN A1 A2 hS).mono fun e W' ⟨he, bel⟩ => ?_
  subst he
  exact ⟨_, rfl, _, _, _, [], _, _, hW', trodAll_mk1 (shut_bool Tryd.underlying4 _), (trodAll_cons_mk (Below.trod laidOut (by kernel_rfl) (of_decide_eq_true (by kernel_rfl)) k0 bel lt0) trodAll_mk0),
    vars_read enc (var?_below bel globerrSize hgl1 x1) (var?_below bel globerrLength hgl2 x2) (var?_below bel globerrSum hgl3 x3) (var?_below bel globerrKind hgl4 x4) (var?_below bel globerrShape hgl5 x5) (var?_below bel globerrValue hgl6 x6) (var?_below bel globerrTorn hgl7 x7) (var?_below bel globerrBounds hgl8 x8) (var?_below bel globerrPlace hgl9 x9) (var?_below bel globerrRecords hgl10 x10) (var?_below bel globerrFull hgl11 x11) _,
    bel.frame _, fun h => by cases h⟩

theorem door_met (os : Os) : laidMetH Tryd.prog Rows.fnTornRow.laid ((World.doorLaid Tryd.prog 400 os).forCall (fun _ _ => 0) ⟨#[], #[.slice none 0 0], []⟩).memory :=
  laidMetH_of_parts3 (fuel := 8) (laidMet_of_run' 8 (by kernel_rfl) (by kernel_rfl)) (by kernel_rfl) (by kernel_rfl)

set_option maxRecDepth 100000 in
theorem lifted (os : Os) (started : os.Started) (H : Type) (enc : TypeId × Value → H) (F : Stop.Interp) :
    ReturnsInHanded {} Tryd.checked os 4 .any ((OpenSpec.ofChange Rows.fnTornSpec).preRow enc Tryd.prog Tryd.f4 Rows.fnTornRow.domain false Rows.fnTornRow.laid) (((OpenSpec.ofChange Rows.fnTornSpec).at F).post enc Tryd.prog Tryd.f4 false true false false) := by
  refine returnsInHanded_of_row (C := Tryd.checked) (s := OpenSpec.ofChange Rows.fnTornSpec) own started (by kernel_rfl) Tryd.func4
    (witness_row_atRef (enc := enc) (C := Tryd.checked) false (World.doorLaid Tryd.prog 400 os) #[.slice none 0 0] rfl (by kernel_rfl) (by kernel_rfl) (by kernel_rfl)
      (OpenSpec.preRow_of_B rfl 8 (by kernel_rfl) (by kernel_rfl) (door_met os))) ?_
  intro W base args ds gs before hval hW _ _ _ hL _ _
  exact contract H enc W base args ds gs before hval hW hL

theorem said : Rows.FnTornSaid :=
  OpenClaim.holds_of_cond 4 Tryd.f4 rfl rfl rfl rfl rfl rfl rfl ⟨rfl, rfl, rfl, rfl, rfl⟩ rfl rfl rfl rfl rfl (by kernel_rfl) Tryd.func4 (by kernel_rfl)
    (of_decide_eq_true (by kernel_rfl)) (by unfold Func.isWrapper; first | (rw [if_pos (by decide +kernel)]; kernel_rfl) | (rw [if_neg (by decide +kernel)]; exact ⟨rfl, rfl⟩))
    (fun os started H enc _ F => by rw [OpenClaim.pre_eq_preRow]; exact lifted os started H enc F)

theorem plain (f : FuncId) (fn : Func) (hf : Tryd.pinned.checked.prog.funcNamed "loop.example/s01586/laws.FnTorn" = some f) (hfn : Tryd.pinned.checked.prog.funcs[f]? = some fn) :
    true = Tryd.pinned.checked.prog.looks [] ∧ ∀ (j : Nat) t, fn.params[j]? = some t → Tryd.pinned.checked.prog.wantsStandIn t = false := by
  obtain rfl : f = 4 := Option.some.inj ((show Tryd.prog.funcNamed "loop.example/s01586/laws.FnTorn" = some 4 by kernel_rfl).symm.trans hf) |>.symm
  obtain rfl : fn = Tryd.f4 := (Option.some.inj (Tryd.func4.symm.trans hfn)).symm
  refine ⟨by kernel_rfl, fun j t ht => ?_⟩
  rw [Tryd.params4] at ht
  have hm := Array.mem_of_getElem? ht
  simp at hm
  obtain rfl : t = 22 := hm
  exact (show Tryd.prog.wantsStandIn 22 = false by kernel_rfl)
end Go.Proofs.YtjoflnnomebkpaaDoor.fnTorn
namespace Go.Proofs.YtjoflnnomebkpaaDoor
theorem fnTorn_proved : Rows.FnTornCardSaid :=
  Claim7.holds_tied_plain_at .later [] _ _ _ _ fnTorn.said (fun _ h => by cases h) (by kernel_rfl) (fun _ h => by cases h) fnTorn_row_tie rfl ⟨rfl, rfl⟩ (by kernel_rfl) rfl fnTorn.plain (by kernel_rfl)
#print axioms fnTorn_proved
end Go.Proofs.YtjoflnnomebkpaaDoor
