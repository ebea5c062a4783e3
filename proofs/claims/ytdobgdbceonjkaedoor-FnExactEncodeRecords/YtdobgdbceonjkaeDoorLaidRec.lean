/-
  What 'laid' gives: one sentinel; the variable read as a token.
-/
import Derived.Test.YtdobgdbceonjkaeDoorChBase
import Derived.Test.YtdobgdbceonjkaeDoorTie
import Derived.Test.YtdobgdbceonjkaeDoorCards
import Derived.LaidEql
import Derived.Stop.Asserts
import Derived.RowKitTokens
import Derived.LaidLaws
import Derived.LaidSub
import Derived.LaidHandle
import Derived.Stop.LaidErr
import Derived.WalkSmall
namespace Go.Proofs.YtdobgdbceonjkaeDoor
open Go.ChangeShapes Go.WideShapes Go.RowKit Go.Extern.Stop Go.Stop Go.Extern
set_option linter.unusedVariables false
set_option linter.unusedSimpArgs false

theorem globR : Tryd.prog.globalNamed "loop.example/s01586/impl.errRecords" = some 2 := by kernel_rfl
theorem globTR : (Tryd.prog.globals[2]?).map (·.type) = some 63 := by kernel_rfl
theorem cellsErrR : Tryd.prog.cellsOf 201 = 1 := by kernel_rfl
theorem cellsStrR : Tryd.prog.cellsOf 9 = 1 := by kernel_rfl
theorem starNameR : "*" ++ "errors.errorString" = "*errors.errorString" := by decide
theorem ptrNameR (u : TypeId) (h : Tryd.prog.typeName? 3 u = some "*errors.errorString") : u = 171 :=
  typeName_ptr_named (nm := "errors.errorString") (by rw [starNameR]; kernel_rfl) (by kernel_rfl) (by decide) u (by rw [starNameR]; exact h)
def laidR : List (String × DataW Unit) := [("loop.example/s01586/impl.errRecords", Rows.laid_loop_example_s01586_impl_errRecords)]
theorem laidR_plain : (laidR.filter fun x => x.2.handleName?.isNone) = laidR := by kernel_rfl

set_option maxRecDepth 100000 in
set_option maxHeartbeats 1000000 in
theorem sent_of_laid {W : World} (h : laidMetH Tryd.prog laidR W) : ∃ A, W.cell? ⟨2, 0, none⟩ = some (sentR A) ∧ W.var? Tryd.prog "loop.example/s01586/impl.errRecords" = some #[sentR A] := by
  obtain ⟨h1, h2⟩ := laidMetH_iff.1 h
  rw [laidR_plain] at h1
  obtain ⟨ps, ⟨g1', t1', cs1, f1, p1, q1, hg1', ht1', hv1, hd1, e7', e1⟩, hnd, hrows⟩ := h1
  obtain rfl := Option.some.inj (globR.symm.trans hg1')
  obtain rfl := Option.some.inj (globTR.symm.trans ht1')
  change q1 = [] at e7'
  subst e7'
  subst e1
  obtain ⟨l1⟩ := cs1
  have ok1 : ∀ u v, l1 = [.iface u v] → Value.okWide Tryd.prog W .any 0 u v := fun u v e => by
    subst e
    exact (hrows 2 0 (by simp [MemPlace.row])).2 u v (by simpa using World.var?_cell hg1' hv1 0)
  obtain ⟨a1, s1, rfl, _, _, _, rfl⟩ := errorString_of_trod (tp := 171) Tryd.underlying63 ptrNameR Tryd.underlying171 Tryd.underlying201 rfl rfl Tryd.underlying9 cellsErrR cellsStrR hd1 ok1
  exact ⟨a1, by simpa using World.var?_cell hg1' hv1 0, hv1⟩

theorem vars_read1 {H : Type} (enc : TypeId × Value → H) {X : World} {A : Addr}
    (x1 : X.var? Tryd.prog "loop.example/s01586/impl.errRecords" = some #[sentR A]) (sp : Nat → Bool) :
    DataW.TrodVars enc Tryd.prog X sp ["loop.example/s01586/impl.errRecords"] [tok enc (sentR A)] [.cell 2 0] :=
  ⟨_, _, _, 1, [], _, globR, globTR, x1, trod_held (v := sentR A) Tryd.underlying63 trivial 0, rfl, rfl⟩
end Go.Proofs.YtdobgdbceonjkaeDoor
