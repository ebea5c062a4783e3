/-
  What 'laid' gives to Disk; the variables read as tokens.
-/
import Derived.Test.YtjoflnnomebkpaaDoorGround2
import Derived.Test.YtjoflnnomebkpaaDoorTie
import Derived.Test.YtjoflnnomebkpaaDoorCards
import Derived.LaidEql
import Derived.Stop.Asserts
import Derived.RowKitTokens
import Derived.LaidLaws
import Derived.LaidSub
import Derived.LaidHandle
import Derived.Stop.LaidErr
import Derived.WalkSmall
namespace Go.Proofs.YtjoflnnomebkpaaDoor.fnDisk
open Go.ChangeShapes Go.WideShapes Go.RowKit Go.Extern.Stop Go.Stop Go.Extern
set_option linter.unusedVariables false
set_option linter.unusedSimpArgs false

theorem globerrRecords : Tryd.prog.globalNamed "loop.example/s01586/impl.errRecords" = some 0 := by kernel_rfl
theorem globTerrRecords : (Tryd.prog.globals[0]?).map (·.type) = some 79 := by kernel_rfl
theorem globerrFull : Tryd.prog.globalNamed "loop.example/s01586/impl.errFull" = some 1 := by kernel_rfl
theorem globTerrFull : (Tryd.prog.globals[1]?).map (·.type) = some 79 := by kernel_rfl
theorem cellsErr : Tryd.prog.cellsOf 232 = 1 := by kernel_rfl
theorem cellsStr : Tryd.prog.cellsOf 9 = 1 := by kernel_rfl
theorem starName : "*" ++ "errors.errorString" = "*errors.errorString" := by decide
theorem ptrName (u : TypeId) (h : Tryd.prog.typeName? 3 u = some "*errors.errorString") : u = 203 :=
  typeName_ptr_named (nm := "errors.errorString") (by rw [starName]; kernel_rfl) (by kernel_rfl) (by decide) u (by rw [starName]; exact h)
def laidL : List (String × DataW Unit) := [("loop.example/s01586/impl.errRecords", Rows.laid_loop_example_s01586_impl_errRecords), ("loop.example/s01586/impl.errFull", Rows.laid_loop_example_s01586_impl_errFull)]
theorem laidL_plain : (laidL.filter fun x => x.2.handleName?.isNone) = laidL := by kernel_rfl

set_option maxRecDepth 100000 in
set_option maxHeartbeats 4000000 in
theorem sents_of {W : World} (h : laidMetH Tryd.prog laidL W) : ∃ A A2, Sents2 W A A2 ∧ W.var? Tryd.prog "loop.example/s01586/impl.errRecords" = some #[sentR (A)] ∧ W.var? Tryd.prog "loop.example/s01586/impl.errFull" = some #[sentR (A2)] := by
  obtain ⟨h1, h2⟩ := laidMetH_iff.1 h
  rw [laidL_plain] at h1
  obtain ⟨ps, ⟨g1', t1', cs1, f1, p1, q1, hg1', ht1', hv1, hd1, ⟨g2', t2', cs2, f2, p2, q2, hg2', ht2', hv2, hd2, e0, e2⟩, e1⟩, hnd, hrows⟩ := h1
  obtain rfl := Option.some.inj (globerrRecords.symm.trans hg1')
  obtain rfl := Option.some.inj (globTerrRecords.symm.trans ht1')
  obtain rfl := Option.some.inj (globerrFull.symm.trans hg2')
  obtain rfl := Option.some.inj (globTerrFull.symm.trans ht2')
  change q2 = [] at e0
  subst e0
  subst e2
  subst e1
  obtain ⟨l1⟩ := cs1
  have ok1 : ∀ u v, l1 = [.iface u v] → Value.okWide Tryd.prog W .any 0 u v := fun u v e => by
    subst e
    exact (hrows 0 0 (by simp [MemPlace.row])).2 u v (by simpa using World.var?_cell hg1' hv1 0)
  obtain ⟨l2⟩ := cs2
  have ok2 : ∀ u v, l2 = [.iface u v] → Value.okWide Tryd.prog W .any 0 u v := fun u v e => by
    subst e
    exact (hrows 1 0 (by simp [MemPlace.row])).2 u v (by simpa using World.var?_cell hg2' hv2 0)
  obtain ⟨a1, s1, rfl, _, _, _, rfl⟩ := errorString_of_trod (tp := 203) Tryd.underlying79 ptrName Tryd.underlying203 Tryd.underlying232 rfl rfl Tryd.underlying9 cellsErr cellsStr hd1 ok1
  obtain ⟨a2, s2, rfl, _, _, _, rfl⟩ := errorString_of_trod (tp := 203) Tryd.underlying79 ptrName Tryd.underlying203 Tryd.underlying232 rfl rfl Tryd.underlying9 cellsErr cellsStr hd2 ok2
  have r1 := (hrows a1.block a1.off (by simp [MemPlace.row])).1
  have c1 : W.cell? ⟨0, 0, none⟩ = some (sentR a1) := by simpa using World.var?_cell hg1' hv1 0
  have r2 := (hrows a2.block a2.off (by simp [MemPlace.row])).1
  have c2 : W.cell? ⟨1, 0, none⟩ = some (sentR a2) := by simpa using World.var?_cell hg2' hv2 0
  have n12 : a1 ≠ a2 := by rintro rfl; simp [MemPlace.row] at hnd
  clear hnd hrows
  exact ⟨a1, a2, ⟨c1, c2, r1, r2, n12⟩, hv1, hv2⟩

theorem vars_read {H : Type} (enc : TypeId × Value → H) {X : World} {A A2 : Addr}
    (x1 : X.var? Tryd.prog "loop.example/s01586/impl.errRecords" = some #[sentR (A)])
    (x2 : X.var? Tryd.prog "loop.example/s01586/impl.errFull" = some #[sentR (A2)])
    (sp : Nat → Bool) :
    DataW.TrodVars enc Tryd.prog X sp ["loop.example/s01586/impl.errRecords", "loop.example/s01586/impl.errFull"]
      [tok enc (sentR (A)), tok enc (sentR (A2))]
      [.cell 0 0, .cell 1 0] :=
  ⟨_, _, _, 1, [], _, globerrRecords, globTerrRecords, x1, trod_held (v := sentR (A)) Tryd.underlying79 trivial 0, ⟨_, _, _, 1, [], _, globerrFull, globTerrFull, x2, trod_held (v := sentR (A2)) Tryd.underlying79 trivial 0, rfl, rfl⟩, rfl⟩
end Go.Proofs.YtjoflnnomebkpaaDoor.fnDisk
