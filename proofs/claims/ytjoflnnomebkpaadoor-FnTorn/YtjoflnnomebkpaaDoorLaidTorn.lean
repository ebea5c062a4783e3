/-
  What 'laid' gives to Torn; the variables read as tokens.
-/
import Derived.Test.YtjoflnnomebkpaaDoorGround
import Derived.Test.YtjoflnnomebkpaaDoorDwCode
import Derived.Test.YtjoflnnomebkpaaDoorTie
import Derived.Test.YtjoflnnomebkpaaDoorCards
import Derived.LaidEql
import Derived.Stop.Asserts
import Derived.RowKitTokens
import Derived.LaidLaws
import Derived.LaidSub
import Derived.LaidHandle
import Derived.Stop.LaidErr
import Derived.WalkSmall
namespace Go.Proofs.YtjoflnnomebkpaaDoor.fnTorn
open Go.ChangeShapes Go.WideShapes Go.RowKit Go.Extern.Stop Go.Stop Go.Extern
set_option linter.unusedVariables false
set_option linter.unusedSimpArgs false

theorem globerrSize : Tryd.prog.globalNamed "loop.example/s01586/impl.errSize" = some 9 := by kernel_rfl
theorem globTerrSize : (Tryd.prog.globals[9]?).map (·.type) = some 79 := by kernel_rfl
theorem globerrLength : Tryd.prog.globalNamed "loop.example/s01586/impl.errLength" = some 10 := by kernel_rfl
theorem globTerrLength : (Tryd.prog.globals[10]?).map (·.type) = some 79 := by kernel_rfl
theorem globerrSum : Tryd.prog.globalNamed "loop.example/s01586/impl.errSum" = some 4 := by kernel_rfl
theorem globTerrSum : (Tryd.prog.globals[4]?).map (·.type) = some 79 := by kernel_rfl
theorem globerrKind : Tryd.prog.globalNamed "loop.example/s01586/impl.errKind" = some 5 := by kernel_rfl
theorem globTerrKind : (Tryd.prog.globals[5]?).map (·.type) = some 79 := by kernel_rfl
theorem globerrShape : Tryd.prog.globalNamed "loop.example/s01586/impl.errShape" = some 6 := by kernel_rfl
theorem globTerrShape : (Tryd.prog.globals[6]?).map (·.type) = some 79 := by kernel_rfl
theorem globerrValue : Tryd.prog.globalNamed "loop.example/s01586/impl.errValue" = some 7 := by kernel_rfl
theorem globTerrValue : (Tryd.prog.globals[7]?).map (·.type) = some 79 := by kernel_rfl
theorem globerrTorn : Tryd.prog.globalNamed "loop.example/s01586/impl.errTorn" = some 2 := by kernel_rfl
theorem globTerrTorn : (Tryd.prog.globals[2]?).map (·.type) = some 79 := by kernel_rfl
theorem globerrBounds : Tryd.prog.globalNamed "loop.example/s01586/impl.errBounds" = some 3 := by kernel_rfl
theorem globTerrBounds : (Tryd.prog.globals[3]?).map (·.type) = some 79 := by kernel_rfl
theorem globerrPlace : Tryd.prog.globalNamed "loop.example/s01586/impl.errPlace" = some 8 := by kernel_rfl
theorem globTerrPlace : (Tryd.prog.globals[8]?).map (·.type) = some 79 := by kernel_rfl
theorem globerrRecords : Tryd.prog.globalNamed "loop.example/s01586/impl.errRecords" = some 0 := by kernel_rfl
theorem globTerrRecords : (Tryd.prog.globals[0]?).map (·.type) = some 79 := by kernel_rfl
theorem globerrFull : Tryd.prog.globalNamed "loop.example/s01586/impl.errFull" = some 1 := by kernel_rfl
theorem globTerrFull : (Tryd.prog.globals[1]?).map (·.type) = some 79 := by kernel_rfl
theorem cellsErr : Tryd.prog.cellsOf 232 = 1 := by kernel_rfl
theorem cellsStr : Tryd.prog.cellsOf 9 = 1 := by kernel_rfl
theorem starName : "*" ++ "errors.errorString" = "*errors.errorString" := by decide
theorem ptrName (u : TypeId) (h : Tryd.prog.typeName? 3 u = some "*errors.errorString") : u = 203 :=
  typeName_ptr_named (nm := "errors.errorString") (by rw [starName]; kernel_rfl) (by kernel_rfl) (by decide) u (by rw [starName]; exact h)
def laidL : List (String × DataW Unit) := [("loop.example/s01586/impl.errSize", Rows.laid_loop_example_s01586_impl_errSize), ("loop.example/s01586/impl.errLength", Rows.laid_loop_example_s01586_impl_errLength), ("loop.example/s01586/impl.errSum", Rows.laid_loop_example_s01586_impl_errSum), ("loop.example/s01586/impl.errKind", Rows.laid_loop_example_s01586_impl_errKind), ("loop.example/s01586/impl.errShape", Rows.laid_loop_example_s01586_impl_errShape), ("loop.example/s01586/impl.errValue", Rows.laid_loop_example_s01586_impl_errValue), ("loop.example/s01586/impl.errTorn", Rows.laid_loop_example_s01586_impl_errTorn), ("loop.example/s01586/impl.errBounds", Rows.laid_loop_example_s01586_impl_errBounds), ("loop.example/s01586/impl.errPlace", Rows.laid_loop_example_s01586_impl_errPlace), ("loop.example/s01586/impl.errRecords", Rows.laid_loop_example_s01586_impl_errRecords), ("loop.example/s01586/impl.errFull", Rows.laid_loop_example_s01586_impl_errFull)]
theorem laidL_plain : (laidL.filter fun x => x.2.handleName?.isNone) = laidL := by kernel_rfl

def selN (a1 a2 a3 a4 a5 a6 a7 a8 a9 : Addr) : Nat → Addr
  | 1 => a1
  | 2 => a2
  | 3 => a3
  | 4 => a4
  | 5 => a5
  | 6 => a6
  | 7 => a7
  | 8 => a8
  | _ => a9
theorem lt_cells {W : World} {b : Nat} (h : ∃ c t, W.heap[b]? = some (.cells c t (0, 0))) : b < W.heap.size := by
  obtain ⟨c, t, h⟩ := h
  rcases Nat.lt_or_ge b W.heap.size with h' | h'
  · exact h'
  · simp [Array.getElem?_eq_none h'] at h

set_option maxRecDepth 100000 in
set_option maxHeartbeats 4000000 in
theorem sents_of {W : World} (h : laidMetH Tryd.prog laidL W) : ∃ A A1 A2, Sents W A W.heap.size ∧ Sents2 W A1 A2 ∧ W.var? Tryd.prog "loop.example/s01586/impl.errSize" = some #[sentV (A 1)] ∧ W.var? Tryd.prog "loop.example/s01586/impl.errLength" = some #[sentV (A 2)] ∧ W.var? Tryd.prog "loop.example/s01586/impl.errSum" = some #[sentV (A 3)] ∧ W.var? Tryd.prog "loop.example/s01586/impl.errKind" = some #[sentV (A 4)] ∧ W.var? Tryd.prog "loop.example/s01586/impl.errShape" = some #[sentV (A 5)] ∧ W.var? Tryd.prog "loop.example/s01586/impl.errValue" = some #[sentV (A 6)] ∧ W.var? Tryd.prog "loop.example/s01586/impl.errTorn" = some #[sentV (A 7)] ∧ W.var? Tryd.prog "loop.example/s01586/impl.errBounds" = some #[sentV (A 8)] ∧ W.var? Tryd.prog "loop.example/s01586/impl.errPlace" = some #[sentV (A 9)] ∧ W.var? Tryd.prog "loop.example/s01586/impl.errRecords" = some #[sentV (A1)] ∧ W.var? Tryd.prog "loop.example/s01586/impl.errFull" = some #[sentV (A2)] := by
  obtain ⟨h1, h2⟩ := laidMetH_iff.1 h
  rw [laidL_plain] at h1
  obtain ⟨ps, ⟨g1', t1', cs1, f1, p1, q1, hg1', ht1', hv1, hd1, ⟨g2', t2', cs2, f2, p2, q2, hg2', ht2', hv2, hd2, ⟨g3', t3', cs3, f3, p3, q3, hg3', ht3', hv3, hd3, ⟨g4', t4', cs4, f4, p4, q4, hg4', ht4', hv4, hd4, ⟨g5', t5', cs5, f5, p5, q5, hg5', ht5', hv5, hd5, ⟨g6', t6', cs6, f6, p6, q6, hg6', ht6', hv6, hd6, ⟨g7', t7', cs7, f7, p7, q7, hg7', ht7', hv7, hd7, ⟨g8', t8', cs8, f8, p8, q8, hg8', ht8', hv8, hd8, ⟨g9', t9', cs9, f9, p9, q9, hg9', ht9', hv9, hd9, ⟨g10', t10', cs10, f10, p10, q10, hg10', ht10', hv10, hd10, ⟨g11', t11', cs11, f11, p11, q11, hg11', ht11', hv11, hd11, e0, e11⟩, e10⟩, e9⟩, e8⟩, e7⟩, e6⟩, e5⟩, e4⟩, e3⟩, e2⟩, e1⟩, hnd, hrows⟩ := h1
  obtain rfl := Option.some.inj (globerrSize.symm.trans hg1')
  obtain rfl := Option.some.inj (globTerrSize.symm.trans ht1')
  obtain rfl := Option.some.inj (globerrLength.symm.trans hg2')
  obtain rfl := Option.some.inj (globTerrLength.symm.trans ht2')
  obtain rfl := Option.some.inj (globerrSum.symm.trans hg3')
  obtain rfl := Option.some.inj (globTerrSum.symm.trans ht3')
  obtain rfl := Option.some.inj (globerrKind.symm.trans hg4')
  obtain rfl := Option.some.inj (globTerrKind.symm.trans ht4')
  obtain rfl := Option.some.inj (globerrShape.symm.trans hg5')
  obtain rfl := Option.some.inj (globTerrShape.symm.trans ht5')
  obtain rfl := Option.some.inj (globerrValue.symm.trans hg6')
  obtain rfl := Option.some.inj (globTerrValue.symm.trans ht6')
  obtain rfl := Option.some.inj (globerrTorn.symm.trans hg7')
  obtain rfl := Option.some.inj (globTerrTorn.symm.trans ht7')
  obtain rfl := Option.some.inj (globerrBounds.symm.trans hg8')
  obtain rfl := Option.some.inj (globTerrBounds.symm.trans ht8')
  obtain rfl := Option.some.inj (globerrPlace.symm.trans hg9')
  obtain rfl := Option.some.inj (globTerrPlace.symm.trans ht9')
  obtain rfl := Option.some.inj (globerrRecords.symm.trans hg10')
  obtain rfl := Option.some.inj (globTerrRecords.symm.trans ht10')
  obtain rfl := Option.some.inj (globerrFull.symm.trans hg11')
  obtain rfl := Option.some.inj (globTerrFull.symm.trans ht11')
  change q11 = [] at e0
  subst e0
  subst e11
  subst e10
  subst e9
  subst e8
  subst e7
  subst e6
  subst e5
  subst e4
  subst e3
  subst e2
  subst e1
  obtain ⟨l1⟩ := cs1
  have ok1 : ∀ u v, l1 = [.iface u v] → Value.okWide Tryd.prog W .any 0 u v := fun u v e => by
    subst e
    exact (hrows 9 0 (by simp [MemPlace.row])).2 u v (by simpa using World.var?_cell hg1' hv1 0)
  obtain ⟨l2⟩ := cs2
  have ok2 : ∀ u v, l2 = [.iface u v] → Value.okWide Tryd.prog W .any 0 u v := fun u v e => by
    subst e
    exact (hrows 10 0 (by simp [MemPlace.row])).2 u v (by simpa using World.var?_cell hg2' hv2 0)
  obtain ⟨l3⟩ := cs3
  have ok3 : ∀ u v, l3 = [.iface u v] → Value.okWide Tryd.prog W .any 0 u v := fun u v e => by
    subst e
    exact (hrows 4 0 (by simp [MemPlace.row])).2 u v (by simpa using World.var?_cell hg3' hv3 0)
  obtain ⟨l4⟩ := cs4
  have ok4 : ∀ u v, l4 = [.iface u v] → Value.okWide Tryd.prog W .any 0 u v := fun u v e => by
    subst e
    exact (hrows 5 0 (by simp [MemPlace.row])).2 u v (by simpa using World.var?_cell hg4' hv4 0)
  obtain ⟨l5⟩ := cs5
  have ok5 : ∀ u v, l5 = [.iface u v] → Value.okWide Tryd.prog W .any 0 u v := fun u v e => by
    subst e
    exact (hrows 6 0 (by simp [MemPlace.row])).2 u v (by simpa using World.var?_cell hg5' hv5 0)
  obtain ⟨l6⟩ := cs6
  have ok6 : ∀ u v, l6 = [.iface u v] → Value.okWide Tryd.prog W .any 0 u v := fun u v e => by
    subst e
    exact (hrows 7 0 (by simp [MemPlace.row])).2 u v (by simpa using World.var?_cell hg6' hv6 0)
  obtain ⟨l7⟩ := cs7
  have ok7 : ∀ u v, l7 = [.iface u v] → Value.okWide Tryd.prog W .any 0 u v := fun u v e => by
    subst e
    exact (hrows 2 0 (by simp [MemPlace.row])).2 u v (by simpa using World.var?_cell hg7' hv7 0)
  obtain ⟨l8⟩ := cs8
  have ok8 : ∀ u v, l8 = [.iface u v] → Value.okWide Tryd.prog W .any 0 u v := fun u v e => by
    subst e
    exact (hrows 3 0 (by simp [MemPlace.row])).2 u v (by simpa using World.var?_cell hg8' hv8 0)
  obtain ⟨l9⟩ := cs9
  have ok9 : ∀ u v, l9 = [.iface u v] → Value.okWide Tryd.prog W .any 0 u v := fun u v e => by
    subst e
    exact (hrows 8 0 (by simp [MemPlace.row])).2 u v (by simpa using World.var?_cell hg9' hv9 0)
  obtain ⟨l10⟩ := cs10
  have ok10 : ∀ u v, l10 = [.iface u v] → Value.okWide Tryd.prog W .any 0 u v := fun u v e => by
    subst e
    exact (hrows 0 0 (by simp [MemPlace.row])).2 u v (by simpa using World.var?_cell hg10' hv10 0)
  obtain ⟨l11⟩ := cs11
  have ok11 : ∀ u v, l11 = [.iface u v] → Value.okWide Tryd.prog W .any 0 u v := fun u v e => by
    subst e
    exact (hrows 1 0 (by simp [MemPlace.row])).2 u v (by simpa using World.var?_cell hg11' hv11 0)
  obtain ⟨a1, s1, rfl, _, _, _, rfl⟩ := errorString_of_trod (tp := 203) Tryd.underlying79 ptrName Tryd.underlying203 Tryd.underlying232 rfl rfl Tryd.underlying9 cellsErr cellsStr hd1 ok1
  obtain ⟨a2, s2, rfl, _, _, _, rfl⟩ := errorString_of_trod (tp := 203) Tryd.underlying79 ptrName Tryd.underlying203 Tryd.underlying232 rfl rfl Tryd.underlying9 cellsErr cellsStr hd2 ok2
  obtain ⟨a3, s3, rfl, _, _, _, rfl⟩ := errorString_of_trod (tp := 203) Tryd.underlying79 ptrName Tryd.underlying203 Tryd.underlying232 rfl rfl Tryd.underlying9 cellsErr cellsStr hd3 ok3
  obtain ⟨a4, s4, rfl, _, _, _, rfl⟩ := errorString_of_trod (tp := 203) Tryd.underlying79 ptrName Tryd.underlying203 Tryd.underlying232 rfl rfl Tryd.underlying9 cellsErr cellsStr hd4 ok4
  obtain ⟨a5, s5, rfl, _, _, _, rfl⟩ := errorString_of_trod (tp := 203) Tryd.underlying79 ptrName Tryd.underlying203 Tryd.underlying232 rfl rfl Tryd.underlying9 cellsErr cellsStr hd5 ok5
  obtain ⟨a6, s6, rfl, _, _, _, rfl⟩ := errorString_of_trod (tp := 203) Tryd.underlying79 ptrName Tryd.underlying203 Tryd.underlying232 rfl rfl Tryd.underlying9 cellsErr cellsStr hd6 ok6
  obtain ⟨a7, s7, rfl, _, _, _, rfl⟩ := errorString_of_trod (tp := 203) Tryd.underlying79 ptrName Tryd.underlying203 Tryd.underlying232 rfl rfl Tryd.underlying9 cellsErr cellsStr hd7 ok7
  obtain ⟨a8, s8, rfl, _, _, _, rfl⟩ := errorString_of_trod (tp := 203) Tryd.underlying79 ptrName Tryd.underlying203 Tryd.underlying232 rfl rfl Tryd.underlying9 cellsErr cellsStr hd8 ok8
  obtain ⟨a9, s9, rfl, _, _, _, rfl⟩ := errorString_of_trod (tp := 203) Tryd.underlying79 ptrName Tryd.underlying203 Tryd.underlying232 rfl rfl Tryd.underlying9 cellsErr cellsStr hd9 ok9
  obtain ⟨a10, s10, rfl, _, _, _, rfl⟩ := errorString_of_trod (tp := 203) Tryd.underlying79 ptrName Tryd.underlying203 Tryd.underlying232 rfl rfl Tryd.underlying9 cellsErr cellsStr hd10 ok10
  obtain ⟨a11, s11, rfl, _, _, _, rfl⟩ := errorString_of_trod (tp := 203) Tryd.underlying79 ptrName Tryd.underlying203 Tryd.underlying232 rfl rfl Tryd.underlying9 cellsErr cellsStr hd11 ok11
  have r1 := (hrows a1.block a1.off (by simp [MemPlace.row])).1
  have c1 : W.cell? ⟨9, 0, none⟩ = some (sentV a1) := by simpa using World.var?_cell hg1' hv1 0
  have r2 := (hrows a2.block a2.off (by simp [MemPlace.row])).1
  have c2 : W.cell? ⟨10, 0, none⟩ = some (sentV a2) := by simpa using World.var?_cell hg2' hv2 0
  have r3 := (hrows a3.block a3.off (by simp [MemPlace.row])).1
  have c3 : W.cell? ⟨4, 0, none⟩ = some (sentV a3) := by simpa using World.var?_cell hg3' hv3 0
  have r4 := (hrows a4.block a4.off (by simp [MemPlace.row])).1
  have c4 : W.cell? ⟨5, 0, none⟩ = some (sentV a4) := by simpa using World.var?_cell hg4' hv4 0
  have r5 := (hrows a5.block a5.off (by simp [MemPlace.row])).1
  have c5 : W.cell? ⟨6, 0, none⟩ = some (sentV a5) := by simpa using World.var?_cell hg5' hv5 0
  have r6 := (hrows a6.block a6.off (by simp [MemPlace.row])).1
  have c6 : W.cell? ⟨7, 0, none⟩ = some (sentV a6) := by simpa using World.var?_cell hg6' hv6 0
  have r7 := (hrows a7.block a7.off (by simp [MemPlace.row])).1
  have c7 : W.cell? ⟨2, 0, none⟩ = some (sentV a7) := by simpa using World.var?_cell hg7' hv7 0
  have r8 := (hrows a8.block a8.off (by simp [MemPlace.row])).1
  have c8 : W.cell? ⟨3, 0, none⟩ = some (sentV a8) := by simpa using World.var?_cell hg8' hv8 0
  have r9 := (hrows a9.block a9.off (by simp [MemPlace.row])).1
  have c9 : W.cell? ⟨8, 0, none⟩ = some (sentV a9) := by simpa using World.var?_cell hg9' hv9 0
  have r10 := (hrows a10.block a10.off (by simp [MemPlace.row])).1
  have c10 : W.cell? ⟨0, 0, none⟩ = some (sentV a10) := by simpa using World.var?_cell hg10' hv10 0
  have r11 := (hrows a11.block a11.off (by simp [MemPlace.row])).1
  have c11 : W.cell? ⟨1, 0, none⟩ = some (sentV a11) := by simpa using World.var?_cell hg11' hv11 0
  have n12 : a1 ≠ a2 := by rintro rfl; simp [MemPlace.row] at hnd
  have n13 : a1 ≠ a3 := by rintro rfl; simp [MemPlace.row] at hnd
  have n14 : a1 ≠ a4 := by rintro rfl; simp [MemPlace.row] at hnd
  have n15 : a1 ≠ a5 := by rintro rfl; simp [MemPlace.row] at hnd
  have n16 : a1 ≠ a6 := by rintro rfl; simp [MemPlace.row] at hnd
  have n17 : a1 ≠ a7 := by rintro rfl; simp [MemPlace.row] at hnd
  have n18 : a1 ≠ a8 := by rintro rfl; simp [MemPlace.row] at hnd
  have n19 : a1 ≠ a9 := by rintro rfl; simp [MemPlace.row] at hnd
  have n110 : a1 ≠ a10 := by rintro rfl; simp [MemPlace.row] at hnd
  have n111 : a1 ≠ a11 := by rintro rfl; simp [MemPlace.row] at hnd
  have n23 : a2 ≠ a3 := by rintro rfl; simp [MemPlace.row] at hnd
  have n24 : a2 ≠ a4 := by rintro rfl; simp [MemPlace.row] at hnd
  have n25 : a2 ≠ a5 := by rintro rfl; simp [MemPlace.row] at hnd
  have n26 : a2 ≠ a6 := by rintro rfl; simp [MemPlace.row] at hnd
  have n27 : a2 ≠ a7 := by rintro rfl; simp [MemPlace.row] at hnd
  have n28 : a2 ≠ a8 := by rintro rfl; simp [MemPlace.row] at hnd
  have n29 : a2 ≠ a9 := by rintro rfl; simp [MemPlace.row] at hnd
  have n210 : a2 ≠ a10 := by rintro rfl; simp [MemPlace.row] at hnd
  have n211 : a2 ≠ a11 := by rintro rfl; simp [MemPlace.row] at hnd
  have n34 : a3 ≠ a4 := by rintro rfl; simp [MemPlace.row] at hnd
  have n35 : a3 ≠ a5 := by rintro rfl; simp [MemPlace.row] at hnd
  have n36 : a3 ≠ a6 := by rintro rfl; simp [MemPlace.row] at hnd
  have n37 : a3 ≠ a7 := by rintro rfl; simp [MemPlace.row] at hnd
  have n38 : a3 ≠ a8 := by rintro rfl; simp [MemPlace.row] at hnd
  have n39 : a3 ≠ a9 := by rintro rfl; simp [MemPlace.row] at hnd
  have n310 : a3 ≠ a10 := by rintro rfl; simp [MemPlace.row] at hnd
  have n311 : a3 ≠ a11 := by rintro rfl; simp [MemPlace.row] at hnd
  have n45 : a4 ≠ a5 := by rintro rfl; simp [MemPlace.row] at hnd
  have n46 : a4 ≠ a6 := by rintro rfl; simp [MemPlace.row] at hnd
  have n47 : a4 ≠ a7 := by rintro rfl; simp [MemPlace.row] at hnd
  have n48 : a4 ≠ a8 := by rintro rfl; simp [MemPlace.row] at hnd
  have n49 : a4 ≠ a9 := by rintro rfl; simp [MemPlace.row] at hnd
  have n410 : a4 ≠ a10 := by rintro rfl; simp [MemPlace.row] at hnd
  have n411 : a4 ≠ a11 := by rintro rfl; simp [MemPlace.row] at hnd
  have n56 : a5 ≠ a6 := by rintro rfl; simp [MemPlace.row] at hnd
  have n57 : a5 ≠ a7 := by rintro rfl; simp [MemPlace.row] at hnd
  have n58 : a5 ≠ a8 := by rintro rfl; simp [MemPlace.row] at hnd
  have n59 : a5 ≠ a9 := by rintro rfl; simp [MemPlace.row] at hnd
  have n510 : a5 ≠ a10 := by rintro rfl; simp [MemPlace.row] at hnd
  have n511 : a5 ≠ a11 := by rintro rfl; simp [MemPlace.row] at hnd
  have n67 : a6 ≠ a7 := by rintro rfl; simp [MemPlace.row] at hnd
  have n68 : a6 ≠ a8 := by rintro rfl; simp [MemPlace.row] at hnd
  have n69 : a6 ≠ a9 := by rintro rfl; simp [MemPlace.row] at hnd
  have n610 : a6 ≠ a10 := by rintro rfl; simp [MemPlace.row] at hnd
  have n611 : a6 ≠ a11 := by rintro rfl; simp [MemPlace.row] at hnd
  have n78 : a7 ≠ a8 := by rintro rfl; simp [MemPlace.row] at hnd
  have n79 : a7 ≠ a9 := by rintro rfl; simp [MemPlace.row] at hnd
  have n710 : a7 ≠ a10 := by rintro rfl; simp [MemPlace.row] at hnd
  have n711 : a7 ≠ a11 := by rintro rfl; simp [MemPlace.row] at hnd
  have n89 : a8 ≠ a9 := by rintro rfl; simp [MemPlace.row] at hnd
  have n810 : a8 ≠ a10 := by rintro rfl; simp [MemPlace.row] at hnd
  have n811 : a8 ≠ a11 := by rintro rfl; simp [MemPlace.row] at hnd
  have n910 : a9 ≠ a10 := by rintro rfl; simp [MemPlace.row] at hnd
  have n911 : a9 ≠ a11 := by rintro rfl; simp [MemPlace.row] at hnd
  have n1011 : a10 ≠ a11 := by rintro rfl; simp [MemPlace.row] at hnd
  clear hnd hrows
  have hlt : 10 < W.heap.size := World.block_lt_of_cell? _ _ c2
  have b1 : a1.block < W.heap.size := lt_cells r1
  have b2 : a2.block < W.heap.size := lt_cells r2
  have b3 : a3.block < W.heap.size := lt_cells r3
  have b4 : a4.block < W.heap.size := lt_cells r4
  have b5 : a5.block < W.heap.size := lt_cells r5
  have b6 : a6.block < W.heap.size := lt_cells r6
  have b7 : a7.block < W.heap.size := lt_cells r7
  have b8 : a8.block < W.heap.size := lt_cells r8
  have b9 : a9.block < W.heap.size := lt_cells r9
  have hS : Sents W (selN a1 a2 a3 a4 a5 a6 a7 a8 a9) W.heap.size := by
    refine ⟨c1, c2, c3, c4, c5, c6, c7, c8, c9, fun i h1 h6 => ?_, fun i j h1 h6 k1 k6 hij => ?_, by omega, fun i h1 h6 => ?_, Nat.le_refl _⟩
    · rcases (show i = 1 ∨ i = 2 ∨ i = 3 ∨ i = 4 ∨ i = 5 ∨ i = 6 ∨ i = 7 ∨ i = 8 ∨ i = 9 by omega) with rfl | rfl | rfl | rfl | rfl | rfl | rfl | rfl | rfl
      · exact r1
      · exact r2
      · exact r3
      · exact r4
      · exact r5
      · exact r6
      · exact r7
      · exact r8
      · exact r9
    · rcases (show i = 1 ∨ i = 2 ∨ i = 3 ∨ i = 4 ∨ i = 5 ∨ i = 6 ∨ i = 7 ∨ i = 8 ∨ i = 9 by omega) with rfl | rfl | rfl | rfl | rfl | rfl | rfl | rfl | rfl <;>
      rcases (show j = 1 ∨ j = 2 ∨ j = 3 ∨ j = 4 ∨ j = 5 ∨ j = 6 ∨ j = 7 ∨ j = 8 ∨ j = 9 by omega) with rfl | rfl | rfl | rfl | rfl | rfl | rfl | rfl | rfl <;>
      first
        | exact absurd rfl hij
        | (simp only [selN, ne_eq]; first | exact n12 | exact Ne.symm n12 | exact n13 | exact Ne.symm n13 | exact n14 | exact Ne.symm n14 | exact n15 | exact Ne.symm n15 | exact n16 | exact Ne.symm n16 | exact n17 | exact Ne.symm n17 | exact n18 | exact Ne.symm n18 | exact n19 | exact Ne.symm n19 | exact n23 | exact Ne.symm n23 | exact n24 | exact Ne.symm n24 | exact n25 | exact Ne.symm n25 | exact n26 | exact Ne.symm n26 | exact n27 | exact Ne.symm n27 | exact n28 | exact Ne.symm n28 | exact n29 | exact Ne.symm n29 | exact n34 | exact Ne.symm n34 | exact n35 | exact Ne.symm n35 | exact n36 | exact Ne.symm n36 | exact n37 | exact Ne.symm n37 | exact n38 | exact Ne.symm n38 | exact n39 | exact Ne.symm n39 | exact n45 | exact Ne.symm n45 | exact n46 | exact Ne.symm n46 | exact n47 | exact Ne.symm n47 | exact n48 | exact Ne.symm n48 | exact n49 | exact Ne.symm n49 | exact n56 | exact Ne.symm n56 | exact n57 | exact Ne.symm n57 | exact n58 | exact Ne.symm n58 | exact n59 | exact Ne.symm n59 | exact n67 | exact Ne.symm n67 | exact n68 | exact Ne.symm n68 | exact n69 | exact Ne.symm n69 | exact n78 | exact Ne.symm n78 | exact n79 | exact Ne.symm n79 | exact n89 | exact Ne.symm n89)
    · rcases (show i = 1 ∨ i = 2 ∨ i = 3 ∨ i = 4 ∨ i = 5 ∨ i = 6 ∨ i = 7 ∨ i = 8 ∨ i = 9 by omega) with rfl | rfl | rfl | rfl | rfl | rfl | rfl | rfl | rfl
      · exact b1
      · exact b2
      · exact b3
      · exact b4
      · exact b5
      · exact b6
      · exact b7
      · exact b8
      · exact b9
  exact ⟨selN a1 a2 a3 a4 a5 a6 a7 a8 a9, a10, a11, hS, ⟨c10, c11, r10, r11, n1011⟩, hv1, hv2, hv3, hv4, hv5, hv6, hv7, hv8, hv9, hv10, hv11⟩

theorem vars_read {H : Type} (enc : TypeId × Value → H) {X : World} {A : Nat → Addr} {A1 A2 : Addr}
    (x1 : X.var? Tryd.prog "loop.example/s01586/impl.errSize" = some #[sentV (A 1)])
    (x2 : X.var? Tryd.prog "loop.example/s01586/impl.errLength" = some #[sentV (A 2)])
    (x3 : X.var? Tryd.prog "loop.example/s01586/impl.errSum" = some #[sentV (A 3)])
    (x4 : X.var? Tryd.prog "loop.example/s01586/impl.errKind" = some #[sentV (A 4)])
    (x5 : X.var? Tryd.prog "loop.example/s01586/impl.errShape" = some #[sentV (A 5)])
    (x6 : X.var? Tryd.prog "loop.example/s01586/impl.errValue" = some #[sentV (A 6)])
    (x7 : X.var? Tryd.prog "loop.example/s01586/impl.errTorn" = some #[sentV (A 7)])
    (x8 : X.var? Tryd.prog "loop.example/s01586/impl.errBounds" = some #[sentV (A 8)])
    (x9 : X.var? Tryd.prog "loop.example/s01586/impl.errPlace" = some #[sentV (A 9)])
    (x10 : X.var? Tryd.prog "loop.example/s01586/impl.errRecords" = some #[sentV (A1)])
    (x11 : X.var? Tryd.prog "loop.example/s01586/impl.errFull" = some #[sentV (A2)])
    (sp : Nat → Bool) :
    DataW.TrodVars enc Tryd.prog X sp ["loop.example/s01586/impl.errFull", "loop.example/s01586/impl.errRecords", "loop.example/s01586/impl.errTorn", "loop.example/s01586/impl.errBounds", "loop.example/s01586/impl.errSize", "loop.example/s01586/impl.errLength", "loop.example/s01586/impl.errSum", "loop.example/s01586/impl.errKind", "loop.example/s01586/impl.errValue", "loop.example/s01586/impl.errShape", "loop.example/s01586/impl.errPlace"]
      [tok enc (sentV (A2)), tok enc (sentV (A1)), tok enc (sentV (A 7)), tok enc (sentV (A 8)), tok enc (sentV (A 1)), tok enc (sentV (A 2)), tok enc (sentV (A 3)), tok enc (sentV (A 4)), tok enc (sentV (A 6)), tok enc (sentV (A 5)), tok enc (sentV (A 9))]
      [.cell 1 0, .cell 0 0, .cell 2 0, .cell 3 0, .cell 9 0, .cell 10 0, .cell 4 0, .cell 5 0, .cell 7 0, .cell 6 0, .cell 8 0] :=
  ⟨_, _, _, 1, [], _, globerrFull, globTerrFull, x11, trod_held (v := sentV (A2)) Tryd.underlying79 trivial 0, ⟨_, _, _, 1, [], _, globerrRecords, globTerrRecords, x10, trod_held (v := sentV (A1)) Tryd.underlying79 trivial 0, ⟨_, _, _, 1, [], _, globerrTorn, globTerrTorn, x7, trod_held (v := sentV (A 7)) Tryd.underlying79 trivial 0, ⟨_, _, _, 1, [], _, globerrBounds, globTerrBounds, x8, trod_held (v := sentV (A 8)) Tryd.underlying79 trivial 0, ⟨_, _, _, 1, [], _, globerrSize, globTerrSize, x1, trod_held (v := sentV (A 1)) Tryd.underlying79 trivial 0, ⟨_, _, _, 1, [], _, globerrLength, globTerrLength, x2, trod_held (v := sentV (A 2)) Tryd.underlying79 trivial 0, ⟨_, _, _, 1, [], _, globerrSum, globTerrSum, x3, trod_held (v := sentV (A 3)) Tryd.underlying79 trivial 0, ⟨_, _, _, 1, [], _, globerrKind, globTerrKind, x4, trod_held (v := sentV (A 4)) Tryd.underlying79 trivial 0, ⟨_, _, _, 1, [], _, globerrValue, globTerrValue, x6, trod_held (v := sentV (A 6)) Tryd.underlying79 trivial 0, ⟨_, _, _, 1, [], _, globerrShape, globTerrShape, x5, trod_held (v := sentV (A 5)) Tryd.underlying79 trivial 0, ⟨_, _, _, 1, [], _, globerrPlace, globTerrPlace, x9, trod_held (v := sentV (A 9)) Tryd.underlying79 trivial 0, rfl, rfl⟩, rfl⟩, rfl⟩, rfl⟩, rfl⟩, rfl⟩, rfl⟩, rfl⟩, rfl⟩, rfl⟩, rfl⟩
end Go.Proofs.YtjoflnnomebkpaaDoor.fnTorn
