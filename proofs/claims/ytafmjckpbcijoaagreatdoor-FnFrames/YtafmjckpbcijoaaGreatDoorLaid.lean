/-
  What 'laid' gives: six sentinels, a handle; the variables read as tokens.
-/
import Derived.Test.YtafmjckpbcijoaaGreatDoorCodes
import Derived.Test.YtafmjckpbcijoaaGreatDoorTie
import Derived.Test.YtafmjckpbcijoaaGreatDoorCards
import Derived.LaidLaws
import Derived.LaidSub
import Derived.LaidHandle
import Derived.Stop.LaidErr
import Derived.WalkSmall
namespace Go.Proofs.YtafmjckpbcijoaaGreatDoor
open Go.ChangeShapes Go.WideShapes Go.RowKit
set_option linter.unusedVariables false
set_option linter.unusedSimpArgs false

theorem globerrSize : Tryz.prog.globalNamed "loop.example/s01586/impl.errSize" = some 2 := by kernel_rfl
theorem globTerrSize : (Tryz.prog.globals[2]?).map (·.type) = some 80 := by kernel_rfl
theorem globerrLength : Tryz.prog.globalNamed "loop.example/s01586/impl.errLength" = some 3 := by kernel_rfl
theorem globTerrLength : (Tryz.prog.globals[3]?).map (·.type) = some 80 := by kernel_rfl
theorem globerrSum : Tryz.prog.globalNamed "loop.example/s01586/impl.errSum" = some 4 := by kernel_rfl
theorem globTerrSum : (Tryz.prog.globals[4]?).map (·.type) = some 80 := by kernel_rfl
theorem globerrKind : Tryz.prog.globalNamed "loop.example/s01586/impl.errKind" = some 0 := by kernel_rfl
theorem globTerrKind : (Tryz.prog.globals[0]?).map (·.type) = some 80 := by kernel_rfl
theorem globerrShape : Tryz.prog.globalNamed "loop.example/s01586/impl.errShape" = some 5 := by kernel_rfl
theorem globTerrShape : (Tryz.prog.globals[5]?).map (·.type) = some 80 := by kernel_rfl
theorem globerrValue : Tryz.prog.globalNamed "loop.example/s01586/impl.errValue" = some 1 := by kernel_rfl
theorem globTerrValue : (Tryz.prog.globals[1]?).map (·.type) = some 80 := by kernel_rfl
theorem globErrorType : Tryz.prog.globalNamed "errors.errorType" = some 6 := by kernel_rfl
theorem cellsErr : Tryz.prog.cellsOf 188 = 1 := by kernel_rfl
theorem cellsStr : Tryz.prog.cellsOf 9 = 1 := by kernel_rfl
theorem starName : "*" ++ "errors.errorString" = "*errors.errorString" := by decide
theorem ptrName (u : TypeId) (h : Tryz.prog.typeName? 3 u = some "*errors.errorString") : u = 160 :=
  typeName_ptr_named (nm := "errors.errorString") (by rw [starName]; kernel_rfl) (by kernel_rfl) (by decide) u (by rw [starName]; exact h)
theorem rtypeRow : (Tryz.prog.cutTypes.find? (·.1 == "internal/reflectlite.rtype")).map (·.2) = some 145 := by kernel_rfl
theorem errorRow : ((List.range 200).filter fun t => Tryz.prog.rowNamed t [101, 114, 114, 111, 114]) = [80] := by kernel_rfl
theorem typesSize : Tryz.prog.types.size = 200 := by kernel_rfl

def laid6 : List (String × DataW Unit) := [("loop.example/s01586/impl.errSize", Rows.laid_loop_example_s01586_impl_errSize), ("loop.example/s01586/impl.errLength", Rows.laid_loop_example_s01586_impl_errLength), ("loop.example/s01586/impl.errSum", Rows.laid_loop_example_s01586_impl_errSum), ("loop.example/s01586/impl.errKind", Rows.laid_loop_example_s01586_impl_errKind), ("loop.example/s01586/impl.errShape", Rows.laid_loop_example_s01586_impl_errShape), ("loop.example/s01586/impl.errValue", Rows.laid_loop_example_s01586_impl_errValue)]
def laid7 : List (String × DataW Unit) := ("errors.errorType", Rows.laid_errors_errorType) :: laid6
theorem laid7_plain : (laid7.filter fun x => x.2.handleName?.isNone) = laid6 := by kernel_rfl
theorem laid7_handle : (laid7.filter fun x => x.2.handleName?.isSome) = [("errors.errorType", Rows.laid_errors_errorType)] := by kernel_rfl

/-- the handle's cell -/
theorem handle_of_laid {W : World} (h : handlesMet Tryz.prog [("errors.errorType", Rows.laid_errors_errorType)] W) : W.cell? ⟨6, 0, none⟩ = some (.iface 145 (.agg #[.pointer (some ⟨7, 80, none⟩)])) := by
  obtain ⟨name, u, ty, e1, e2, e3, e4, e5⟩ := h _ (List.mem_singleton.2 rfl)
  have en : name = [101, 114, 114, 111, 114] := (Option.some.inj e1).symm
  subst en
  obtain rfl := Option.some.inj (rtypeRow.symm.trans e2)
  have hm : ty ∈ (List.range 200).filter fun t => Tryz.prog.rowNamed t [101, 114, 114, 111, 114] := List.mem_filter.2 ⟨List.mem_range.2 (by rw [← typesSize]; exact e3), e4⟩
  rw [errorRow] at hm
  obtain rfl := List.mem_singleton.1 hm
  have hh : typeHandle Tryz.prog 80 = .pointer (some ⟨7, 80, none⟩) := by kernel_rfl
  rw [hh] at e5
  simpa using World.var?_cell globErrorType e5 0

def selA (a1 a2 a3 a4 a5 a6 : Addr) : Nat → Addr
  | 1 => a1
  | 2 => a2
  | 3 => a3
  | 4 => a4
  | 5 => a5
  | _ => a6

theorem lt_of_cells {W : World} {b : Nat} (h : ∃ c t, W.heap[b]? = some (.cells c t (0, 0))) : b < W.heap.size := by
  obtain ⟨c, t, h⟩ := h
  rcases Nat.lt_or_ge b W.heap.size with h' | h'
  · exact h'
  · simp [Array.getElem?_eq_none h'] at h

set_option maxRecDepth 100000 in
set_option maxHeartbeats 1000000 in
theorem sents_of_laid {W : World} (h : laidMetH Tryz.prog laid7 W) : ∃ A, Sents W A W.heap.size ∧
    W.var? Tryz.prog "loop.example/s01586/impl.errSize" = some #[sentV (A 1)] ∧
    W.var? Tryz.prog "loop.example/s01586/impl.errLength" = some #[sentV (A 2)] ∧
    W.var? Tryz.prog "loop.example/s01586/impl.errSum" = some #[sentV (A 3)] ∧
    W.var? Tryz.prog "loop.example/s01586/impl.errKind" = some #[sentV (A 4)] ∧
    W.var? Tryz.prog "loop.example/s01586/impl.errShape" = some #[sentV (A 5)] ∧
    W.var? Tryz.prog "loop.example/s01586/impl.errValue" = some #[sentV (A 6)] := by
  obtain ⟨h1, h2⟩ := laidMetH_iff.1 h
  rw [laid7_plain] at h1
  rw [laid7_handle] at h2
  have hty := handle_of_laid h2
  have hlt : 6 < W.heap.size := World.block_lt_of_cell? _ _ hty
  obtain ⟨ps, ⟨g1', t1', cs1, f1, p1, q1, hg1', ht1', hv1, hd1, ⟨g2', t2', cs2, f2, p2, q2, hg2', ht2', hv2, hd2, ⟨g3', t3', cs3, f3, p3, q3, hg3', ht3', hv3, hd3, ⟨g4', t4', cs4, f4, p4, q4, hg4', ht4', hv4, hd4, ⟨g5', t5', cs5, f5, p5, q5, hg5', ht5', hv5, hd5, ⟨g6', t6', cs6, f6, p6, q6, hg6', ht6', hv6, hd6, e7', e6⟩, e5⟩, e4⟩, e3⟩, e2⟩, e1⟩, hnd, hrows⟩ := h1
  obtain rfl := Option.some.inj (globerrSize.symm.trans hg1')
  obtain rfl := Option.some.inj (globTerrSize.symm.trans ht1')
  obtain rfl := Option.some.inj (globerrLength.symm.trans hg2')
  obtain rfl := Option.some.inj (globTerrLength.symm.trans ht2')
  obtain rfl := Option.some.inj (globerrSum.symm.trans hg3')
  obtain rfl := Option.some.inj (globTerrSum.symm.trans ht3')
  obtain rfl := Option.some.inj (globerrKind.symm.trans hg4')
  obtain rfl := Option.some.inj (globTerrKind.symm.trans ht4')
  obtain rfl := Option.some.inj (globerrShape.symm.trans hg5')
  obtain rfl := Option.some.inj (globTerrShape.symm.trans ht5')
  obtain rfl := Option.some.inj (globerrValue.symm.trans hg6')
  obtain rfl := Option.some.inj (globTerrValue.symm.trans ht6')
  change q6 = [] at e7'
  subst e7'
  subst e6
  subst e5
  subst e4
  subst e3
  subst e2
  subst e1
  obtain ⟨l1⟩ := cs1
  have ok1 : ∀ u v, l1 = [.iface u v] → Value.okWide Tryz.prog W .any 0 u v := fun u v e => by
    subst e
    exact (hrows 2 0 (by simp [MemPlace.row])).2 u v (by simpa using World.var?_cell hg1' hv1 0)
  obtain ⟨l2⟩ := cs2
  have ok2 : ∀ u v, l2 = [.iface u v] → Value.okWide Tryz.prog W .any 0 u v := fun u v e => by
    subst e
    exact (hrows 3 0 (by simp [MemPlace.row])).2 u v (by simpa using World.var?_cell hg2' hv2 0)
  obtain ⟨l3⟩ := cs3
  have ok3 : ∀ u v, l3 = [.iface u v] → Value.okWide Tryz.prog W .any 0 u v := fun u v e => by
    subst e
    exact (hrows 4 0 (by simp [MemPlace.row])).2 u v (by simpa using World.var?_cell hg3' hv3 0)
  obtain ⟨l4⟩ := cs4
  have ok4 : ∀ u v, l4 = [.iface u v] → Value.okWide Tryz.prog W .any 0 u v := fun u v e => by
    subst e
    exact (hrows 0 0 (by simp [MemPlace.row])).2 u v (by simpa using World.var?_cell hg4' hv4 0)
  obtain ⟨l5⟩ := cs5
  have ok5 : ∀ u v, l5 = [.iface u v] → Value.okWide Tryz.prog W .any 0 u v := fun u v e => by
    subst e
    exact (hrows 5 0 (by simp [MemPlace.row])).2 u v (by simpa using World.var?_cell hg5' hv5 0)
  obtain ⟨l6⟩ := cs6
  have ok6 : ∀ u v, l6 = [.iface u v] → Value.okWide Tryz.prog W .any 0 u v := fun u v e => by
    subst e
    exact (hrows 1 0 (by simp [MemPlace.row])).2 u v (by simpa using World.var?_cell hg6' hv6 0)
  obtain ⟨a1, s1, rfl, _, _, _, rfl⟩ := errorString_of_trod (tp := 160) Tryz.underlying80 ptrName Tryz.underlying160 Tryz.underlying188 rfl rfl Tryz.underlying9 cellsErr cellsStr hd1 ok1
  obtain ⟨a2, s2, rfl, _, _, _, rfl⟩ := errorString_of_trod (tp := 160) Tryz.underlying80 ptrName Tryz.underlying160 Tryz.underlying188 rfl rfl Tryz.underlying9 cellsErr cellsStr hd2 ok2
  obtain ⟨a3, s3, rfl, _, _, _, rfl⟩ := errorString_of_trod (tp := 160) Tryz.underlying80 ptrName Tryz.underlying160 Tryz.underlying188 rfl rfl Tryz.underlying9 cellsErr cellsStr hd3 ok3
  obtain ⟨a4, s4, rfl, _, _, _, rfl⟩ := errorString_of_trod (tp := 160) Tryz.underlying80 ptrName Tryz.underlying160 Tryz.underlying188 rfl rfl Tryz.underlying9 cellsErr cellsStr hd4 ok4
  obtain ⟨a5, s5, rfl, _, _, _, rfl⟩ := errorString_of_trod (tp := 160) Tryz.underlying80 ptrName Tryz.underlying160 Tryz.underlying188 rfl rfl Tryz.underlying9 cellsErr cellsStr hd5 ok5
  obtain ⟨a6, s6, rfl, _, _, _, rfl⟩ := errorString_of_trod (tp := 160) Tryz.underlying80 ptrName Tryz.underlying160 Tryz.underlying188 rfl rfl Tryz.underlying9 cellsErr cellsStr hd6 ok6
  have r1 := (hrows a1.block a1.off (by simp [MemPlace.row])).1
  have c1 : W.cell? ⟨2, 0, none⟩ = some (sentV a1) := by simpa using World.var?_cell hg1' hv1 0
  have r2 := (hrows a2.block a2.off (by simp [MemPlace.row])).1
  have c2 : W.cell? ⟨3, 0, none⟩ = some (sentV a2) := by simpa using World.var?_cell hg2' hv2 0
  have r3 := (hrows a3.block a3.off (by simp [MemPlace.row])).1
  have c3 : W.cell? ⟨4, 0, none⟩ = some (sentV a3) := by simpa using World.var?_cell hg3' hv3 0
  have r4 := (hrows a4.block a4.off (by simp [MemPlace.row])).1
  have c4 : W.cell? ⟨0, 0, none⟩ = some (sentV a4) := by simpa using World.var?_cell hg4' hv4 0
  have r5 := (hrows a5.block a5.off (by simp [MemPlace.row])).1
  have c5 : W.cell? ⟨5, 0, none⟩ = some (sentV a5) := by simpa using World.var?_cell hg5' hv5 0
  have r6 := (hrows a6.block a6.off (by simp [MemPlace.row])).1
  have c6 : W.cell? ⟨1, 0, none⟩ = some (sentV a6) := by simpa using World.var?_cell hg6' hv6 0
  have n12 : a1 ≠ a2 := by rintro rfl; simp [MemPlace.row] at hnd
  have n13 : a1 ≠ a3 := by rintro rfl; simp [MemPlace.row] at hnd
  have n14 : a1 ≠ a4 := by rintro rfl; simp [MemPlace.row] at hnd
  have n15 : a1 ≠ a5 := by rintro rfl; simp [MemPlace.row] at hnd
  have n16 : a1 ≠ a6 := by rintro rfl; simp [MemPlace.row] at hnd
  have n23 : a2 ≠ a3 := by rintro rfl; simp [MemPlace.row] at hnd
  have n24 : a2 ≠ a4 := by rintro rfl; simp [MemPlace.row] at hnd
  have n25 : a2 ≠ a5 := by rintro rfl; simp [MemPlace.row] at hnd
  have n26 : a2 ≠ a6 := by rintro rfl; simp [MemPlace.row] at hnd
  have n34 : a3 ≠ a4 := by rintro rfl; simp [MemPlace.row] at hnd
  have n35 : a3 ≠ a5 := by rintro rfl; simp [MemPlace.row] at hnd
  have n36 : a3 ≠ a6 := by rintro rfl; simp [MemPlace.row] at hnd
  have n45 : a4 ≠ a5 := by rintro rfl; simp [MemPlace.row] at hnd
  have n46 : a4 ≠ a6 := by rintro rfl; simp [MemPlace.row] at hnd
  have n56 : a5 ≠ a6 := by rintro rfl; simp [MemPlace.row] at hnd
  have b1 : a1.block < W.heap.size := lt_of_cells r1
  have b2 : a2.block < W.heap.size := lt_of_cells r2
  have b3 : a3.block < W.heap.size := lt_of_cells r3
  have b4 : a4.block < W.heap.size := lt_of_cells r4
  have b5 : a5.block < W.heap.size := lt_of_cells r5
  have b6 : a6.block < W.heap.size := lt_of_cells r6
  clear hnd hrows
  refine ⟨(selA a1 a2 a3 a4 a5 a6), ⟨c1, c2, c3, c4, c5, c6, hty, fun i h1 h6 => ?_, fun i j h1 h6 k1 k6 hij => ?_, by omega, fun i h1 h6 => ?_, Nat.le_refl _⟩, hv1, hv2, hv3, hv4, hv5, hv6⟩
  · rcases (show i = 1 ∨ i = 2 ∨ i = 3 ∨ i = 4 ∨ i = 5 ∨ i = 6 by omega) with rfl | rfl | rfl | rfl | rfl | rfl
    · exact r1
    · exact r2
    · exact r3
    · exact r4
    · exact r5
    · exact r6
  · rcases (show i = 1 ∨ i = 2 ∨ i = 3 ∨ i = 4 ∨ i = 5 ∨ i = 6 by omega) with rfl | rfl | rfl | rfl | rfl | rfl <;>
    rcases (show j = 1 ∨ j = 2 ∨ j = 3 ∨ j = 4 ∨ j = 5 ∨ j = 6 by omega) with rfl | rfl | rfl | rfl | rfl | rfl <;>
    first
      | exact absurd rfl hij
      | (simp only [selA, ne_eq]; first
          | exact n12 | exact Ne.symm n12
          | exact n13 | exact Ne.symm n13
          | exact n14 | exact Ne.symm n14
          | exact n15 | exact Ne.symm n15
          | exact n16 | exact Ne.symm n16
          | exact n23 | exact Ne.symm n23
          | exact n24 | exact Ne.symm n24
          | exact n25 | exact Ne.symm n25
          | exact n26 | exact Ne.symm n26
          | exact n34 | exact Ne.symm n34
          | exact n35 | exact Ne.symm n35
          | exact n36 | exact Ne.symm n36
          | exact n45 | exact Ne.symm n45
          | exact n46 | exact Ne.symm n46
          | exact n56 | exact Ne.symm n56)
  · rcases (show i = 1 ∨ i = 2 ∨ i = 3 ∨ i = 4 ∨ i = 5 ∨ i = 6 by omega) with rfl | rfl | rfl | rfl | rfl | rfl
    · exact b1
    · exact b2
    · exact b3
    · exact b4
    · exact b5
    · exact b6

/-- the six variables in the row's order, read as tokens, in whatever world holds them so -/
theorem vars_read6 {H : Type} (enc : TypeId × Value → H) {X : World} {A : Nat → Addr}
    (x1 : X.var? Tryz.prog "loop.example/s01586/impl.errSize" = some #[sentV (A 1)])
    (x2 : X.var? Tryz.prog "loop.example/s01586/impl.errLength" = some #[sentV (A 2)])
    (x3 : X.var? Tryz.prog "loop.example/s01586/impl.errSum" = some #[sentV (A 3)])
    (x4 : X.var? Tryz.prog "loop.example/s01586/impl.errKind" = some #[sentV (A 4)])
    (x5 : X.var? Tryz.prog "loop.example/s01586/impl.errShape" = some #[sentV (A 5)])
    (x6 : X.var? Tryz.prog "loop.example/s01586/impl.errValue" = some #[sentV (A 6)]) (sp : Nat → Bool) :
    DataW.TrodVars enc Tryz.prog X sp ["loop.example/s01586/impl.errKind", "loop.example/s01586/impl.errValue", "loop.example/s01586/impl.errSize", "loop.example/s01586/impl.errLength", "loop.example/s01586/impl.errSum", "loop.example/s01586/impl.errShape"]
      [tok enc (sentV (A 4)), tok enc (sentV (A 6)), tok enc (sentV (A 1)), tok enc (sentV (A 2)), tok enc (sentV (A 3)), tok enc (sentV (A 5))]
      [.cell 0 0, .cell 1 0, .cell 2 0, .cell 3 0, .cell 4 0, .cell 5 0] :=
  ⟨_, _, _, 1, [], _, globerrKind, globTerrKind, x4, trod_held (v := sentV (A 4)) Tryz.underlying80 trivial 0,
   ⟨_, _, _, 1, [], _, globerrValue, globTerrValue, x6, trod_held (v := sentV (A 6)) Tryz.underlying80 trivial 0,
    ⟨_, _, _, 1, [], _, globerrSize, globTerrSize, x1, trod_held (v := sentV (A 1)) Tryz.underlying80 trivial 0,
     ⟨_, _, _, 1, [], _, globerrLength, globTerrLength, x2, trod_held (v := sentV (A 2)) Tryz.underlying80 trivial 0,
      ⟨_, _, _, 1, [], _, globerrSum, globTerrSum, x3, trod_held (v := sentV (A 3)) Tryz.underlying80 trivial 0,
       ⟨_, _, _, 1, [], _, globerrShape, globTerrShape, x5, trod_held (v := sentV (A 5)) Tryz.underlying80 trivial 0, rfl, rfl⟩, rfl⟩, rfl⟩, rfl⟩, rfl⟩, rfl⟩
end Go.Proofs.YtafmjckpbcijoaaGreatDoor
