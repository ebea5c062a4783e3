/-
  What 'laid' gives tq TellScript: the tables.
-/
import Derived.Test.YtabnanmfojppjaaDoorTellScriptLaw
import Derived.Test.YtabnanmfojppjaaDoorTie
import Derived.Test.YtabnanmfojppjaaDoorCards
import Derived.LaidEql
import Derived.LaidLaws
import Derived.LaidSub
import Derived.OpenShut
import Derived.ChangeArms
import Derived.Lib.LaidTab
namespace Go.Proofs.YtabnanmfojppjaaDoor.fnTellScript
open Go.ChangeShapes Go.WideShapes Go.RowKit
set_option linter.unusedVariables false
set_option linter.unusedSimpArgs false

theorem globF : Tryd.prog.globalNamed "loop.example/s01586/impl.stepForms" = some 1 := by kernel_rfl
theorem globTF : (Tryd.prog.globals[1]?).map (·.type) = some 96 := by kernel_rfl
theorem globW : Tryd.prog.globalNamed "loop.example/s01586/impl.askWords" = some 0 := by kernel_rfl
theorem globTW : (Tryd.prog.globals[0]?).map (·.type) = some 88 := by kernel_rfl
theorem globTP : (Tryd.prog.globals[2]?).map (·.type) = some 123 := by kernel_rfl
theorem cellsF : Tryd.prog.cellsOf 95 = 4 := by kernel_rfl
theorem cellsFA : Tryd.prog.cellsOf 96 = 60 := by kernel_rfl
theorem cellsN3 : Tryd.prog.cellsOf 93 = 3 := by kernel_rfl
theorem cellsWA : Tryd.prog.cellsOf 88 = 5 := by kernel_rfl
theorem cellsP : Tryd.prog.cellsOf 123 = 20 := by kernel_rfl
theorem cells64 : Tryd.prog.cellsOf 114 = 1 := by kernel_rfl
theorem cellsI3 : Tryd.prog.cellsOf 3 = 1 := by kernel_rfl
theorem cellsS9 : Tryd.prog.cellsOf 9 = 1 := by kernel_rfl
def laidL : List (String × DataW Unit) := [("math/bits.deBruijn32tab", Rows.laid_math_bits_deBruijn32tab), ("math/bits.deBruijn64tab", Rows.laid_math_bits_deBruijn64tab), ("internal/strconv.uint64pow10", Rows.laid_internal_strconv_uint64pow10), ("loop.example/s01586/impl.stepForms", Rows.laid_loop_example_s01586_impl_stepForms), ("loop.example/s01586/impl.askWords", Rows.laid_loop_example_s01586_impl_askWords)]
theorem laidL_plain : (laidL.filter fun x => x.2.handleName?.isNone) = laidL := by kernel_rfl

/-- a form as a datum -/
def fD (s : List UInt8) (a b c : Int) : DataW Unit := .agg [.lit (.string s), .agg [.lit (.int .i64 a), .lit (.int .i64 b), .lit (.int .i64 c)]]
def formsL : List (DataW Unit) := fD [] 0 0 0 :: [1, 2, 3, 4, 5, 6, 7, 8, 9, 10, 11, 12, 13, 14].map fun (i : Int) => fD (wordK i) (nk0 i) (nk1 i) (nk2 i)
theorem forms_laid : (Rows.laid_loop_example_s01586_impl_stepForms : DataW Unit) = .agg formsL := by kernel_rfl
theorem forms_at (kd : Int) (h1 : 1 ≤ kd) (h2 : kd ≤ 14) : formsL[kd.toNat]? = some (fD (wordK kd) (nk0 kd) (nk1 kd) (nk2 kd)) := by
  rcases kd_casesI h1 h2 with rfl | rfl | rfl | rfl | rfl | rfl | rfl | rfl | rfl | rfl | rfl | rfl | rfl | rfl <;> rfl
def wordsL : List (DataW Unit) := [.lit (.string []), .lit (.string (opK 1)), .lit (.string (opK 2)), .lit (.string (opK 3)), .lit (.string (opK 4))]
theorem words_laid : (Rows.laid_loop_example_s01586_impl_askWords : DataW Unit) = .agg wordsL := by kernel_rfl
theorem words_at (op : Int) (h1 : 1 ≤ op) (h2 : op ≤ 4) : wordsL[op.toNat]? = some (.lit (.string (opK op))) := by
  rcases (show op = 1 ∨ op = 2 ∨ op = 3 ∨ op = 4 by omega) with rfl | rfl | rfl | rfl <;> rfl
theorem pow_laid : (Rows.laid_internal_strconv_uint64pow10 : DataW Unit) = Lib.tabData .u64 Lib.pow10Tab := by kernel_rfl

section
variable {W : World}
theorem get_map {α β : Type} {f : α → β} {l : List α} {m : List β} (h : l.map f = m) {i : Nat} {b : β} (hb : m[i]? = some b) : ∃ a, l[i]? = some a ∧ f a = b := by
  rw [← h, List.getElem?_map] at hb
  exact Option.map_eq_some_iff.1 hb
set_option maxRecDepth 100000 in
theorem form_cells {fuel : Nat} {cs : List Value} {s : List UInt8} {a b c : Int} {p : List MemPlace} (h : DataW.trod (fun _ => ()) Tryd.prog W 0 (fun _ => true) false fuel 95 cs = some (fD s a b c, p)) :
    cs = [.string (sOf s), .int .i64 a, .int .i64 b, .int .i64 c] := by
  obtain ⟨xs, n, _, hx, hl, hlen, hg⟩ := DataW.trod_struct Tryd.underlying95 h
  have hl4 : cs.length = 4 := hl.trans cellsF
  match cs, hl4 with
  | [c0, c1, c2, c3], _ =>
    have hlen' : xs.length = 2 := hlen
    have g0 := hg 0 _ rfl
    have g1 := hg 1 _ rfl
    have hd : xs.map (·.1) = [.lit (.string s), .agg [.lit (.int .i64 a), .lit (.int .i64 b), .lit (.int .i64 c)]] := by
      have := congrArg Prod.fst hx
      simp only [fD, DataW.agg.injEq] at this
      exact this.symm
    obtain ⟨y0, hy0, hy0'⟩ := get_map hd (i := 0) rfl
    obtain ⟨y1, hy1, hy1'⟩ := get_map hd (i := 1) rfl
    rw [hy0] at g0
    rw [hy1] at g1
    obtain ⟨t, e0, ex, _⟩ := DataW.trod_string Tryd.underlying9 g0
    obtain ⟨y00, y01⟩ := y0
    obtain ⟨y10, y11⟩ := y1
    simp only at hy0' hy1'
    subst hy0' hy1'
    have g1' : DataW.trod (fun _ => ()) Tryd.prog W 0 (fun _ => true) false n 93 [c1, c2, c3] = some (.agg [.lit (.int .i64 a), .lit (.int .i64 b), .lit (.int .i64 c)], y11) := by simpa [cellsN3] using g1
    obtain ⟨zs, m, _, hz, hzl, hzn, hzg⟩ := DataW.trod_array Tryd.underlying93 g1'
    have hd2 : zs.map (·.1) = [.lit (.int .i64 a), .lit (.int .i64 b), .lit (.int .i64 c)] := by
      have := congrArg Prod.fst hz
      simp only [DataW.agg.injEq] at this
      exact this.symm
    have k0 := hzg 0 (by omega)
    have k1 := hzg 1 (by omega)
    have k2 := hzg 2 (by omega)
    obtain ⟨z0, hz0, hz0'⟩ := get_map hd2 (i := 0) rfl
    obtain ⟨z1, hz1, hz1'⟩ := get_map hd2 (i := 1) rfl
    obtain ⟨z2, hz2, hz2'⟩ := get_map hd2 (i := 2) rfl
    rw [hz0] at k0
    rw [hz1] at k1
    rw [hz2] at k2
    obtain ⟨n0, f0, x0, _⟩ := DataW.trod_int Tryd.underlying3 k0
    obtain ⟨n1, f1, x1, _⟩ := DataW.trod_int Tryd.underlying3 k1
    obtain ⟨n2, f2, x2, _⟩ := DataW.trod_int Tryd.underlying3 k2
    subst x0 x1 x2
    simp only [DataW.lit.injEq, Lit.int.injEq, true_and] at hz0' hz1' hz2'
    subst hz0' hz1' hz2'
    simp [cellsI3] at f0 f1 f2
    have es : t = sOf s := by
      have := congrArg Prod.fst ex
      simp only [DataW.lit.injEq, Lit.string.injEq] at this
      rw [this, sOf_list]
    simp [cellsS9] at e0
    rw [e0, f0, f1, f2, es]
set_option maxRecDepth 100000 in
set_option maxHeartbeats 4000000 in
theorem tabs_of (h : laidMetH Tryd.prog laidL W) : Tabs W ∧ Lib.TabIs Tryd.prog W "internal/strconv.uint64pow10" .u64 Lib.pow10Tab := by
  obtain ⟨h1, h2⟩ := laidMetH_iff.1 h
  rw [laidL_plain] at h1
  obtain ⟨ps, ⟨g1', t1', cs1, f1, p1, q1, hg1', ht1', hv1, hd1, ⟨g2', t2', cs2, f2, p2, q2, hg2', ht2', hv2, hd2, ⟨g3', t3', cs3, f3, p3, q3, hg3', ht3', hv3, hd3, ⟨g4', t4', cs4, f4, p4, q4, hg4', ht4', hv4, hd4, ⟨g5', t5', cs5, f5, p5, q5, hg5', ht5', hv5, hd5, e0, e5⟩, e4⟩, e3⟩, e2⟩, e1⟩, hnd, hrows⟩ := h1
  clear hnd hrows hd1 hd2
  obtain rfl := Option.some.inj (globPow.symm.trans hg3')
  obtain rfl := Option.some.inj (globTP.symm.trans ht3')
  obtain rfl := Option.some.inj (globF.symm.trans hg4')
  obtain rfl := Option.some.inj (globTF.symm.trans ht4')
  obtain rfl := Option.some.inj (globW.symm.trans hg5')
  obtain rfl := Option.some.inj (globTW.symm.trans ht5')
  rw [forms_laid] at hd4
  rw [words_laid] at hd5
  rw [pow_laid] at hd3
  have hpow : Lib.TabIs Tryd.prog W "internal/strconv.uint64pow10" .u64 Lib.pow10Tab := by
    unfold Lib.TabIs
    rw [hv3, ← Lib.cells_of_tab Tryd.underlying123 Tryd.underlying114 cells64 cellsP hd3]
  obtain ⟨xs, n, _, hx, hl, hlen, hg⟩ := DataW.trod_array Tryd.underlying96 hd4
  have hxd : xs.map (·.1) = formsL := by
    have := congrArg Prod.fst hx
    simp only [DataW.agg.injEq] at this
    exact this.symm
  have hF : ∀ kd : Int, 1 ≤ kd → kd ≤ 14 → (cs4.toList.drop (kd.toNat * 4)).take 4 = [.string (sOf (wordK kd)), .int .i64 (nk0 kd), .int .i64 (nk1 kd), .int .i64 (nk2 kd)] := fun kd k1 k2 => by
    obtain ⟨y, hy, hy'⟩ := get_map hxd (forms_at kd k1 k2)
    have hk := hg kd.toNat (by omega)
    rw [hy, cellsF] at hk
    obtain ⟨y0, y1⟩ := y
    simp only at hy'
    subst hy'
    exact form_cells hk
  obtain ⟨ys, m, _, hyx, hyl, hylen, hyg⟩ := DataW.trod_array Tryd.underlying88 hd5
  have hyd : ys.map (·.1) = wordsL := by
    have := congrArg Prod.fst hyx
    simp only [DataW.agg.injEq] at this
    exact this.symm
  have hW : ∀ op : Int, 1 ≤ op → op ≤ 4 → cs5.toList[op.toNat]? = some (.string (sOf (opK op))) := fun op k1 k2 => by
    obtain ⟨y, hy, hy'⟩ := get_map hyd (words_at op k1 k2)
    have hk := hyg op.toNat (by omega)
    rw [hy, cellsS9] at hk
    obtain ⟨t, e0, ex, _⟩ := DataW.trod_string Tryd.underlying9 hk
    subst ex
    simp only [DataW.lit.injEq, Lit.string.injEq] at hy'
    have h3 := congrArg (·[0]?) e0
    simp [List.getElem?_take, List.getElem?_drop] at h3
    rw [← hy', sOf_list]
    simpa using h3
  have hc : ∀ (kd : Int) (j : Nat), 1 ≤ kd → kd ≤ 14 → j < 4 → W.cell? ⟨1, kd.toNat * 4 + j, none⟩ = [Value.string (sOf (wordK kd)), .int .i64 (nk0 kd), .int .i64 (nk1 kd), .int .i64 (nk2 kd)][j]? := fun kd j k1 k2 hj => by
    rw [World.var?_cell globF hv4, ← hF kd k1 k2, List.getElem?_take, if_pos hj, List.getElem?_drop]
    simp
  refine ⟨⟨fun kd k1 k2 => hc kd 0 k1 k2 (by omega), fun kd k1 k2 => hc kd 1 k1 k2 (by omega), fun kd k1 k2 => hc kd 2 k1 k2 (by omega), fun kd k1 k2 => hc kd 3 k1 k2 (by omega), fun op k1 k2 => ?_⟩, hpow⟩
  rw [World.var?_cell globW hv5]
  have := hW op k1 k2
  simpa using this
end
end Go.Proofs.YtabnanmfojppjaaDoor.fnTellScript
