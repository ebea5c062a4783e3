/-
  What 'laid' and the world's shape give tq ParseScript: the tables, the sentinels, a bound.
-/
import Derived.Test.YtanpindbhdeomaaGreatDoorParseScriptLaw
import Derived.Test.YtanpindbhdeomaaGreatDoorTie
import Derived.Test.YtanpindbhdeomaaGreatDoorCards
import Derived.LaidEql
import Derived.Stop.Asserts
import Derived.RowKitTokens
import Derived.LaidLaws
import Derived.LaidSub
import Derived.LaidHandle
import Derived.Stop.LaidErr
import Derived.WalkSmall
import Derived.OpenShut
import Derived.ChangeArms
import Derived.Shelf.Vars
namespace Go.Proofs.YtanpindbhdeomaaGreatDoor.fnParseScript
open Go.ChangeShapes Go.WideShapes Go.RowKit Go.Extern.Stop Go.Stop Go.Extern
set_option linter.unusedVariables false
set_option linter.unusedSimpArgs false

theorem globF : Tryz.prog.globalNamed "loop.example/s01586/impl.stepForms" = some 0 := by kernel_rfl
theorem globTF : (Tryz.prog.globals[0]?).map (·.type) = some 93 := by kernel_rfl
theorem globW : Tryz.prog.globalNamed "loop.example/s01586/impl.askWords" = some 2 := by kernel_rfl
theorem globTW : (Tryz.prog.globals[2]?).map (·.type) = some 105 := by kernel_rfl
theorem globTR : (Tryz.prog.globals[6]?).map (·.type) = some 87 := by kernel_rfl
theorem globTS : (Tryz.prog.globals[5]?).map (·.type) = some 87 := by kernel_rfl
theorem cellsF : Tryz.prog.cellsOf 92 = 4 := by kernel_rfl
theorem cellsFA : Tryz.prog.cellsOf 93 = 60 := by kernel_rfl
theorem cellsN3 : Tryz.prog.cellsOf 90 = 3 := by kernel_rfl
theorem cellsWA : Tryz.prog.cellsOf 105 = 5 := by kernel_rfl
theorem cellsI3 : Tryz.prog.cellsOf 3 = 1 := by kernel_rfl
theorem cellsS9 : Tryz.prog.cellsOf 9 = 1 := by kernel_rfl
theorem cellsErr : Tryz.prog.cellsOf 132 = 1 := by kernel_rfl
theorem cellsStr : Tryz.prog.cellsOf 9 = 1 := by kernel_rfl
theorem starName : "*" ++ "errors.errorString" = "*errors.errorString" := by decide
theorem ptrName (u : TypeId) (h : Tryz.prog.typeName? 3 u = some "*errors.errorString") : u = 130 :=
  typeName_ptr_named (nm := "errors.errorString") (by rw [starName]; kernel_rfl) (by kernel_rfl) (by decide) u (by rw [starName]; exact h)
def laidL : List (String × DataW Unit) := [("math/bits.deBruijn32tab", Rows.laid_math_bits_deBruijn32tab), ("math/bits.deBruijn64tab", Rows.laid_math_bits_deBruijn64tab), ("internal/strconv.uint64pow10", Rows.laid_internal_strconv_uint64pow10), ("unicode/utf8.acceptRanges", Rows.laid_unicode_utf8_acceptRanges), ("strconv.ErrRange", Rows.laid_strconv_ErrRange), ("strconv.ErrSyntax", Rows.laid_strconv_ErrSyntax), ("loop.example/s01586/impl.stepForms", Rows.laid_loop_example_s01586_impl_stepForms), ("loop.example/s01586/impl.askWords", Rows.laid_loop_example_s01586_impl_askWords), ("unicode/utf8.first", Rows.laid_unicode_utf8_first)]
theorem laidL_plain : (laidL.filter fun x => x.2.handleName?.isNone) = laidL := by kernel_rfl

/-- a form as a datum -/
def fD (s : List UInt8) (a b c : Int) : DataW Unit := .agg [.lit (.string s), .agg [.lit (.int .i64 a), .lit (.int .i64 b), .lit (.int .i64 c)]]
def formsL : List (DataW Unit) := fD [] 0 0 0 :: [1, 2, 3, 4, 5, 6, 7, 8, 9, 10, 11, 12, 13, 14].map fun (i : Int) => fD (wordK i) (nk0 i) (nk1 i) (nk2 i)
theorem forms_laid : (Rows.laid_loop_example_s01586_impl_stepForms : DataW Unit) = .agg formsL := by kernel_rfl
def wordsL : List (DataW Unit) := [.lit (.string []), .lit (.string (opK 1)), .lit (.string (opK 2)), .lit (.string (opK 3)), .lit (.string (opK 4))]
theorem words_laid : (Rows.laid_loop_example_s01586_impl_askWords : DataW Unit) = .agg wordsL := by kernel_rfl
theorem forms_at (k : Nat) (h : k < 15) : ∃ s a b c, formsL[k]? = some (fD s a b c) ∧ (formC.toList.drop (k * 4)).take 4 = [.string (sOf s), .int .i64 a, .int .i64 b, .int .i64 c] := by
  rcases (show k = 0 ∨ k = 1 ∨ k = 2 ∨ k = 3 ∨ k = 4 ∨ k = 5 ∨ k = 6 ∨ k = 7 ∨ k = 8 ∨ k = 9 ∨ k = 10 ∨ k = 11 ∨ k = 12 ∨ k = 13 ∨ k = 14 by omega) with rfl | rfl | rfl | rfl | rfl | rfl | rfl | rfl | rfl | rfl | rfl | rfl | rfl | rfl | rfl <;> exact ⟨_, _, _, _, rfl, rfl⟩
theorem words_at (k : Nat) (h : k < 5) : ∃ s, wordsL[k]? = some (.lit (.string s)) ∧ wordC.toList[k]? = some (.string (sOf s)) := by
  rcases (show k = 0 ∨ k = 1 ∨ k = 2 ∨ k = 3 ∨ k = 4 by omega) with rfl | rfl | rfl | rfl | rfl <;> exact ⟨_, rfl, rfl⟩
theorem chunks {l m : List Value} (hl : l.length = 60) (hm : m.length = 60) (h : ∀ k, k < 15 → (l.drop (k * 4)).take 4 = (m.drop (k * 4)).take 4) : l = m := by
  apply List.ext_getElem?
  intro i
  by_cases hi : i < 60
  · have h1 := congrArg (·[i % 4]?) (h (i / 4) (by omega))
    simp only [List.getElem?_take, List.getElem?_drop] at h1
    rw [if_pos (by omega), if_pos (by omega)] at h1
    have e : i / 4 * 4 + i % 4 = i := by omega
    rw [e] at h1
    exact h1
  · rw [List.getElem?_eq_none (by omega), List.getElem?_eq_none (by omega)]

section
variable {W : World}
theorem get_map {α β : Type} {f : α → β} {l : List α} {m : List β} (h : l.map f = m) {i : Nat} {b : β} (hb : m[i]? = some b) : ∃ a, l[i]? = some a ∧ f a = b := by
  rw [← h, List.getElem?_map] at hb
  exact Option.map_eq_some_iff.1 hb
set_option maxRecDepth 100000 in
theorem form_cells {fuel : Nat} {cs : List Value} {s : List UInt8} {a b c : Int} {p : List MemPlace} (h : DataW.trod (fun _ => ()) Tryz.prog W 0 (fun _ => true) false fuel 92 cs = some (fD s a b c, p)) :
    cs = [.string (sOf s), .int .i64 a, .int .i64 b, .int .i64 c] := by
  obtain ⟨xs, n, _, hx, hl, hlen, hg⟩ := DataW.trod_struct Tryz.underlying92 h
  have hl4 : cs.length = 4 := hl.trans cellsF
  match cs, hl4 with
  | [c0, c1, c2, c3], _ =>
    have hlen' : xs.length = 2 := hlen
    have g0 := hg 0 _ rfl
    have g1 := hg 1 _ rfl
    have hd : xs.map (·.1) = [.lit (.string s), .agg [.lit (.int .i64 a), .lit (.int .i64 b), .lit (.int .i64 c)]] := by
      have := congrArg Prod.fst hx
      simp only [fD, DataW.agg.injEq] at this
      exact this.symm
    obtain ⟨y0, hy0, hy0'⟩ := get_map hd (i := 0) rfl
    obtain ⟨y1, hy1, hy1'⟩ := get_map hd (i := 1) rfl
    rw [hy0] at g0
    rw [hy1] at g1
    obtain ⟨t, e0, ex, _⟩ := DataW.trod_string Tryz.underlying9 g0
    obtain ⟨y00, y01⟩ := y0
    obtain ⟨y10, y11⟩ := y1
    simp only at hy0' hy1'
    subst hy0' hy1'
    have g1' : DataW.trod (fun _ => ()) Tryz.prog W 0 (fun _ => true) false n 90 [c1, c2, c3] = some (.agg [.lit (.int .i64 a), .lit (.int .i64 b), .lit (.int .i64 c)], y11) := by simpa [cellsN3] using g1
    obtain ⟨zs, m, _, hz, hzl, hzn, hzg⟩ := DataW.trod_array Tryz.underlying90 g1'
    have hd2 : zs.map (·.1) = [.lit (.int .i64 a), .lit (.int .i64 b), .lit (.int .i64 c)] := by
      have := congrArg Prod.fst hz
      simp only [DataW.agg.injEq] at this
      exact this.symm
    have k0 := hzg 0 (by omega)
    have k1 := hzg 1 (by omega)
    have k2 := hzg 2 (by omega)
    obtain ⟨z0, hz0, hz0'⟩ := get_map hd2 (i := 0) rfl
    obtain ⟨z1, hz1, hz1'⟩ := get_map hd2 (i := 1) rfl
    obtain ⟨z2, hz2, hz2'⟩ := get_map hd2 (i := 2) rfl
    rw [hz0] at k0
    rw [hz1] at k1
    rw [hz2] at k2
    obtain ⟨n0, f0, x0, _⟩ := DataW.trod_int Tryz.underlying3 k0
    obtain ⟨n1, f1, x1, _⟩ := DataW.trod_int Tryz.underlying3 k1
    obtain ⟨n2, f2, x2, _⟩ := DataW.trod_int Tryz.underlying3 k2
    subst x0 x1 x2
    simp only [DataW.lit.injEq, Lit.int.injEq, true_and] at hz0' hz1' hz2'
    subst hz0' hz1' hz2'
    simp [cellsI3] at f0 f1 f2
    have es : t = sOf s := by
      have := congrArg Prod.fst ex
      simp only [DataW.lit.injEq, Lit.string.injEq] at this
      rw [this, sOf_list]
    simp [cellsS9] at e0
    rw [e0, f0, f1, f2, es]
theorem row_of {g : Nat} {nm : String} {cs : Array Value} (hg : Tryz.prog.globalNamed nm = some g) (hv : W.var? Tryz.prog nm = some cs) (hr : ∃ c t, W.heap[g]? = some (.cells c t (0, 0))) : ∃ t, Blk W g cs t := by
  obtain ⟨c, t, hh⟩ := hr
  unfold World.var? at hv
  rw [hg] at hv
  simp only [Option.bind_some, hh] at hv
  refine ⟨t, ?_⟩
  unfold Blk
  rw [hh]
  simp at hv
  rw [hv]
theorem max_of (h : W.ShapedOpen Tryz.prog) : ∃ m, W.cell? ⟨laidP146_ren.g 1, 0, none⟩ = some (.int .i64 m) :=
  Go.Proofs.cell_of_shapedOpen_int (zero := #[.int .i64 0]) (t := 3) h (of_decide_eq_true (by kernel_rfl)) (by kernel_rfl) rfl (by kernel_rfl) (by kernel_rfl) Tryz.underlying3
set_option maxRecDepth 100000 in
set_option maxHeartbeats 4000000 in
theorem env_of (h : laidMetH Tryz.prog laidL W) (hsh : W.ShapedOpen Tryz.prog) : EnvP W := by
  obtain ⟨h1, h2⟩ := laidMetH_iff.1 h
  rw [laidL_plain] at h1
  obtain ⟨ps, ⟨g1', t1', cs1, f1, p1, q1, hg1', ht1', hv1, hd1, ⟨g2', t2', cs2, f2, p2, q2, hg2', ht2', hv2, hd2, ⟨g3', t3', cs3, f3, p3, q3, hg3', ht3', hv3, hd3, ⟨g4', t4', cs4, f4, p4, q4, hg4', ht4', hv4, hd4, ⟨g5', t5', cs5, f5, p5, q5, hg5', ht5', hv5, hd5, ⟨g6', t6', cs6, f6, p6, q6, hg6', ht6', hv6, hd6, ⟨g7', t7', cs7, f7, p7, q7, hg7', ht7', hv7, hd7, ⟨g8', t8', cs8, f8, p8, q8, hg8', ht8', hv8, hd8, ⟨g9', t9', cs9, f9, p9, q9, hg9', ht9', hv9, hd9, e0, e9⟩, e8⟩, e7⟩, e6⟩, e5⟩, e4⟩, e3⟩, e2⟩, e1⟩, hnd, hrows⟩ := h1
  clear hnd hd1 hd2 hd3 hd4 hd9 hv1 hv2 hv3 hv4 hv9
  obtain rfl := Option.some.inj (globRng.symm.trans hg5')
  obtain rfl := Option.some.inj (globTR.symm.trans ht5')
  obtain rfl := Option.some.inj (globSyn.symm.trans hg6')
  obtain rfl := Option.some.inj (globTS.symm.trans ht6')
  obtain rfl := Option.some.inj (globF.symm.trans hg7')
  obtain rfl := Option.some.inj (globTF.symm.trans ht7')
  obtain rfl := Option.some.inj (globW.symm.trans hg8')
  obtain rfl := Option.some.inj (globTW.symm.trans ht8')
  subst e0 e9 e8 e7 e6 e5 e4 e3 e2 e1
  have ok5 : ∀ u v, cs5.toList = [.iface u v] → Value.okWide Tryz.prog W .any 0 u v := fun u v e => by
    have hs : cs5.size = 1 := by rw [← Array.length_toList, e]; rfl
    refine (hrows 6 0 (by simp [MemPlace.row, hs])).2 u v ?_
    rw [World.var?_cell hg5' hv5 0, ← Array.getElem?_toList, e]; rfl
  have ok6 : ∀ u v, cs6.toList = [.iface u v] → Value.okWide Tryz.prog W .any 0 u v := fun u v e => by
    have hs : cs6.size = 1 := by rw [← Array.length_toList, e]; rfl
    refine (hrows 5 0 (by simp [MemPlace.row, hs])).2 u v ?_
    rw [World.var?_cell hg6' hv6 0, ← Array.getElem?_toList, e]; rfl
  obtain ⟨a5, s5, x5, _⟩ := errorString_of_trod (tp := 130) Tryz.underlying87 ptrName Tryz.underlying130 Tryz.underlying132 rfl rfl Tryz.underlying9 cellsErr cellsStr hd5 ok5
  obtain ⟨a6, s6, x6, _⟩ := errorString_of_trod (tp := 130) Tryz.underlying87 ptrName Tryz.underlying130 Tryz.underlying132 rfl rfl Tryz.underlying9 cellsErr cellsStr hd6 ok6
  rw [forms_laid] at hd7
  rw [words_laid] at hd8
  obtain ⟨xs, n, _, hx, hl, hlen, hg⟩ := DataW.trod_array Tryz.underlying93 hd7
  have hxd : xs.map (·.1) = formsL := by
    have := congrArg Prod.fst hx
    simp only [DataW.agg.injEq] at this
    exact this.symm
  have hF : cs7 = formC := by
    apply Array.toList_inj.1
    refine chunks (hl.trans cellsFA) rfl fun k hk => ?_
    obtain ⟨s, a, b, c, hf, hc⟩ := forms_at k hk
    obtain ⟨y, hy, hy'⟩ := get_map hxd hf
    have hk2 := hg k (by omega)
    rw [hy, cellsF] at hk2
    obtain ⟨y0, y1⟩ := y
    simp only at hy'
    subst hy'
    rw [hc]
    exact form_cells hk2
  obtain ⟨ys, m, _, hyx, hyl, hylen, hyg⟩ := DataW.trod_array Tryz.underlying105 hd8
  have hyd : ys.map (·.1) = wordsL := by
    have := congrArg Prod.fst hyx
    simp only [DataW.agg.injEq] at this
    exact this.symm
  have hW : cs8 = wordC := by
    apply Array.toList_inj.1
    apply List.ext_getElem?
    intro k
    by_cases hk : k < 5
    · obtain ⟨s, hf, hc⟩ := words_at k hk
      obtain ⟨y, hy, hy'⟩ := get_map hyd hf
      have hk2 := hyg k (by omega)
      rw [hy, cellsS9] at hk2
      obtain ⟨t, e0, ex, _⟩ := DataW.trod_string Tryz.underlying9 hk2
      subst ex
      simp only [DataW.lit.injEq, Lit.string.injEq] at hy'
      have h3 := congrArg (·[0]?) e0
      simp [List.getElem?_take, List.getElem?_drop] at h3
      rw [hc, ← hy', sOf_list]
      simpa using h3
    · have hl5 : cs8.toList.length = 5 := hyl.trans cellsWA
      rw [List.getElem?_eq_none (by omega), List.getElem?_eq_none (by show 5 ≤ k; omega)]
  have hF0 : 0 < formC.size := by decide
  have hW0 : 0 < wordC.size := by decide
  subst hF hW
  have r7 := (hrows 0 0 (by simp [MemPlace.row, hF0, hW0])).1
  have r8 := (hrows 2 0 (by simp [MemPlace.row, hF0, hW0])).1
  exact ⟨⟨⟨_, _, by rw [hv6]; exact congrArg some (Array.toList_inj.1 x6)⟩, ⟨_, _, by rw [hv5]; exact congrArg some (Array.toList_inj.1 x5)⟩⟩, ⟨row_of hg7' hv7 r7, row_of hg8' hv8 r8⟩, max_of hsh⟩
end
end Go.Proofs.YtanpindbhdeomaaGreatDoor.fnParseScript
