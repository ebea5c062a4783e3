/-
  Two rows of ints of one's own.
-/
import Derived.Test.YtnoihfincifphaaOwnInts
import Derived.Test.YtnoihfincifphaaLnFind
import Derived.Test.YtnoihfincifphaaLnRun
namespace Go.Proofs.Ytnoihfincifphaa
open Go.RowKit Go.Maps
set_option linter.unusedVariables false
set_option linter.unusedSimpArgs false

structure AR (w : World) (B : Nat) (va vb : Value) (la lb : List Int) : Prop where
  ia : OwnI w B va la
  ib : OwnI w B vb lb
  ap : ∀ k, va.ownBlock = some k → vb.ownBlock ≠ some k
theorem AR.below {w w' : World} {B : Nat} {va vb : Value} {la lb : List Int} (h : AR w B va vb la lb) (hb : Below w.heap.size w w') : AR w' B va vb la lb := ⟨h.ia.below hb, h.ib.below hb, h.ap⟩
theorem AR.appA {w w' : World} {B : Nat} {va vb va' : Value} {la lb la' : List Int} (h : AR w B va vb la lb) (ho : OwnI w' B va' la') (hg : Grew w va w' va') : AR w' B va' vb la' lb := by
  refine ⟨ho, h.ib.block fun k hk => hg.g.block k (World.ownsRow.lt h.ib k hk).2 (fun e => h.ap k e.symm hk), fun k hk hk2 => ?_⟩
  rcases hg.at' with e | ⟨j, e, hj⟩
  · exact h.ap k (by rw [← e]; exact hk) hk2
  · rw [e] at hk
    injection hk with hk
    have := (World.ownsRow.lt h.ib k hk2).2
    omega
theorem AR.appB {w w' : World} {B : Nat} {va vb vb' : Value} {la lb lb' : List Int} (h : AR w B va vb la lb) (ho : OwnI w' B vb' lb') (hg : Grew w vb w' vb') : AR w' B va vb' la lb' := by
  refine ⟨h.ia.block fun k hk => hg.g.block k (World.ownsRow.lt h.ia k hk).2 (fun e => h.ap k hk e.symm), ho, fun k hk hk2 => ?_⟩
  rcases hg.at' with e | ⟨j, e, hj⟩
  · exact h.ap k hk (by rw [← e]; exact hk2)
  · rw [e] at hk2
    injection hk2 with hk2
    have := (World.ownsRow.lt h.ia k hk).2
    omega
theorem OwnI.at_ {w : World} {B : Nat} {a : Option Addr} {n cap : Nat} {l : List Int} (h : OwnI w B (.slice a n cap) l) {j : Nat} (hj : j < l.length) : ∃ g, a = some ⟨g, 0, none⟩ ∧ B ≤ g ∧ ∀ i (hi : i < l.length), w.cell? ⟨g, i, none⟩ = some (.int .i64 l[i]) := by
  have h' := h
  obtain ⟨g, c, e⟩ := h.shape' (by omega)
  injection e with e1 e2 e3
  subst e1 e2 e3
  refine ⟨g, rfl, (World.ownsRow.lt h g rfl).1, fun i hi => ?_⟩
  rw [OwnI.cell h i hi]
  simp [hi]
/-- where the first i commands were asked, replied -/
def asL (q : Int) (es : List Evn) (os : List Cm) (i : Nat) : List Int := (List.range i).map fun j => askV q es (cmAt os j)
theorem asL_len (q : Int) (es : List Evn) (os : List Cm) (i : Nat) : (asL q es os i).length = i := by simp [asL]
theorem asL_succ (q : Int) (es : List Evn) (os : List Cm) (i : Nat) : asL q es os (i + 1) = asL q es os i ++ [askV q es (cmAt os i)] := by simp [asL, List.range_succ]
theorem asL_at (q : Int) (es : List Evn) (os : List Cm) (i j : Nat) (h : j < (asL q es os i).length) : (asL q es os i)[j] = askV q es (cmAt os j) := by simp [asL]
end Go.Proofs.Ytnoihfincifphaa
