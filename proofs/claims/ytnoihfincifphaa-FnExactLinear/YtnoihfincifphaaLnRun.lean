/-
  What the commands of an order bring, one after another.
-/
import Derived.Test.YtnoihfincifphaaLnPure
import Derived.Test.YtnoihfincifphaaTbCmdP
namespace Go.Proofs.Ytnoihfincifphaa
open Go.RowKit Go.Maps
set_option linter.unusedVariables false
set_option linter.unusedSimpArgs false

def apC (x : List Pr × List Se) (c : Cm) : Int × Int × ByteArray × List Pr × List Se := applyI x.1 x.2 c.cl c.sq c.op c.k c.v c.o
def stpC (x : List Pr × List Se) (c : Cm) : List Pr × List Se := ((apC x c).2.2.2.1, (apC x c).2.2.2.2)
def rnC (l : List Cm) : List Pr × List Se := l.foldl stpC ([], [])
theorem rnC_snoc (l : List Cm) (c : Cm) : rnC (l ++ [c]) = stpC (rnC l) c := by unfold rnC; rw [List.foldl_append]; rfl
theorem nilPs_ok : PsOk [] := ⟨by simp, by simp, List.Pairwise.nil⟩
theorem nilSs_ok : SsOk [] := ⟨by simp, List.Pairwise.nil⟩
theorem rnC_ok (l : List Cm) : PsOk (rnC l).1 ∧ SsOk (rnC l).2 := by
  have key : ∀ (l : List Cm) (x : List Pr × List Se), PsOk x.1 ∧ SsOk x.2 → PsOk (l.foldl stpC x).1 ∧ SsOk (l.foldl stpC x).2 := by
    intro l
    induction l with
    | nil => intro x h; exact h
    | cons e l ih => intro x h; exact ih _ (apply_ok h.1 h.2 _ _ _ _ _ _)
  exact key l _ ⟨nilPs_ok, nilSs_ok⟩
def lk4 (es : List Evn) (r : Option Nat) (y : Int) (z : ByteArray) : Bool := match r with
  | some r => decide ((evAt es r).cd ≠ y) || decide ((evAt es r).v ≠ z)
  | none => false
theorem q4_eq (es : List Evn) (os : List Cm) (rs : Nat → Int × ByteArray) (i : Nat) : q4 es os rs i = lk4 es (findK 2 es (cmAt os i)) (rs i).1 (rs i).2 := rfl
/-- what the i-th command of an order brings -/
def rsC (os : List Cm) (i : Nat) : Int × ByteArray := ((apC (rnC (os.take i)) (cmAt os i)).2.1, (apC (rnC (os.take i)) (cmAt os i)).2.2.1)
theorem rsC_eq {os : List Cm} {i : Nat} (h : i < os.length) : rsC os i = ((apC (rnC (os.take i)) os[i]).2.1, (apC (rnC (os.take i)) os[i]).2.2.1) := by rw [rsC, cmAt_eq h]
theorem rnC_take {os : List Cm} {i : Nat} (h : i < os.length) : rnC (os.take (i + 1)) = stpC (rnC (os.take i)) os[i] := by rw [List.take_succ_eq_append_getElem h, rnC_snoc]
theorem apC_eq (x : List Pr × List Se) {c : Cm} (h : cmF c = 0) : apC x c = applyC x.1 x.2 c.cl c.sq c.op c.k c.v c.o := by
  have hc : cmdF c.cl c.sq c.op c.k.size c.v.size c.o.size = 0 := by
    unfold cmF callF at h
    split at h
    · cases h
    · exact h
  rw [apC, applyI, if_pos hc]
end Go.Proofs.Ytnoihfincifphaa
