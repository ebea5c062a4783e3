/-
  tooEarly, pure: what the rounds make.
-/
import Derived.Test.YtnoihfincifphaaLnBack
namespace Go.Proofs.Ytnoihfincifphaa
open Go.RowKit Go.Maps
set_option linter.unusedVariables false
set_option linter.unusedSimpArgs false

def askR (t : Cm → Option (Nat × Nat)) (c : Cm) : Nat := ((t c).getD (0, 0)).1
def repR (t : Cm → Option (Nat × Nat)) (c : Cm) : Nat := ((t c).getD (0, 0)).2
def stpE (t : Cm → Option (Nat × Nat)) (s : Int × Nat) (x : IxC) : Int × Nat := (if s.2 < askR t x.1.2 then ((x.1.1 : Nat) : Int) else s.1, min s.2 (repR t x.1.2))
def stE (t : Cm → Option (Nat × Nat)) (N : Nat) (pre : List IxC) : Int × Nat := pre.foldl (stpE t) (-1, N)
theorem stE_snoc (t : Cm → Option (Nat × Nat)) (N : Nat) (pre : List IxC) (x : IxC) : stE t N (pre ++ [x]) = stpE t (stE t N pre) x := by unfold stE; rw [List.foldl_append]; rfl
theorem stE_back {es : List Evn} {os : List Cm} (hos : ∀ c ∈ os, c.fits) (hF : ∀ i, i < os.length → (findK 1 es (cmAt os i)).isSome = true) : ∀ k, k ≤ os.length → stE (tn es.length es) es.length (bkL os hos k) = (fdR es os k, mnR es os k)
  | 0, _ => rfl
  | k + 1, hk => by
    have ih := stE_back hos hF k (by omega)
    rw [bkL_succ, stE_snoc, ih]
    have e : os.length - 1 - k = os.length - (k + 1) := by omega
    obtain ⟨a, ha⟩ := Option.isSome_iff_exists.1 (hF (os.length - (k + 1)) (by omega))
    have ht : tn es.length es (cmAt os (os.length - (k + 1))) = some (askI es os (os.length - (k + 1)), repN es os (os.length - (k + 1))) := by
      unfold tn askI repN
      rw [ha]; rfl
    simp only [stpE, askR, repR, e, ht, Option.getD_some]
    rfl
theorem tn_vals (t : Cm → Option (Nat × Nat)) (c : Cm) : (t c).elim (.agg #[.int .i64 0, .int .i64 0]) (fun p : Nat × Nat => Value.agg #[.int .i64 p.1, .int .i64 p.2]) = .agg #[.int .i64 (askR t c), .int .i64 (repR t c)] := by
  unfold askR repR
  cases t c <;> rfl
end Go.Proofs.Ytnoihfincifphaa
