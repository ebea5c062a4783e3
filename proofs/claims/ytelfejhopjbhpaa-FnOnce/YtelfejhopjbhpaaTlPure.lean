/-
  What a log makes.
-/
import Derived.Test.YtelfejhopjbhpaaTbCmdP
import Derived.Test.YtelfejhopjbhpaaEntFit
import Derived.Test.YtelfejhopjbhpaaTsCmd
namespace Go.Proofs.Ytelfejhopjbhpaa
open Go.RowKit Go.Maps
set_option linter.unusedVariables false
set_option linter.unusedSimpArgs false

/-- one entry's command -/
def stepT (x : List Pr × List Se) (e : Ent) : List Pr × List Se := ((applyI x.1 x.2 e.cl e.sq e.op e.k e.v e.o).2.2.2.1, (applyI x.1 x.2 e.cl e.sq e.op e.k e.v e.o).2.2.2.2)
def runT (l : List Ent) : List Pr × List Se := l.foldl stepT ([], [])
theorem runT_snoc (l : List Ent) (e : Ent) : runT (l ++ [e]) = stepT (runT l) e := by unfold runT; rw [List.foldl_append]; rfl
theorem nilP_ok : PsOk [] := ⟨by simp, by simp, List.Pairwise.nil⟩
theorem nilS_ok : SsOk [] := ⟨by simp, List.Pairwise.nil⟩
theorem runT_ok (l : List Ent) : PsOk (runT l).1 ∧ SsOk (runT l).2 := by
  have key : ∀ (l : List Ent) (x : List Pr × List Se), PsOk x.1 ∧ SsOk x.2 → PsOk (l.foldl stepT x).1 ∧ SsOk (l.foldl stepT x).2 := by
    intro l
    induction l with
    | nil => intro x h; exact h
    | cons e l ih => intro x h; exact ih _ (apply_ok h.1 h.2 _ _ _ _ _ _)
  exact key l _ ⟨nilP_ok, nilS_ok⟩
/-- how many entries are applied -/
def uptoN (n : Nat) (u : Int) : Nat := if u < 0 then 0 else min u.toNat n
def logAns (l : List Ent) (u : Int) : List Pr × List Se := if l.length ≤ 4096 ∧ (∀ e ∈ l, entB e = true) then runT (l.take (uptoN l.length u)) else ([], [])
def LogT (w w' : World) (e : Ending) (x : List Pr × List Se) : Prop :=
  ∃ va vc ua uc, e = .returned (.agg #[.slice va x.1.length vc, .slice ua x.2.length uc]) ∧ TabO w' w.heap.size (.slice va x.1.length vc) (.slice ua x.2.length uc) x.1 x.2 ∧ Below w.heap.size w w'
theorem TabO.nil (w : World) (B : Nat) : TabO w B (.slice none 0 0) (.slice none 0 0) [] [] := ⟨OwnG.nil _ _ _ _ _, OwnG.nil _ _ _ _ _, fun k e => by cases e⟩
theorem Es.at7 {w : World} {a : Option Addr} {cap : Nat} {l : List Ent} (h : Es w (.slice a l.length cap) l) {k : Nat} (hk : k < l.length) : ∃ b off, a = some ⟨b, off, none⟩ ∧ EntAt w b (off + k * 7) l[k] := by
  obtain ⟨_, _, a', cap', e, hc⟩ := h
  injection e with e1 _ _
  subst e1
  obtain ⟨b, off, rfl, hj⟩ := hc k hk
  exact ⟨b, off, rfl, hj k hk⟩
theorem entB_cmd {e : Ent} (h : entB e = true) : cmdF e.cl e.sq e.op e.k.size e.v.size e.o.size = 0 := by
  simp only [entB, Bool.and_eq_true, beq_iff_eq] at h
  exact h.2
theorem cmdF_wf {cl sq op : Int} {k v o : ByteArray} (h : cmdF cl sq op k.size v.size o.size = 0) : (Lit.int .i64 cl).wf = true ∧ k.size ≤ 1048576 ∧ v.size ≤ 1048576 ∧ o.size ≤ 1048576 := by
  unfold cmdF at h
  have hk : cl ≥ 0 ∧ cl ≤ 8 ∧ k.size ≤ 64 ∧ v.size ≤ 64 ∧ o.size ≤ 64 := by
    split at h
    · omega
    · split at h
      · omega
      · split at h
        · omega
        · omega
  exact ⟨WalkArith.wf_i64 (by omega), by omega, by omega, by omega⟩
theorem all_take {l : List Ent} {k : Nat} (h : ∀ e ∈ l.take k, entB e = true) (hk : k < l.length) (he : entB l[k] = true) : ∀ e ∈ l.take (k + 1), entB e = true := by
  rw [List.take_succ_eq_append_getElem hk]
  intro e hm
  rcases List.mem_append.1 hm with hm | hm
  · exact h e hm
  · rw [List.mem_singleton.1 hm]; exact he

end Go.Proofs.Ytelfejhopjbhpaa
