/-
  Commands applied again change nothing.
-/
import Derived.Test.YtelfejhopjbhpaaTlPure
import Derived.Test.YtelfejhopjbhpaaTsWithS
namespace Go.Proofs.Ytelfejhopjbhpaa
open Go.RowKit Go.Maps
set_option linter.unusedVariables false
set_option linter.unusedSimpArgs false

theorem List.reverseRecOn' {α : Type} {P : List α → Prop} (l : List α) (nil : P []) (snoc : ∀ (l : List α) (a : α), P l → P (l ++ [a])) : P l := by
  have h : ∀ k : List α, P k.reverse := by
    intro k
    induction k with
    | nil => exact nil
    | cons a k ih => rw [List.reverse_cons]; exact snoc _ _ ih
  have := h l.reverse
  rwa [List.reverse_reverse] at this
theorem sesOf_filter (ss : List Se) (c : Int) : sesOf ss c = ((ss.filter fun s => s.cl == c).head?).getD ⟨0, 0, 0, tx0⟩ := by
  unfold sesOf
  rw [List.head?_filter]
theorem sesOf_put (x : Se) (ss : List Se) (c : Int) : sesOf (kPut seK x ss) c = if c = x.cl then x else sesOf ss c := by
  rw [sesOf_filter, kPut_eq]
  split
  · rfl
  · rw [← sesOf_filter]
/-- the greatest number of client c in a log -/
def maxStep (c : Int) (m : Int) (e : Ent) : Int := if e.cl = c ∧ m < e.sq then e.sq else m
def maxSeq (l : List Ent) (c : Int) : Int := l.foldl (maxStep c) 0
theorem maxSeq_snoc (l : List Ent) (e : Ent) (c : Int) : maxSeq (l ++ [e]) c = maxStep c (maxSeq l c) e := by unfold maxSeq; rw [List.foldl_append]; rfl
theorem maxSeq_ge (l : List Ent) (c : Int) : ∀ e ∈ l, e.cl = c → e.sq ≤ maxSeq l c := by
  induction l using List.reverseRecOn' with
  | nil => intro e he; cases he
  | snoc l a ih =>
    intro e he hc
    rw [maxSeq_snoc]
    unfold maxStep
    rcases List.mem_append.1 he with he | he
    · have := ih e he hc
      split <;> omega
    · rw [List.mem_singleton.1 he] at hc ⊢
      split
      · omega
      · next h => have : ¬ maxSeq l c < a.sq := fun h' => h ⟨hc, h'⟩; omega
theorem zero_cmd {e : Ent} (h : entB e = true) (h0 : e.op = 0) : e.cl = 0 := by
  have hc := entB_cmd h
  unfold cmdF at hc
  rw [h0] at hc
  simp only [show ¬ ((0 : Int) < 0 ∨ (4 : Int) < 0) by omega, if_false, if_true] at hc
  split at hc
  · omega
  · omega
theorem some_cmd {e : Ent} (h : entB e = true) (h0 : e.op ≠ 0) : 1 ≤ e.cl ∧ e.cl ≤ 8 := (cmdF_ok (entB_cmd h)).2 h0
theorem stepT_c {e : Ent} (h : entB e = true) (x : List Pr × List Se) : stepT x e = ((applyC x.1 x.2 e.cl e.sq e.op e.k e.v e.o).2.2.2.1, (applyC x.1 x.2 e.cl e.sq e.op e.k e.v e.o).2.2.2.2) := by
  unfold stepT applyI
  rw [if_pos (entB_cmd h)]
theorem ses_max (l : List Ent) (hl : ∀ e ∈ l, entB e = true) (c : Int) (hc : 1 ≤ c) : (sesOf (runT l).2 c).sq = maxSeq l c := by
  induction l using List.reverseRecOn' with
  | nil => rfl
  | snoc l a ih =>
    have ih' := ih fun e he => hl e (List.mem_append.2 (.inl he))
    have ha := hl a (List.mem_append.2 (.inr (List.mem_singleton.2 rfl)))
    rw [runT_snoc, maxSeq_snoc, stepT_c ha]
    unfold applyC maxStep
    by_cases h0 : a.op = 0
    · have h1 := zero_cmd ha h0
      rw [if_pos h0, if_neg (by omega)]
      exact ih'
    · rw [if_neg h0]
      by_cases h1 : a.sq < (sesOf (runT l).2 a.cl).sq
      · rw [if_pos h1]
        by_cases h2 : a.cl = c
        · rw [h2, ih'] at h1
          rw [if_neg (by omega)]
          exact ih'
        · rw [if_neg (fun h => h2 h.1)]
          exact ih'
      · rw [if_neg h1]
        by_cases h3 : (sesOf (runT l).2 a.cl).sq = a.sq
        · rw [if_pos h3]
          by_cases h2 : a.cl = c
          · rw [h2, ih'] at h3
            rw [if_neg (by omega)]
            exact ih'
          · rw [if_neg (fun h => h2 h.1)]
            exact ih'
        · rw [if_neg h3]
          dsimp only
          rw [sesOf_put]
          by_cases h2 : a.cl = c
          · rw [h2, ih'] at h1 h3
            rw [if_pos h2.symm, if_pos ⟨h2, by omega⟩]
          · rw [if_neg (fun h => h2 h.symm), if_neg (fun h => h2 h.1)]
            exact ih'
/-- a command of a log applied once more: the table stays; its code -/
def codeT (l : List Ent) (e : Ent) : Int := if e.op = 0 then 1 else if e.sq = maxSeq l e.cl then 2 else 3
theorem again (l : List Ent) (hl : ∀ e ∈ l, entB e = true) (e : Ent) (he : entB e = true) (hm : e.op ≠ 0 → e.sq ≤ maxSeq l e.cl) : (applyC (runT l).1 (runT l).2 e.cl e.sq e.op e.k e.v e.o).1 = codeT l e ∧ (applyC (runT l).1 (runT l).2 e.cl e.sq e.op e.k e.v e.o).2.2.2 = runT l := by
  unfold applyC codeT
  by_cases h0 : e.op = 0
  · rw [if_pos h0, if_pos h0]; exact ⟨rfl, rfl⟩
  · have hs := ses_max l hl e.cl (some_cmd he h0).1
    have hm' := hm h0
    rw [if_neg h0, if_neg h0, hs]
    by_cases h1 : e.sq < maxSeq l e.cl
    · rw [if_pos h1, if_neg (by omega)]; exact ⟨rfl, rfl⟩
    · rw [if_neg h1, if_pos (show maxSeq l e.cl = e.sq by omega), if_pos (by omega)]; exact ⟨rfl, rfl⟩
/-- an entry that repeats an elder one -/
def oldB (l : List Ent) (e : Ent) : Bool := l.any fun x => x.op != 0 && (x.cl == e.cl && x.sq == e.sq)
/-- the first i entries without their repeats -/
def onceP (l : List Ent) : Nat → List Ent
  | 0 => []
  | i + 1 => onceP l i ++ (if h : i < l.length then (if oldB (l.take i) l[i] then [] else [l[i]]) else [])
theorem onceP_mem (l : List Ent) : ∀ i, ∀ e ∈ onceP l i, e ∈ l := by
  intro i
  induction i with
  | zero => intro e he; cases he
  | succ i ih =>
    intro e he
    rw [onceP] at he
    rcases List.mem_append.1 he with he | he
    · exact ih e he
    · split at he
      · next h =>
        split at he
        · cases he
        · rw [List.mem_singleton.1 he]; exact List.getElem_mem h
      · cases he
theorem onceP_len (l : List Ent) : ∀ i, (onceP l i).length ≤ i := by
  intro i
  induction i with
  | zero => simp [onceP]
  | succ i ih =>
    rw [onceP, List.length_append]
    split
    · split
      · simp; omega
      · simp; omega
    · simp; omega
theorem stay (l : List Ent) (hl : ∀ e ∈ l, entB e = true) (e : Ent) (he : entB e = true) (ho : oldB l e = true) : stepT (runT l) e = runT l := by
  have hm : e.op ≠ 0 → e.sq ≤ maxSeq l e.cl := fun _ => by
    unfold oldB at ho
    rw [List.any_eq_true] at ho
    obtain ⟨x, hx, h⟩ := ho
    simp only [Bool.and_eq_true, beq_iff_eq] at h
    have := maxSeq_ge l e.cl x hx h.2.1
    omega
  have h := (again l hl e he hm).2
  rw [stepT_c he]
  exact Prod.ext (by rw [h]) (by rw [h])
theorem once_run (l : List Ent) (hl : ∀ e ∈ l, entB e = true) : ∀ i, i ≤ l.length → runT (onceP l i) = runT (l.take i) := by
  intro i
  induction i with
  | zero => intro _; rfl
  | succ i ih =>
    intro hi
    have hlt : i < l.length := by omega
    have ih' := ih (by omega)
    rw [onceP, dif_pos hlt, List.take_succ_eq_append_getElem hlt, runT_snoc]
    have hl' : ∀ e ∈ l.take i, entB e = true := fun e he => hl e (List.mem_of_mem_take he)
    cases ho : oldB (l.take i) l[i]
    · simp only [Bool.false_eq_true, if_false]
      rw [runT_snoc, ih']
    · simp only [if_true, List.append_nil]
      rw [ih', stay _ hl' _ (hl _ (List.getElem_mem hlt)) ho]
theorem once_all (l : List Ent) (hl : ∀ e ∈ l, entB e = true) : runT (onceP l l.length) = runT l := by
  rw [once_run l hl _ (Nat.le_refl _), List.take_length]
theorem logAns_all (l : List Ent) (hl : ∀ e ∈ l, entB e = true) (h4 : l.length ≤ 4096) (u : Int) (hu : (l.length : Int) ≤ u) : logAns l u = runT l := by
  unfold logAns
  rw [if_pos ⟨h4, hl⟩]
  have : uptoN l.length u = l.length := by
    unfold uptoN
    rw [if_neg (by omega)]
    omega
  rw [this, List.take_length]
end Go.Proofs.Ytelfejhopjbhpaa
