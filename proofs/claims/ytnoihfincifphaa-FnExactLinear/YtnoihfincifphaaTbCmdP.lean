/-
  What ApplyCmd answers; tables stay well-formed.
-/
import Derived.Test.YtnoihfincifphaaTbApply
import Derived.Test.YtnoihfincifphaaTbFit
import Derived.Test.YtnoihfincifphaaRegInv
import Derived.Deep.RegionLaw
namespace Go.Proofs.Ytnoihfincifphaa
open Go.RowKit Go.Maps
set_option linter.unusedVariables false
set_option linter.unusedSimpArgs false

theorem stp_callT {w : World} {ops : Array Oper} {o : Oper} {a : Act} {K : Act → World → Prop} {Q : Exit → Act → World → Prop} {E : Prop} (hgd : o.guard = none) {N : FuncId} {ags : Array Operand} {ts : Array TypeId} (ho : o.op = .call ⟨.value (.func N), ags, ts⟩)
    (hN : ∀ args w, (callFunc N args).run Try.prog w = .ok (.enter N args) w) (args : Array Value) (hA : ags.map a.eval = args)
    (hc : Calls Try.prog N args w fun e w' => ∃ v, e = .returned v ∧ K (a.put o.dst v) w') : if Region.wanted o (yielded ops a.tmps) = true then Oper.wp Try.prog o a w K Q else E := by
  have hw : Region.wanted o (yielded ops a.tmps) = true := by simp [Region.wanted, hgd]
  rw [if_pos hw]
  exact wp_call_go ho hN args hA hc

/-- a table of one's own, its rows from block B on -/
structure TabO (w : World) (B : Nat) (v u : Value) (ps : List Pr) (ss : List Se) : Prop where
  prs : OwnPr w B v ps
  ses : OwnSe w B u ss
  apart : ∀ k, u.ownBlock = some k → v.ownBlock ≠ some k
/-- what ApplyCmd answers -/
def AnsT (w w' : World) (e : Ending) (x : Int × Int × ByteArray × List Pr × List Se) : Prop :=
  ∃ va vc ua uc, e = .returned (.agg #[.int .i64 x.1, .int .i64 x.2.1, .string x.2.2.1, .slice va x.2.2.2.1.length vc, .slice ua x.2.2.2.2.length uc]) ∧ TabO w' w.heap.size (.slice va x.2.2.2.1.length vc) (.slice ua x.2.2.2.2.length uc) x.2.2.2.1 x.2.2.2.2 ∧ Below w.heap.size w w'
def psDec (ps : List Pr) : Decidable (PsOk ps) :=
  decidable_of_iff (ps.length ≤ 256 ∧ (∀ p ∈ ps, 1 ≤ p.k.size ∧ p.k.size ≤ 64 ∧ p.v.size ≤ 64) ∧ ps.Pairwise fun a b => (prK a).before (prK b) = true) ⟨fun h => ⟨h.1, h.2.1, h.2.2⟩, fun h => ⟨h.len, h.all, h.rise⟩⟩
def ssDec (ss : List Se) : Decidable (SsOk ss) :=
  decidable_of_iff ((∀ s ∈ ss, (1 ≤ s.cl ∧ s.cl ≤ 8) ∧ (1 ≤ s.sq ∧ s.sq ≤ 1073741824) ∧ (1 ≤ s.cd ∧ s.cd ≤ 4) ∧ s.v.size ≤ 64) ∧ ss.Pairwise fun a b => (seK a).before (seK b) = true) ⟨fun h => ⟨h.1, h.2⟩, fun h => ⟨h.all, h.rise⟩⟩
def applyA (ps : List Pr) (ss : List Se) (cl sq op : Int) (k v o : ByteArray) : Int × Int × ByteArray × List Pr × List Se :=
  @ite _ (PsOk ps ∧ SsOk ss) (@instDecidableAnd _ _ (psDec ps) (ssDec ss)) (applyI ps ss cl sq op k v o) (9, 0, tx0, [], [])
theorem applyA_no {ps : List Pr} {ss : List Se} (h : ¬ (PsOk ps ∧ SsOk ss)) (cl sq op : Int) (k v o : ByteArray) : applyA ps ss cl sq op k v o = (9, 0, tx0, [], []) := if_neg h
theorem applyA_yes {ps : List Pr} {ss : List Se} (h : PsOk ps ∧ SsOk ss) (cl sq op : Int) (k v o : ByteArray) : applyA ps ss cl sq op k v o = applyI ps ss cl sq op k v o := if_pos h

/-! ### tables stay well-formed -/
theorem mem_kPut {α : Type} {kd : α → Lit} {x a : α} {l : List α} (h : a ∈ kPut kd x l) : a = x ∨ a ∈ l := by
  rcases List.mem_append.1 h with h | h
  · exact .inr (List.mem_filter.1 h).1
  · rcases List.mem_cons.1 h with h | h
    · exact .inl h
    · exact .inr (List.mem_filter.1 h).1
theorem mem_kDel {α : Type} {kd : α → Lit} {k : Lit} {a : α} {l : List α} (h : a ∈ kDel kd k l) : a ∈ l := by
  rcases List.mem_append.1 h with h | h
  · exact (List.mem_filter.1 h).1
  · exact (List.mem_filter.1 h).1
theorem kDel_len (ps : List Pr) (k : ByteArray) (hr : KRise prK ps) : (kDel prK (txK k) ps).length + (if (prOf ps k).isSome then 1 else 0) = ps.length := by
  have h1 := filter_split prOrd ps ⟨k, tx0⟩ hr
  rw [show prK ⟨k, tx0⟩ = txK k from rfl] at h1
  rw [← h1]
  have h2 : ∀ (l : List Pr), KRise prK l → (l.filter fun a => !(prK a).sameKey (txK k)).length + (if (prOf l k).isSome then 1 else 0) = l.length := by
    intro l
    induction l with
    | nil => intro _; rfl
    | cons a r ih =>
      intro hr
      have ih' := ih (List.Pairwise.of_cons hr)
      rw [← find_key] at ih' ⊢
      rw [List.filter_cons, List.find?_cons, List.length_cons]
      cases hs : (prK a).sameKey (txK k)
      · simp only [Bool.not_false, if_true, List.length_cons]; omega
      · have hn : (r.find? fun a => (prK a).sameKey (txK k)) = none := by
          rw [List.find?_eq_none]
          intro x hx hh
          have h3 := List.rel_of_pairwise_cons hr hx
          have e1 := (prOrd.same a ⟨k, tx0⟩).1 hs
          have e2 := (prOrd.same x ⟨k, tx0⟩).1 hh
          rw [e1, e2, prOrd.irr] at h3
          cases h3
        rw [hn] at ih'
        simp at ih' ⊢
        omega
  exact h2 ps hr
theorem kPut_len (ps : List Pr) (k v : ByteArray) (hr : KRise prK ps) : (kPut prK ⟨k, v⟩ ps).length + (if (prOf ps k).isSome then 1 else 0) = ps.length + 1 := by
  have h := kDel_len ps k hr
  have e : (kPut prK ⟨k, v⟩ ps).length = (kDel prK (txK k) ps).length + 1 := by
    unfold kPut kDel
    simp only [List.length_append, List.length_cons]
    rw [show prK ⟨k, v⟩ = txK k from rfl]
    omega
  omega
theorem put_ok {ps : List Pr} (h : PsOk ps) {k v : ByteArray} (hk : 1 ≤ k.size ∧ k.size ≤ 64) (hv : v.size ≤ 64) (hl : (prOf ps k).isSome = true ∨ ps.length < 256) : PsOk (kPut prK ⟨k, v⟩ ps) := by
  refine ⟨?_, fun p hp => ?_, rise_put prOrd h.rise _⟩
  · have h1 := kPut_len ps k v h.rise
    have h2 := h.len
    rcases hl with hl | hl
    · rw [hl] at h1; simp at h1; omega
    · split at h1 <;> omega
  · rcases mem_kPut hp with rfl | hp
    · exact ⟨hk.1, hk.2, hv⟩
    · exact h.all p hp
theorem del_ok {ps : List Pr} (h : PsOk ps) (k : ByteArray) : PsOk (kDel prK (txK k) ps) := by
  refine ⟨?_, fun p hp => h.all p (mem_kDel hp), rise_del prOrd h.rise ⟨k, tx0⟩⟩
  have h1 := kDel_len ps k h.rise
  have h2 := h.len
  omega
theorem prOf_mem {ps : List Pr} {k : ByteArray} {p : Pr} (h : prOf ps k = some p) : p ∈ ps := List.mem_of_find?_eq_some h
theorem carry_ok {ps : List Pr} (h : PsOk ps) {op : Int} {k v o : ByteArray} (hk : 1 ≤ k.size ∧ k.size ≤ 64) (hv : op = 2 ∨ op = 4 → v.size ≤ 64) :
    PsOk (carry ps op k v o).2.2 ∧ (carry ps op k v o).2.1.size ≤ 64 ∧ 1 ≤ (carry ps op k v o).1 ∧ (carry ps op k v o).1 ≤ 4 := by
  have t0 : tx0.size ≤ 64 := by decide
  have h2 := h.len
  unfold carry
  by_cases e2 : op = 2
  · rw [if_pos e2]
    by_cases hc : prOf ps k = none ∧ ps.length = 256
    · rw [if_pos hc]; exact ⟨h, t0, by simp, by simp⟩
    · rw [if_neg hc]
      refine ⟨put_ok h hk (hv (.inl e2)) ?_, t0, by simp, by simp⟩
      cases hp : prOf ps k with
      | none => exact .inr (by have : ¬ ps.length = 256 := fun e => hc ⟨hp, e⟩; omega)
      | some p => exact .inl rfl
  · rw [if_neg e2]
    cases hp : prOf ps k with
    | none => exact ⟨h, t0, by simp, by simp⟩
    | some p =>
      have hpv := (h.all p (prOf_mem hp)).2.2
      by_cases e3 : op = 3
      · simp only [if_pos e3]; exact ⟨del_ok h k, hpv, by simp, by simp⟩
      · simp only [if_neg e3]
        by_cases e4 : op = 4
        · simp only [if_pos e4]
          by_cases eo : p.v = o
          · simp only [if_pos eo]; exact ⟨put_ok h hk (hv (.inr e4)) (.inl (by rw [hp]; rfl)), t0, by simp, by simp⟩
          · simp only [if_neg eo]; exact ⟨h, hpv, by simp, by simp⟩
        · simp only [if_neg e4]; exact ⟨h, hpv, by simp, by simp⟩
theorem cmd_parts {cl sq op : Int} {k v o : Nat} (h : cmdF cl sq op k v o = 0) (h0 : op ≠ 0) : (1 ≤ cl ∧ cl ≤ 8) ∧ (1 ≤ sq ∧ sq ≤ 1073741824) ∧ (1 ≤ k ∧ k ≤ 64) ∧ (op = 2 ∨ op = 4 → v ≤ 64) := by
  unfold cmdF at h
  rw [if_neg h0] at h
  split at h
  · cases h
  · split at h
    · cases h
    · split at h
      · cases h
      · split at h
        · cases h
        · refine ⟨by omega, by omega, by omega, fun hh => ?_⟩
          rw [if_pos hh] at h
          split at h
          · cases h
          · omega
theorem apply_ok {ps : List Pr} {ss : List Se} (hp : PsOk ps) (hs : SsOk ss) (cl sq op : Int) (k v o : ByteArray) : PsOk (applyI ps ss cl sq op k v o).2.2.2.1 ∧ SsOk (applyI ps ss cl sq op k v o).2.2.2.2 := by
  unfold applyI
  split
  · next h0 =>
    unfold applyC
    split
    · exact ⟨hp, hs⟩
    · next h1 =>
      obtain ⟨c1, c2, c3, c4⟩ := cmd_parts h0 h1
      split
      · exact ⟨hp, hs⟩
      · split
        · exact ⟨hp, hs⟩
        · obtain ⟨g1, g2, g3, g4⟩ := carry_ok (o := o) hp c3 c4
          refine ⟨g1, fun s hs' => ?_, rise_put seOrd hs.rise _⟩
          rcases mem_kPut hs' with rfl | hs'
          · exact ⟨c1, c2, ⟨g3, g4⟩, g2⟩
          · exact hs.all s hs'
  · exact ⟨hp, hs⟩
end Go.Proofs.Ytnoihfincifphaa
