/-
  What PlanRecords answers.
-/
import Derived.Test.YtjoflnnomebkpaaDoorPlanBase
import Derived.Test.YtjoflnnomebkpaaDoorRecsOwn
import Derived.Deep.DeepCutAuto
namespace Go.Proofs.YtjoflnnomebkpaaDoor
open Go.RowKit
set_option linter.unusedVariables false
set_option linter.unusedSimpArgs false

def zeroE : Ent := ⟨0, 0, 0, 0, ⟨#[]⟩, ⟨#[]⟩, ⟨#[]⟩⟩
def difB (t v t' v' : Int) : Bool := t' != t || v' != v
def hardL (t v t' v' : Int) : List Rec := if difB t v t' v' then [⟨1, t', v', 0, zeroE⟩] else []
def cutL (l l' : List Ent) : List Rec := if comK l l' < l.length then [⟨3, 0, 0, (comK l l' : Nat), zeroE⟩] else []
def addsL : Nat → List Ent → List Rec
  | _, [] => []
  | i, e :: es => ⟨2, 0, 0, ((i + 1 : Nat) : Int), e⟩ :: addsL (i + 1) es
theorem addsL_len : ∀ (i : Nat) (es : List Ent), (addsL i es).length = es.length
  | _, [] => rfl
  | i, e :: es => by simp [addsL, addsL_len (i + 1) es]
def planAll (t v : Int) (l : List Ent) (t' v' : Int) (l' : List Ent) : List Rec := hardL t v t' v' ++ cutL l l' ++ addsL (comK l l') (l'.drop (comK l l'))
/-- what PlanRecords answers -/
def planC (t v : Int) (l : List Ent) (t' v' : Int) (l' : List Ent) : Int := if stB t v l = false then 1 else if stB t' v' l' = false then 2 else if folB t v t' v' = false then 3 else 0
def planL (t v : Int) (l : List Ent) (t' v' : Int) (l' : List Ent) : List Rec := if planC t v l t' v' l' = 0 then planAll t v l t' v' l' else []
theorem stB_len {t v : Int} {l : List Ent} (h : stB t v l = true) : l.length ≤ 4096 := by
  simp only [stB, Bool.and_eq_true, decide_eq_true_eq] at h
  exact h.2.1
theorem hardL_len (t v t' v' : Int) : (hardL t v t' v').length ≤ 1 := by unfold hardL; split <;> simp
theorem cutL_len (l l' : List Ent) : (cutL l l').length ≤ 1 := by unfold cutL; split <;> simp
theorem planL_len (t v : Int) (l : List Ent) (t' v' : Int) (l' : List Ent) (h : l'.length ≤ 1048576) : (planL t v l t' v' l').length ≤ 1048578 := by
  unfold planL planAll
  split
  · have h1 := hardL_len t v t' v'
    have h2 := cutL_len l l'
    simp only [List.length_append, addsL_len, List.length_drop]
    omega
  · simp
theorem zeroRec (k t v i : Int) : (⟨k, t, v, i, zeroE⟩ : Rec).cells = [.int .i64 k, .int .i64 t, .int .i64 v, .int .i64 i, .int .i64 0, .int .i64 0, .int .i64 0, .int .i64 0, .string ⟨#[]⟩, .string ⟨#[]⟩, .string ⟨#[]⟩] := rfl

/-- the answer -/
def PlanAt (w w' : World) (x : Ending) (C : Int) (L : List Rec) : Prop := ∃ a cap, x = .returned (.agg #[.int .i64 C, .slice a L.length cap]) ∧ OwnR w' w.heap.size (.slice a L.length cap) L ∧ Below w.heap.size w w'
theorem OwnR.le {w : World} {B B' : Nat} {v : Value} {l : List Rec} (h : OwnR w B v l) (hb : B' ≤ B) : OwnR w B' v l := by
  refine ⟨h.1, ?_⟩
  rcases h.2 with h | ⟨g, cap, cur, hv, hg, r⟩
  · exact .inl h
  · exact .inr ⟨g, cap, cur, hv, Nat.le_trans hb hg, r⟩
theorem OwnR.setLow {w : World} {B : Nat} {v : Value} {l : List Rec} (h : OwnR w B v l) {b i : Nat} (hb : b < B) (x : Value) : OwnR (w.setCell ⟨b, i, none⟩ x) B v l :=
  h.keep fun k hk => Below.heap_setCell _ _ _ _ (fun e => by have := (h.lt k hk).1; simp only at e; omega)

end Go.Proofs.YtjoflnnomebkpaaDoor
