/-
  impl.PlanRecords.
-/
import Derived.Test.YtmbiccmndcchhadPlanBase
import Derived.Test.YtmbiccmndcchhadRecsOwn
import Derived.Deep.DeepCutAuto
namespace Go.Proofs.Ytmbiccmndcchhad
open Go.RowKit
set_option linter.unusedVariables false
set_option linter.unusedSimpArgs false

def zeroE : Ent := ⟨0, 0, 0, 0, ⟨#[]⟩, ⟨#[]⟩, ⟨#[]⟩⟩
def difB (t v t' v' : Int) : Bool := t' != t || v' != v
def hardL (t v t' v' : Int) : List Rec := if difB t v t' v' then [⟨1, t', v', 0, zeroE⟩] else []
def cutL (l l' : List Ent) : List Rec := if comK l l' < l.length then [⟨3, 0, 0, (comK l l' : Nat), zeroE⟩] else []
def addsL : Nat → List Ent → List Rec
  | _, [] => []
  | i, e :: es => ⟨2, 0, 0, ((i + 1 : Nat) : Int), e⟩ :: addsL (i + 1) es
theorem addsL_len : ∀ (i : Nat) (es : List Ent), (addsL i es).length = es.length
  | _, [] => rfl
  | i, e :: es => by simp [addsL, addsL_len (i + 1) es]
def planAll (t v : Int) (l : List Ent) (t' v' : Int) (l' : List Ent) : List Rec := hardL t v t' v' ++ cutL l l' ++ addsL (comK l l') (l'.drop (comK l l'))
/-- what PlanRecords answers -/
def planC (t v : Int) (l : List Ent) (t' v' : Int) (l' : List Ent) : Int := if stB t v l = false then 1 else if stB t' v' l' = false then 2 else if folB t v t' v' = false then 3 else 0
def planL (t v : Int) (l : List Ent) (t' v' : Int) (l' : List Ent) : List Rec := if planC t v l t' v' l' = 0 then planAll t v l t' v' l' else []
theorem stB_len {t v : Int} {l : List Ent} (h : stB t v l = true) : l.length ≤ 4096 := by
  simp only [stB, Bool.and_eq_true, decide_eq_true_eq] at h
  exact h.2.1
theorem hardL_len (t v t' v' : Int) : (hardL t v t' v').length ≤ 1 := by unfold hardL; split <;> simp
theorem cutL_len (l l' : List Ent) : (cutL l l').length ≤ 1 := by unfold cutL; split <;> simp
theorem planL_len (t v : Int) (l : List Ent) (t' v' : Int) (l' : List Ent) (h : l'.length ≤ 1048576) : (planL t v l t' v' l').length ≤ 1048578 := by
  unfold planL planAll
  split
  · have h1 := hardL_len t v t' v'
    have h2 := cutL_len l l'
    simp only [List.length_append, addsL_len, List.length_drop]
    omega
  · simp
theorem zeroRec (k t v i : Int) : (⟨k, t, v, i, zeroE⟩ : Rec).cells = [.int .i64 k, .int .i64 t, .int .i64 v, .int .i64 i, .int .i64 0, .int .i64 0, .int .i64 0, .int .i64 0, .string ⟨#[]⟩, .string ⟨#[]⟩, .string ⟨#[]⟩] := rfl

/-- the answer -/
def PlanAt (w w' : World) (x : Ending) (C : Int) (L : List Rec) : Prop := ∃ a cap, x = .returned (.agg #[.int .i64 C, .slice a L.length cap]) ∧ OwnR w' w.heap.size (.slice a L.length cap) L ∧ Below w.heap.size w w'
theorem OwnR.le {w : World} {B B' : Nat} {v : Value} {l : List Rec} (h : OwnR w B v l) (hb : B' ≤ B) : OwnR w B' v l := by
  refine ⟨h.1, ?_⟩
  rcases h.2 with h | ⟨g, cap, cur, hv, hg, r⟩
  · exact .inl h
  · exact .inr ⟨g, cap, cur, hv, Nat.le_trans hb hg, r⟩
theorem OwnR.setLow {w : World} {B : Nat} {v : Value} {l : List Rec} (h : OwnR w B v l) {b i : Nat} (hb : b < B) (x : Value) : OwnR (w.setCell ⟨b, i, none⟩ x) B v l :=
  h.keep fun k hk => Below.heap_setCell _ _ _ _ (fun e => by have := (h.lt k hk).1; simp only at e; omega)

set_option maxHeartbeats 16000000 in
set_option maxRecDepth 100000 in
theorem planRecords_any (t v : Int) (a : Option Addr) (cap : Nat) (l : List Ent) (t' v' : Int) (a' : Option Addr) (cap' : Nat) (l' : List Ent) (w : World)
    (hv : Hid (Es w (.slice a l.length cap) l)) (hu : Hid (Es w (.slice a' l'.length cap') l')) (hll : l.length ≤ 1048576) (hll' : l'.length ≤ 1048576) :
    Calls Try.prog 9 #[.agg #[.int .i64 t, .int .i64 v, .slice a l.length cap], .agg #[.int .i64 t', .int .i64 v', .slice a' l'.length cap']] w fun x w' => PlanAt w w' x (planC t v l t' v' l') (planL t v l t' v' l') := by
  have hb0 : Hid (Below w.heap.size w (((w.alloc (.cells #[.int .i64 t, .int .i64 v, .slice a l.length cap] 32)).alloc (.cells #[.int .i64 t', .int .i64 v', .slice a' l'.length cap'] 32)).alloc (.cells #[.int .i64 0, .slice none 0 0] 28))) := (((Below.refl _ _).alloc (Nat.le_refl _) _).alloc (by simp) _).alloc (by simp; omega) _
  have g1 : True := trivial
  cases h1 : stB t v l
  · have e1 : planC t v l t' v' l' = 1 := by simp [planC, h1]
    have e2 : planL t v l t' v' l' = [] := by simp [planL, e1]
    rw [e1, e2]
    clear e1 e2
    go_enter Try.func9, Try.ntmps9
    go_wp2_with (go_at_call 31; clear g1; refine (stableFits_any t v _ l _ (hv.out.below hb0.out) hll).mono ?_; rintro e w1 ⟨rfl, hb⟩; rw [h1]; have hbb := hb; have zw1 : w.heap.size + 1 + 1 + 1 ≤ w1.heap.size := (by have := hb.size; simp at this; omega); have y2 : w.heap.size < w1.heap.size := (by omega); have c20 : w1.cell? ⟨w.heap.size, 0, none⟩ = some (.int .i64 t) := (hb.cell (p := ⟨w.heap.size, 0, none⟩) (by simp <;> omega)).trans (by simp [go_sem]); have c21 : w1.cell? ⟨w.heap.size, 1, none⟩ = some (.int .i64 v) := (hb.cell (p := ⟨w.heap.size, 1, none⟩) (by simp <;> omega)).trans (by simp [go_sem]); have c22 : w1.cell? ⟨w.heap.size, 2, none⟩ = some (.slice a l.length cap) := (hb.cell (p := ⟨w.heap.size, 2, none⟩) (by simp <;> omega)).trans (by simp [go_sem]); have y3 : w.heap.size + 1 < w1.heap.size := (by omega); have c30 : w1.cell? ⟨w.heap.size + 1, 0, none⟩ = some (.int .i64 t') := (hb.cell (p := ⟨w.heap.size + 1, 0, none⟩) (by simp <;> omega)).trans (by simp [go_sem]); have c31 : w1.cell? ⟨w.heap.size + 1, 1, none⟩ = some (.int .i64 v') := (hb.cell (p := ⟨w.heap.size + 1, 1, none⟩) (by simp <;> omega)).trans (by simp [go_sem]); have c32 : w1.cell? ⟨w.heap.size + 1, 2, none⟩ = some (.slice a' l'.length cap') := (hb.cell (p := ⟨w.heap.size + 1, 2, none⟩) (by simp <;> omega)).trans (by simp [go_sem]); have y4 : w.heap.size + 1 + 1 < w1.heap.size := (by omega); have c40 : w1.cell? ⟨w.heap.size + 1 + 1, 0, none⟩ = some (.int .i64 0) := (hb.cell (p := ⟨w.heap.size + 1 + 1, 0, none⟩) (by simp <;> omega)).trans (by simp [go_sem]); have c41 : w1.cell? ⟨w.heap.size + 1 + 1, 1, none⟩ = some (.slice none 0 0) := (hb.cell (p := ⟨w.heap.size + 1 + 1, 1, none⟩) (by simp <;> omega)).trans (by simp [go_sem]); have f40 : w1.frozen? ⟨w.heap.size + 1 + 1, 0, none⟩ = false := (hb.frozen (p := ⟨w.heap.size + 1 + 1, 0, none⟩) (by simp)).trans (by simp [go_sem]); have f41 : w1.frozen? ⟨w.heap.size + 1 + 1, 1, none⟩ = false := (hb.frozen (p := ⟨w.heap.size + 1 + 1, 1, none⟩) (by simp)).trans (by simp [go_sem]); have HB : Hid (Below w.heap.size w w1) := hb0.out.trans (hb.mono (by simp; omega)); clear hb hbb)
    refine bodyPost_ret (v := .agg #[.int .i64 1, .slice none 0 0]) (by simp [results, Try.results9, go_sem, c40, c41]) rfl ⟨_, _, rfl, OwnR.nil _ _, ?_⟩
    exact (HB.out.setCell (show w.heap.size ≤ w.heap.size + 1 + 1 by omega) _).setCell (show w.heap.size ≤ w.heap.size + 1 + 1 by omega) _
  · cases h2 : stB t' v' l'
    · have e1 : planC t v l t' v' l' = 2 := by simp [planC, h1, h2]
      have e2 : planL t v l t' v' l' = [] := by simp [planL, e1]
      rw [e1, e2]
      clear e1 e2
      go_enter Try.func9, Try.ntmps9
      go_wp2_with (first
        | (go_at_call 31; clear g1; refine (stableFits_any t v _ l _ (hv.out.below hb0.out) hll).mono ?_; rintro e w1 ⟨rfl, hb⟩; rw [h1]; have hbb := hb; have zw1 : w.heap.size + 1 + 1 + 1 ≤ w1.heap.size := (by have := hb.size; simp at this; omega); have y2 : w.heap.size < w1.heap.size := (by omega); have c20 : w1.cell? ⟨w.heap.size, 0, none⟩ = some (.int .i64 t) := (hb.cell (p := ⟨w.heap.size, 0, none⟩) (by simp <;> omega)).trans (by simp [go_sem]); have c21 : w1.cell? ⟨w.heap.size, 1, none⟩ = some (.int .i64 v) := (hb.cell (p := ⟨w.heap.size, 1, none⟩) (by simp <;> omega)).trans (by simp [go_sem]); have c22 : w1.cell? ⟨w.heap.size, 2, none⟩ = some (.slice a l.length cap) := (hb.cell (p := ⟨w.heap.size, 2, none⟩) (by simp <;> omega)).trans (by simp [go_sem]); have y3 : w.heap.size + 1 < w1.heap.size := (by omega); have c30 : w1.cell? ⟨w.heap.size + 1, 0, none⟩ = some (.int .i64 t') := (hb.cell (p := ⟨w.heap.size + 1, 0, none⟩) (by simp <;> omega)).trans (by simp [go_sem]); have c31 : w1.cell? ⟨w.heap.size + 1, 1, none⟩ = some (.int .i64 v') := (hb.cell (p := ⟨w.heap.size + 1, 1, none⟩) (by simp <;> omega)).trans (by simp [go_sem]); have c32 : w1.cell? ⟨w.heap.size + 1, 2, none⟩ = some (.slice a' l'.length cap') := (hb.cell (p := ⟨w.heap.size + 1, 2, none⟩) (by simp <;> omega)).trans (by simp [go_sem]); have y4 : w.heap.size + 1 + 1 < w1.heap.size := (by omega); have c40 : w1.cell? ⟨w.heap.size + 1 + 1, 0, none⟩ = some (.int .i64 0) := (hb.cell (p := ⟨w.heap.size + 1 + 1, 0, none⟩) (by simp <;> omega)).trans (by simp [go_sem]); have c41 : w1.cell? ⟨w.heap.size + 1 + 1, 1, none⟩ = some (.slice none 0 0) := (hb.cell (p := ⟨w.heap.size + 1 + 1, 1, none⟩) (by simp <;> omega)).trans (by simp [go_sem]); have f40 : w1.frozen? ⟨w.heap.size + 1 + 1, 0, none⟩ = false := (hb.frozen (p := ⟨w.heap.size + 1 + 1, 0, none⟩) (by simp)).trans (by simp [go_sem]); have f41 : w1.frozen? ⟨w.heap.size + 1 + 1, 1, none⟩ = false := (hb.frozen (p := ⟨w.heap.size + 1 + 1, 1, none⟩) (by simp)).trans (by simp [go_sem]); have HB : Hid (Below w.heap.size w w1) := hb0.out.trans (hb.mono (by simp; omega)); clear hb hbb)
        | (go_at_call 31; refine (stableFits_any t' v' _ l' _ (hu.out.below HB.out) hll').mono ?_; rintro e w2 ⟨rfl, hb⟩; rw [h2]; have hbb : Below w1.heap.size w1 w2 := hb; have zw2 : w1.heap.size ≤ w2.heap.size := hbb.size; replace y2 : w.heap.size < w2.heap.size := (by omega); replace c20 : w2.cell? ⟨w.heap.size, 0, none⟩ = some (.int .i64 t) := (hbb.cell (p := ⟨w.heap.size, 0, none⟩) (show w.heap.size < w1.heap.size by omega)).trans c20; replace c21 : w2.cell? ⟨w.heap.size, 1, none⟩ = some (.int .i64 v) := (hbb.cell (p := ⟨w.heap.size, 1, none⟩) (show w.heap.size < w1.heap.size by omega)).trans c21; replace c22 : w2.cell? ⟨w.heap.size, 2, none⟩ = some (.slice a l.length cap) := (hbb.cell (p := ⟨w.heap.size, 2, none⟩) (show w.heap.size < w1.heap.size by omega)).trans c22; replace y3 : w.heap.size + 1 < w2.heap.size := (by omega); replace c30 : w2.cell? ⟨w.heap.size + 1, 0, none⟩ = some (.int .i64 t') := (hbb.cell (p := ⟨w.heap.size + 1, 0, none⟩) (show w.heap.size + 1 < w1.heap.size by omega)).trans c30; replace c31 : w2.cell? ⟨w.heap.size + 1, 1, none⟩ = some (.int .i64 v') := (hbb.cell (p := ⟨w.heap.size + 1, 1, none⟩) (show w.heap.size + 1 < w1.heap.size by omega)).trans c31; replace c32 : w2.cell? ⟨w.heap.size + 1, 2, none⟩ = some (.slice a' l'.length cap') := (hbb.cell (p := ⟨w.heap.size + 1, 2, none⟩) (show w.heap.size + 1 < w1.heap.size by omega)).trans c32; replace y4 : w.heap.size + 1 + 1 < w2.heap.size := (by omega); replace c40 : w2.cell? ⟨w.heap.size + 1 + 1, 0, none⟩ = some (.int .i64 0) := (hbb.cell (p := ⟨w.heap.size + 1 + 1, 0, none⟩) (show w.heap.size + 1 + 1 < w1.heap.size by omega)).trans c40; replace c41 : w2.cell? ⟨w.heap.size + 1 + 1, 1, none⟩ = some (.slice none 0 0) := (hbb.cell (p := ⟨w.heap.size + 1 + 1, 1, none⟩) (show w.heap.size + 1 + 1 < w1.heap.size by omega)).trans c41; replace f40 : w2.frozen? ⟨w.heap.size + 1 + 1, 0, none⟩ = false := (hbb.frozen (p := ⟨w.heap.size + 1 + 1, 0, none⟩) (show w.heap.size + 1 + 1 < w1.heap.size by omega)).trans f40; replace f41 : w2.frozen? ⟨w.heap.size + 1 + 1, 1, none⟩ = false := (hbb.frozen (p := ⟨w.heap.size + 1 + 1, 1, none⟩) (show w.heap.size + 1 + 1 < w1.heap.size by omega)).trans f41; replace HB : Hid (Below w.heap.size w w2) := HB.out.trans (hbb.mono (by omega)); clear hb hbb))
      refine bodyPost_ret (v := .agg #[.int .i64 2, .slice none 0 0]) (by simp [results, Try.results9, go_sem, c40, c41]) rfl ⟨_, _, rfl, OwnR.nil _ _, ?_⟩
      exact (HB.out.setCell (show w.heap.size ≤ w.heap.size + 1 + 1 by omega) _).setCell (show w.heap.size ≤ w.heap.size + 1 + 1 by omega) _
    · cases h3 : folB t v t' v'
      · have e1 : planC t v l t' v' l' = 3 := by simp [planC, h1, h2, h3]
        have e2 : planL t v l t' v' l' = [] := by simp [planL, e1]
        rw [e1, e2]
        clear e1 e2
        go_enter Try.func9, Try.ntmps9
        go_wp2_with (first
          | (go_at_call 31; clear g1; refine (stableFits_any t v _ l _ (hv.out.below hb0.out) hll).mono ?_; rintro e w1 ⟨rfl, hb⟩; rw [h1]; have hbb := hb; have zw1 : w.heap.size + 1 + 1 + 1 ≤ w1.heap.size := (by have := hb.size; simp at this; omega); have y2 : w.heap.size < w1.heap.size := (by omega); have c20 : w1.cell? ⟨w.heap.size, 0, none⟩ = some (.int .i64 t) := (hb.cell (p := ⟨w.heap.size, 0, none⟩) (by simp <;> omega)).trans (by simp [go_sem]); have c21 : w1.cell? ⟨w.heap.size, 1, none⟩ = some (.int .i64 v) := (hb.cell (p := ⟨w.heap.size, 1, none⟩) (by simp <;> omega)).trans (by simp [go_sem]); have c22 : w1.cell? ⟨w.heap.size, 2, none⟩ = some (.slice a l.length cap) := (hb.cell (p := ⟨w.heap.size, 2, none⟩) (by simp <;> omega)).trans (by simp [go_sem]); have y3 : w.heap.size + 1 < w1.heap.size := (by omega); have c30 : w1.cell? ⟨w.heap.size + 1, 0, none⟩ = some (.int .i64 t') := (hb.cell (p := ⟨w.heap.size + 1, 0, none⟩) (by simp <;> omega)).trans (by simp [go_sem]); have c31 : w1.cell? ⟨w.heap.size + 1, 1, none⟩ = some (.int .i64 v') := (hb.cell (p := ⟨w.heap.size + 1, 1, none⟩) (by simp <;> omega)).trans (by simp [go_sem]); have c32 : w1.cell? ⟨w.heap.size + 1, 2, none⟩ = some (.slice a' l'.length cap') := (hb.cell (p := ⟨w.heap.size + 1, 2, none⟩) (by simp <;> omega)).trans (by simp [go_sem]); have y4 : w.heap.size + 1 + 1 < w1.heap.size := (by omega); have c40 : w1.cell? ⟨w.heap.size + 1 + 1, 0, none⟩ = some (.int .i64 0) := (hb.cell (p := ⟨w.heap.size + 1 + 1, 0, none⟩) (by simp <;> omega)).trans (by simp [go_sem]); have c41 : w1.cell? ⟨w.heap.size + 1 + 1, 1, none⟩ = some (.slice none 0 0) := (hb.cell (p := ⟨w.heap.size + 1 + 1, 1, none⟩) (by simp <;> omega)).trans (by simp [go_sem]); have f40 : w1.frozen? ⟨w.heap.size + 1 + 1, 0, none⟩ = false := (hb.frozen (p := ⟨w.heap.size + 1 + 1, 0, none⟩) (by simp)).trans (by simp [go_sem]); have f41 : w1.frozen? ⟨w.heap.size + 1 + 1, 1, none⟩ = false := (hb.frozen (p := ⟨w.heap.size + 1 + 1, 1, none⟩) (by simp)).trans (by simp [go_sem]); have HB : Hid (Below w.heap.size w w1) := hb0.out.trans (hb.mono (by simp; omega)); clear hb hbb)
          | (go_at_call 31; refine (stableFits_any t' v' _ l' _ (hu.out.below HB.out) hll').mono ?_; rintro e w2 ⟨rfl, hb⟩; rw [h2]; have hbb : Below w1.heap.size w1 w2 := hb; have zw2 : w1.heap.size ≤ w2.heap.size := hbb.size; replace y2 : w.heap.size < w2.heap.size := (by omega); replace c20 : w2.cell? ⟨w.heap.size, 0, none⟩ = some (.int .i64 t) := (hbb.cell (p := ⟨w.heap.size, 0, none⟩) (show w.heap.size < w1.heap.size by omega)).trans c20; replace c21 : w2.cell? ⟨w.heap.size, 1, none⟩ = some (.int .i64 v) := (hbb.cell (p := ⟨w.heap.size, 1, none⟩) (show w.heap.size < w1.heap.size by omega)).trans c21; replace c22 : w2.cell? ⟨w.heap.size, 2, none⟩ = some (.slice a l.length cap) := (hbb.cell (p := ⟨w.heap.size, 2, none⟩) (show w.heap.size < w1.heap.size by omega)).trans c22; replace y3 : w.heap.size + 1 < w2.heap.size := (by omega); replace c30 : w2.cell? ⟨w.heap.size + 1, 0, none⟩ = some (.int .i64 t') := (hbb.cell (p := ⟨w.heap.size + 1, 0, none⟩) (show w.heap.size + 1 < w1.heap.size by omega)).trans c30; replace c31 : w2.cell? ⟨w.heap.size + 1, 1, none⟩ = some (.int .i64 v') := (hbb.cell (p := ⟨w.heap.size + 1, 1, none⟩) (show w.heap.size + 1 < w1.heap.size by omega)).trans c31; replace c32 : w2.cell? ⟨w.heap.size + 1, 2, none⟩ = some (.slice a' l'.length cap') := (hbb.cell (p := ⟨w.heap.size + 1, 2, none⟩) (show w.heap.size + 1 < w1.heap.size by omega)).trans c32; replace y4 : w.heap.size + 1 + 1 < w2.heap.size := (by omega); replace c40 : w2.cell? ⟨w.heap.size + 1 + 1, 0, none⟩ = some (.int .i64 0) := (hbb.cell (p := ⟨w.heap.size + 1 + 1, 0, none⟩) (show w.heap.size + 1 + 1 < w1.heap.size by omega)).trans c40; replace c41 : w2.cell? ⟨w.heap.size + 1 + 1, 1, none⟩ = some (.slice none 0 0) := (hbb.cell (p := ⟨w.heap.size + 1 + 1, 1, none⟩) (show w.heap.size + 1 + 1 < w1.heap.size by omega)).trans c41; replace f40 : w2.frozen? ⟨w.heap.size + 1 + 1, 0, none⟩ = false := (hbb.frozen (p := ⟨w.heap.size + 1 + 1, 0, none⟩) (show w.heap.size + 1 + 1 < w1.heap.size by omega)).trans f40; replace f41 : w2.frozen? ⟨w.heap.size + 1 + 1, 1, none⟩ = false := (hbb.frozen (p := ⟨w.heap.size + 1 + 1, 1, none⟩) (show w.heap.size + 1 + 1 < w1.heap.size by omega)).trans f41; replace HB : Hid (Below w.heap.size w w2) := HB.out.trans (hbb.mono (by omega)); clear hb hbb)
          | (go_at_call 32; refine (follows_any t v t' v' _ _ _ _).mono ?_; rintro e w3 ⟨rfl, hb⟩; rw [h3]; have hbb : Below w2.heap.size w2 w3 := ((Below.refl _ _).alloc (Nat.le_refl _) _).trans (hb.mono (by simp)); have zw3 : w2.heap.size < w3.heap.size := (by have := hb.size; simp at this; omega); replace y2 : w.heap.size < w3.heap.size := (by omega); replace c20 : w3.cell? ⟨w.heap.size, 0, none⟩ = some (.int .i64 t) := (hbb.cell (p := ⟨w.heap.size, 0, none⟩) (show w.heap.size < w2.heap.size by omega)).trans c20; replace c21 : w3.cell? ⟨w.heap.size, 1, none⟩ = some (.int .i64 v) := (hbb.cell (p := ⟨w.heap.size, 1, none⟩) (show w.heap.size < w2.heap.size by omega)).trans c21; replace c22 : w3.cell? ⟨w.heap.size, 2, none⟩ = some (.slice a l.length cap) := (hbb.cell (p := ⟨w.heap.size, 2, none⟩) (show w.heap.size < w2.heap.size by omega)).trans c22; replace y3 : w.heap.size + 1 < w3.heap.size := (by omega); replace c30 : w3.cell? ⟨w.heap.size + 1, 0, none⟩ = some (.int .i64 t') := (hbb.cell (p := ⟨w.heap.size + 1, 0, none⟩) (show w.heap.size + 1 < w2.heap.size by omega)).trans c30; replace c31 : w3.cell? ⟨w.heap.size + 1, 1, none⟩ = some (.int .i64 v') := (hbb.cell (p := ⟨w.heap.size + 1, 1, none⟩) (show w.heap.size + 1 < w2.heap.size by omega)).trans c31; replace c32 : w3.cell? ⟨w.heap.size + 1, 2, none⟩ = some (.slice a' l'.length cap') := (hbb.cell (p := ⟨w.heap.size + 1, 2, none⟩) (show w.heap.size + 1 < w2.heap.size by omega)).trans c32; replace y4 : w.heap.size + 1 + 1 < w3.heap.size := (by omega); replace c40 : w3.cell? ⟨w.heap.size + 1 + 1, 0, none⟩ = some (.int .i64 0) := (hbb.cell (p := ⟨w.heap.size + 1 + 1, 0, none⟩) (show w.heap.size + 1 + 1 < w2.heap.size by omega)).trans c40; replace c41 : w3.cell? ⟨w.heap.size + 1 + 1, 1, none⟩ = some (.slice none 0 0) := (hbb.cell (p := ⟨w.heap.size + 1 + 1, 1, none⟩) (show w.heap.size + 1 + 1 < w2.heap.size by omega)).trans c41; replace f40 : w3.frozen? ⟨w.heap.size + 1 + 1, 0, none⟩ = false := (hbb.frozen (p := ⟨w.heap.size + 1 + 1, 0, none⟩) (show w.heap.size + 1 + 1 < w2.heap.size by omega)).trans f40; replace f41 : w3.frozen? ⟨w.heap.size + 1 + 1, 1, none⟩ = false := (hbb.frozen (p := ⟨w.heap.size + 1 + 1, 1, none⟩) (show w.heap.size + 1 + 1 < w2.heap.size by omega)).trans f41; have y5 : w2.heap.size < w3.heap.size := (by omega); have c50 : w3.cell? ⟨w2.heap.size, 0, none⟩ = some (.int .i64 t') := (hb.cell (p := ⟨w2.heap.size, 0, none⟩) (by simp)).trans (by simp); have c51 : w3.cell? ⟨w2.heap.size, 1, none⟩ = some (.int .i64 v') := (hb.cell (p := ⟨w2.heap.size, 1, none⟩) (by simp)).trans (by simp); replace HB : Hid (Below w.heap.size w w3) := HB.out.trans (hbb.mono (by omega)); clear hb hbb))
        refine bodyPost_ret (v := .agg #[.int .i64 3, .slice none 0 0]) (by simp [results, Try.results9, go_sem, c40, c41]) rfl ⟨_, _, rfl, OwnR.nil _ _, ?_⟩
        exact (HB.out.setCell (show w.heap.size ≤ w.heap.size + 1 + 1 by omega) _).setCell (show w.heap.size ≤ w.heap.size + 1 + 1 by omega) _
      · have e1 : planC t v l t' v' l' = 0 := by simp [planC, h1, h2, h3]
        have e2 : planL t v l t' v' l' = planAll t v l t' v' l' := by simp [planL, e1]
        rw [e1, e2]
        clear e1 e2
        have hs1 := stB_len h1
        have hs2 := stB_len h2
        have hcl := comK_le l l'
        go_enter Try.func9, Try.ntmps9
        go_upto_region 9 with (first
          | (go_at_call 31; clear g1; refine (stableFits_any t v _ l _ (hv.out.below hb0.out) hll).mono ?_; rintro e w1 ⟨rfl, hb⟩; rw [h1]; have hbb := hb; have zw1 : w.heap.size + 1 + 1 + 1 ≤ w1.heap.size := (by have := hb.size; simp at this; omega); have y2 : w.heap.size < w1.heap.size := (by omega); have c20 : w1.cell? ⟨w.heap.size, 0, none⟩ = some (.int .i64 t) := (hb.cell (p := ⟨w.heap.size, 0, none⟩) (by simp <;> omega)).trans (by simp [go_sem]); have c21 : w1.cell? ⟨w.heap.size, 1, none⟩ = some (.int .i64 v) := (hb.cell (p := ⟨w.heap.size, 1, none⟩) (by simp <;> omega)).trans (by simp [go_sem]); have c22 : w1.cell? ⟨w.heap.size, 2, none⟩ = some (.slice a l.length cap) := (hb.cell (p := ⟨w.heap.size, 2, none⟩) (by simp <;> omega)).trans (by simp [go_sem]); have y3 : w.heap.size + 1 < w1.heap.size := (by omega); have c30 : w1.cell? ⟨w.heap.size + 1, 0, none⟩ = some (.int .i64 t') := (hb.cell (p := ⟨w.heap.size + 1, 0, none⟩) (by simp <;> omega)).trans (by simp [go_sem]); have c31 : w1.cell? ⟨w.heap.size + 1, 1, none⟩ = some (.int .i64 v') := (hb.cell (p := ⟨w.heap.size + 1, 1, none⟩) (by simp <;> omega)).trans (by simp [go_sem]); have c32 : w1.cell? ⟨w.heap.size + 1, 2, none⟩ = some (.slice a' l'.length cap') := (hb.cell (p := ⟨w.heap.size + 1, 2, none⟩) (by simp <;> omega)).trans (by simp [go_sem]); have y4 : w.heap.size + 1 + 1 < w1.heap.size := (by omega); have c40 : w1.cell? ⟨w.heap.size + 1 + 1, 0, none⟩ = some (.int .i64 0) := (hb.cell (p := ⟨w.heap.size + 1 + 1, 0, none⟩) (by simp <;> omega)).trans (by simp [go_sem]); have c41 : w1.cell? ⟨w.heap.size + 1 + 1, 1, none⟩ = some (.slice none 0 0) := (hb.cell (p := ⟨w.heap.size + 1 + 1, 1, none⟩) (by simp <;> omega)).trans (by simp [go_sem]); have f40 : w1.frozen? ⟨w.heap.size + 1 + 1, 0, none⟩ = false := (hb.frozen (p := ⟨w.heap.size + 1 + 1, 0, none⟩) (by simp)).trans (by simp [go_sem]); have f41 : w1.frozen? ⟨w.heap.size + 1 + 1, 1, none⟩ = false := (hb.frozen (p := ⟨w.heap.size + 1 + 1, 1, none⟩) (by simp)).trans (by simp [go_sem]); have HB : Hid (Below w.heap.size w w1) := hb0.out.trans (hb.mono (by simp; omega)); clear hb hbb)
          | (go_at_call 31; refine (stableFits_any t' v' _ l' _ (hu.out.below HB.out) hll').mono ?_; rintro e w2 ⟨rfl, hb⟩; rw [h2]; have hbb : Below w1.heap.size w1 w2 := hb; have zw2 : w1.heap.size ≤ w2.heap.size := hbb.size; replace y2 : w.heap.size < w2.heap.size := (by omega); replace c20 : w2.cell? ⟨w.heap.size, 0, none⟩ = some (.int .i64 t) := (hbb.cell (p := ⟨w.heap.size, 0, none⟩) (show w.heap.size < w1.heap.size by omega)).trans c20; replace c21 : w2.cell? ⟨w.heap.size, 1, none⟩ = some (.int .i64 v) := (hbb.cell (p := ⟨w.heap.size, 1, none⟩) (show w.heap.size < w1.heap.size by omega)).trans c21; replace c22 : w2.cell? ⟨w.heap.size, 2, none⟩ = some (.slice a l.length cap) := (hbb.cell (p := ⟨w.heap.size, 2, none⟩) (show w.heap.size < w1.heap.size by omega)).trans c22; replace y3 : w.heap.size + 1 < w2.heap.size := (by omega); replace c30 : w2.cell? ⟨w.heap.size + 1, 0, none⟩ = some (.int .i64 t') := (hbb.cell (p := ⟨w.heap.size + 1, 0, none⟩) (show w.heap.size + 1 < w1.heap.size by omega)).trans c30; replace c31 : w2.cell? ⟨w.heap.size + 1, 1, none⟩ = some (.int .i64 v') := (hbb.cell (p := ⟨w.heap.size + 1, 1, none⟩) (show w.heap.size + 1 < w1.heap.size by omega)).trans c31; replace c32 : w2.cell? ⟨w.heap.size + 1, 2, none⟩ = some (.slice a' l'.length cap') := (hbb.cell (p := ⟨w.heap.size + 1, 2, none⟩) (show w.heap.size + 1 < w1.heap.size by omega)).trans c32; replace y4 : w.heap.size + 1 + 1 < w2.heap.size := (by omega); replace c40 : w2.cell? ⟨w.heap.size + 1 + 1, 0, none⟩ = some (.int .i64 0) := (hbb.cell (p := ⟨w.heap.size + 1 + 1, 0, none⟩) (show w.heap.size + 1 + 1 < w1.heap.size by omega)).trans c40; replace c41 : w2.cell? ⟨w.heap.size + 1 + 1, 1, none⟩ = some (.slice none 0 0) := (hbb.cell (p := ⟨w.heap.size + 1 + 1, 1, none⟩) (show w.heap.size + 1 + 1 < w1.heap.size by omega)).trans c41; replace f40 : w2.frozen? ⟨w.heap.size + 1 + 1, 0, none⟩ = false := (hbb.frozen (p := ⟨w.heap.size + 1 + 1, 0, none⟩) (show w.heap.size + 1 + 1 < w1.heap.size by omega)).trans f40; replace f41 : w2.frozen? ⟨w.heap.size + 1 + 1, 1, none⟩ = false := (hbb.frozen (p := ⟨w.heap.size + 1 + 1, 1, none⟩) (show w.heap.size + 1 + 1 < w1.heap.size by omega)).trans f41; replace HB : Hid (Below w.heap.size w w2) := HB.out.trans (hbb.mono (by omega)); clear hb hbb)
          | (go_at_call 32; refine (follows_any t v t' v' _ _ _ _).mono ?_; rintro e w3 ⟨rfl, hb⟩; rw [h3]; have hbb : Below w2.heap.size w2 w3 := ((Below.refl _ _).alloc (Nat.le_refl _) _).trans (hb.mono (by simp)); have zw3 : w2.heap.size < w3.heap.size := (by have := hb.size; simp at this; omega); replace y2 : w.heap.size < w3.heap.size := (by omega); replace c20 : w3.cell? ⟨w.heap.size, 0, none⟩ = some (.int .i64 t) := (hbb.cell (p := ⟨w.heap.size, 0, none⟩) (show w.heap.size < w2.heap.size by omega)).trans c20; replace c21 : w3.cell? ⟨w.heap.size, 1, none⟩ = some (.int .i64 v) := (hbb.cell (p := ⟨w.heap.size, 1, none⟩) (show w.heap.size < w2.heap.size by omega)).trans c21; replace c22 : w3.cell? ⟨w.heap.size, 2, none⟩ = some (.slice a l.length cap) := (hbb.cell (p := ⟨w.heap.size, 2, none⟩) (show w.heap.size < w2.heap.size by omega)).trans c22; replace y3 : w.heap.size + 1 < w3.heap.size := (by omega); replace c30 : w3.cell? ⟨w.heap.size + 1, 0, none⟩ = some (.int .i64 t') := (hbb.cell (p := ⟨w.heap.size + 1, 0, none⟩) (show w.heap.size + 1 < w2.heap.size by omega)).trans c30; replace c31 : w3.cell? ⟨w.heap.size + 1, 1, none⟩ = some (.int .i64 v') := (hbb.cell (p := ⟨w.heap.size + 1, 1, none⟩) (show w.heap.size + 1 < w2.heap.size by omega)).trans c31; replace c32 : w3.cell? ⟨w.heap.size + 1, 2, none⟩ = some (.slice a' l'.length cap') := (hbb.cell (p := ⟨w.heap.size + 1, 2, none⟩) (show w.heap.size + 1 < w2.heap.size by omega)).trans c32; replace y4 : w.heap.size + 1 + 1 < w3.heap.size := (by omega); replace c40 : w3.cell? ⟨w.heap.size + 1 + 1, 0, none⟩ = some (.int .i64 0) := (hbb.cell (p := ⟨w.heap.size + 1 + 1, 0, none⟩) (show w.heap.size + 1 + 1 < w2.heap.size by omega)).trans c40; replace c41 : w3.cell? ⟨w.heap.size + 1 + 1, 1, none⟩ = some (.slice none 0 0) := (hbb.cell (p := ⟨w.heap.size + 1 + 1, 1, none⟩) (show w.heap.size + 1 + 1 < w2.heap.size by omega)).trans c41; replace f40 : w3.frozen? ⟨w.heap.size + 1 + 1, 0, none⟩ = false := (hbb.frozen (p := ⟨w.heap.size + 1 + 1, 0, none⟩) (show w.heap.size + 1 + 1 < w2.heap.size by omega)).trans f40; replace f41 : w3.frozen? ⟨w.heap.size + 1 + 1, 1, none⟩ = false := (hbb.frozen (p := ⟨w.heap.size + 1 + 1, 1, none⟩) (show w.heap.size + 1 + 1 < w2.heap.size by omega)).trans f41; have y5 : w2.heap.size < w3.heap.size := (by omega); have c50 : w3.cell? ⟨w2.heap.size, 0, none⟩ = some (.int .i64 t') := (hb.cell (p := ⟨w2.heap.size, 0, none⟩) (by simp)).trans (by simp); have c51 : w3.cell? ⟨w2.heap.size, 1, none⟩ = some (.int .i64 v') := (hb.cell (p := ⟨w2.heap.size, 1, none⟩) (by simp)).trans (by simp); replace HB : Hid (Below w.heap.size w w3) := HB.out.trans (hbb.mono (by omega)); clear hb hbb))
        go_cut [40] (fun s40 wx => s40 = .bool (difB t v t' v') ∧ wx = w3)
        case first =>
          by_cases ht : t' = t
          · subst ht
            by_cases hv0 : v' = v
            · subst hv0
              go_wp2_with fail
              go_meet
              exact ⟨by simp [difB], rfl⟩
            · go_wp2_with fail
              go_meet
              exact ⟨by simp [difB, hv0], rfl⟩
          · go_wp2_with fail
            go_meet
            exact ⟨by simp [difB, ht], rfl⟩
        case rest =>
          obtain ⟨rfl, hwc⟩ := hcut
          obtain rfl := hwc.symm
          clear hwc
          go_upto_if 40 with fail
          go_cut [6] (fun s6 wx => OwnR wx w3.heap.size s6 (hardL t v t' v') ∧ Below w3.heap.size w3 wx)
          case first =>
            cases hd : difB t v t' v'
            · have e : hardL t v t' v' = [] := by simp [hardL, hd]
              go_wp2_with fail
              go_meet
              exact ⟨by rw [e]; exact OwnR.nil _ _, Below.refl _ _⟩
            · have e : hardL t v t' v' = [] ++ [⟨1, t', v', 0, zeroE⟩] := by simp [hardL, hd]
              have HE : Hid (hardL t v t' v' = [] ++ [⟨1, t', v', 0, zeroE⟩]) := e
              clear e
              go_wp2_with (first
                | (go_at_call 33; refine (hardRecord_any t' v' _).mono ?_; rintro e w4 ⟨rfl, hb⟩; have z4 : w3.heap.size ≤ w4.heap.size := hb.size; have ho4 : OwnR (w4.alloc (.cells #[.int .i64 1, .int .i64 t', .int .i64 v', .int .i64 0, .int .i64 0, .int .i64 0, .int .i64 0, .int .i64 0, .string ⟨#[]⟩, .string ⟨#[]⟩, .string ⟨#[]⟩] 68)) w3.heap.size (.slice none 0 0) [] := OwnR.nil _ _; have hB4 := hb.alloc z4 (.cells #[.int .i64 1, .int .i64 t', .int .i64 v', .int .i64 0, .int .i64 0, .int .i64 0, .int .i64 0, .int .i64 0, .string ⟨#[]⟩, .string ⟨#[]⟩, .string ⟨#[]⟩] 68))
                | (at_builtin; refine wpl_appendR rfl (.tmp 41) (.tmp 44) rfl ⟨1, t', v', 0, zeroE⟩ ho4 rfl w4.heap.size 1 (range_new' _ _ _) rfl (by simp) (by simp; omega) ?_; intro v5 w5 ho5 hg5; have hB5 := hB4.trans (growR hg5 ho4 (by simp; omega))))
              go_meet
              exact ⟨by rw [HE.out]; exact ho5, hB5⟩
          case rest =>
            obtain ⟨ho6, hb6⟩ := hcut
            have zc : w3.heap.size ≤ wc.heap.size := hb6.size
            replace y2 : w.heap.size < wc.heap.size := by omega
            replace c20 : wc.cell? ⟨w.heap.size, 0, none⟩ = some (.int .i64 t) := (hb6.cell (p := ⟨w.heap.size, 0, none⟩) (show w.heap.size < w3.heap.size by omega)).trans c20
            replace c21 : wc.cell? ⟨w.heap.size, 1, none⟩ = some (.int .i64 v) := (hb6.cell (p := ⟨w.heap.size, 1, none⟩) (show w.heap.size < w3.heap.size by omega)).trans c21
            replace c22 : wc.cell? ⟨w.heap.size, 2, none⟩ = some (.slice a l.length cap) := (hb6.cell (p := ⟨w.heap.size, 2, none⟩) (show w.heap.size < w3.heap.size by omega)).trans c22
            replace y3 : w.heap.size + 1 < wc.heap.size := by omega
            replace c30 : wc.cell? ⟨w.heap.size + 1, 0, none⟩ = some (.int .i64 t') := (hb6.cell (p := ⟨w.heap.size + 1, 0, none⟩) (show w.heap.size + 1 < w3.heap.size by omega)).trans c30
            replace c31 : wc.cell? ⟨w.heap.size + 1, 1, none⟩ = some (.int .i64 v') := (hb6.cell (p := ⟨w.heap.size + 1, 1, none⟩) (show w.heap.size + 1 < w3.heap.size by omega)).trans c31
            replace c32 : wc.cell? ⟨w.heap.size + 1, 2, none⟩ = some (.slice a' l'.length cap') := (hb6.cell (p := ⟨w.heap.size + 1, 2, none⟩) (show w.heap.size + 1 < w3.heap.size by omega)).trans c32
            replace y4 : w.heap.size + 1 + 1 < wc.heap.size := by omega
            replace c40 : wc.cell? ⟨w.heap.size + 1 + 1, 0, none⟩ = some (.int .i64 0) := (hb6.cell (p := ⟨w.heap.size + 1 + 1, 0, none⟩) (show w.heap.size + 1 + 1 < w3.heap.size by omega)).trans c40
            replace c41 : wc.cell? ⟨w.heap.size + 1 + 1, 1, none⟩ = some (.slice none 0 0) := (hb6.cell (p := ⟨w.heap.size + 1 + 1, 1, none⟩) (show w.heap.size + 1 + 1 < w3.heap.size by omega)).trans c41
            replace f40 : wc.frozen? ⟨w.heap.size + 1 + 1, 0, none⟩ = false := (hb6.frozen (p := ⟨w.heap.size + 1 + 1, 0, none⟩) (show w.heap.size + 1 + 1 < w3.heap.size by omega)).trans f40
            replace f41 : wc.frozen? ⟨w.heap.size + 1 + 1, 1, none⟩ = false := (hb6.frozen (p := ⟨w.heap.size + 1 + 1, 1, none⟩) (show w.heap.size + 1 + 1 < w3.heap.size by omega)).trans f41
            replace HB : Hid (Below w.heap.size w wc) := HB.out.trans (hb6.mono (by omega))
            obtain ⟨a6, cap6, rfl⟩ := ho6.shape
            have HO : Hid (OwnR wc w3.heap.size (.slice a6 (hardL t v t' v').length cap6) (hardL t v t' v')) := ho6
            clear ho6 hb6
            go_upto_if 55 with (go_at_call 34; refine (commonLength_any _ _ l l' _ (hv.out.below HB.out) (hu.out.below HB.out) hll hll').mono ?_; rintro e w6 ⟨rfl, hb⟩; have zw6 : wc.heap.size ≤ w6.heap.size := hb.size; replace y2 : w.heap.size < w6.heap.size := (by omega); replace c20 : w6.cell? ⟨w.heap.size, 0, none⟩ = some (.int .i64 t) := (hb.cell (p := ⟨w.heap.size, 0, none⟩) (show w.heap.size < wc.heap.size by omega)).trans c20; replace c21 : w6.cell? ⟨w.heap.size, 1, none⟩ = some (.int .i64 v) := (hb.cell (p := ⟨w.heap.size, 1, none⟩) (show w.heap.size < wc.heap.size by omega)).trans c21; replace c22 : w6.cell? ⟨w.heap.size, 2, none⟩ = some (.slice a l.length cap) := (hb.cell (p := ⟨w.heap.size, 2, none⟩) (show w.heap.size < wc.heap.size by omega)).trans c22; replace y3 : w.heap.size + 1 < w6.heap.size := (by omega); replace c30 : w6.cell? ⟨w.heap.size + 1, 0, none⟩ = some (.int .i64 t') := (hb.cell (p := ⟨w.heap.size + 1, 0, none⟩) (show w.heap.size + 1 < wc.heap.size by omega)).trans c30; replace c31 : w6.cell? ⟨w.heap.size + 1, 1, none⟩ = some (.int .i64 v') := (hb.cell (p := ⟨w.heap.size + 1, 1, none⟩) (show w.heap.size + 1 < wc.heap.size by omega)).trans c31; replace c32 : w6.cell? ⟨w.heap.size + 1, 2, none⟩ = some (.slice a' l'.length cap') := (hb.cell (p := ⟨w.heap.size + 1, 2, none⟩) (show w.heap.size + 1 < wc.heap.size by omega)).trans c32; replace y4 : w.heap.size + 1 + 1 < w6.heap.size := (by omega); replace c40 : w6.cell? ⟨w.heap.size + 1 + 1, 0, none⟩ = some (.int .i64 0) := (hb.cell (p := ⟨w.heap.size + 1 + 1, 0, none⟩) (show w.heap.size + 1 + 1 < wc.heap.size by omega)).trans c40; replace c41 : w6.cell? ⟨w.heap.size + 1 + 1, 1, none⟩ = some (.slice none 0 0) := (hb.cell (p := ⟨w.heap.size + 1 + 1, 1, none⟩) (show w.heap.size + 1 + 1 < wc.heap.size by omega)).trans c41; replace f40 : w6.frozen? ⟨w.heap.size + 1 + 1, 0, none⟩ = false := (hb.frozen (p := ⟨w.heap.size + 1 + 1, 0, none⟩) (show w.heap.size + 1 + 1 < wc.heap.size by omega)).trans f40; replace f41 : w6.frozen? ⟨w.heap.size + 1 + 1, 1, none⟩ = false := (hb.frozen (p := ⟨w.heap.size + 1 + 1, 1, none⟩) (show w.heap.size + 1 + 1 < wc.heap.size by omega)).trans f41; replace HB : Hid (Below w.heap.size w w6) := HB.out.trans (hb.mono (by omega)); replace HO : Hid (OwnR w6 w3.heap.size (.slice a6 (hardL t v t' v').length cap6) (hardL t v t' v')) := HO.out.below hb; clear hb)
            have hh1 := hardL_len t v t' v'
            have hh2 := cutL_len l l'
            have HP : Hid (planAll t v l t' v' l' = hardL t v t' v' ++ cutL l l' ++ addsL (comK l l') (l'.drop (comK l l'))) := rfl
            go_cut [6] (fun s6 wx => OwnR wx w3.heap.size s6 (hardL t v t' v' ++ cutL l l') ∧ Below w3.heap.size w6 wx)
            case first =>
              by_cases hk : comK l l' < l.length
              · have HE : Hid (hardL t v t' v' ++ cutL l l' = hardL t v t' v' ++ [⟨3, 0, 0, (comK l l' : Nat), zeroE⟩]) := by unfold Hid; rw [cutL, if_pos hk]
                clear hh2
                go_wp2_with (first
                  | (go_at_call 35; refine (cutRecord_any (comK l l' : Nat) _).mono ?_; rintro e w7 ⟨rfl, hb⟩; have z7 : w6.heap.size ≤ w7.heap.size := hb.size; have hB7 : Below w6.heap.size w6 (w7.alloc (.cells #[.int .i64 3, .int .i64 0, .int .i64 0, .int .i64 (comK l l' : Nat), .int .i64 0, .int .i64 0, .int .i64 0, .int .i64 0, .string ⟨#[]⟩, .string ⟨#[]⟩, .string ⟨#[]⟩] 68)) := hb.alloc z7 _; have ho7 := HO.out.below hB7)
                  | (at_builtin; refine wpl_appendR rfl (.tmp 56) (.tmp 60) rfl ⟨3, 0, 0, (comK l l' : Nat), zeroE⟩ ho7 rfl w7.heap.size 1 (range_new' _ _ _) rfl (by omega) (by simp; omega) ?_; intro v8 w8 ho8 hg8; have hB8 := (hB7.mono (show w3.heap.size ≤ w6.heap.size by omega)).trans (growR hg8 ho7 (by simp; omega))))
                go_meet
                exact ⟨by rw [HE.out]; exact ho8, hB8⟩
              · have HE : Hid (hardL t v t' v' ++ cutL l l' = hardL t v t' v') := by unfold Hid; rw [cutL, if_neg hk, List.append_nil]
                clear hh2
                go_wp2_with fail
                go_meet
                exact ⟨by rw [HE.out]; exact HO.out, Below.refl _ _⟩
            case rest =>
              obtain ⟨ho8, hb8⟩ := hcut
              have zc8 : w6.heap.size ≤ wc.heap.size := hb8.size
              replace y2 : w.heap.size < wc.heap.size := by omega
              replace c20 : wc.cell? ⟨w.heap.size, 0, none⟩ = some (.int .i64 t) := (hb8.cell (p := ⟨w.heap.size, 0, none⟩) (show w.heap.size < w3.heap.size by omega)).trans c20
              replace c21 : wc.cell? ⟨w.heap.size, 1, none⟩ = some (.int .i64 v) := (hb8.cell (p := ⟨w.heap.size, 1, none⟩) (show w.heap.size < w3.heap.size by omega)).trans c21
              replace c22 : wc.cell? ⟨w.heap.size, 2, none⟩ = some (.slice a l.length cap) := (hb8.cell (p := ⟨w.heap.size, 2, none⟩) (show w.heap.size < w3.heap.size by omega)).trans c22
              replace y3 : w.heap.size + 1 < wc.heap.size := by omega
              replace c30 : wc.cell? ⟨w.heap.size + 1, 0, none⟩ = some (.int .i64 t') := (hb8.cell (p := ⟨w.heap.size + 1, 0, none⟩) (show w.heap.size + 1 < w3.heap.size by omega)).trans c30
              replace c31 : wc.cell? ⟨w.heap.size + 1, 1, none⟩ = some (.int .i64 v') := (hb8.cell (p := ⟨w.heap.size + 1, 1, none⟩) (show w.heap.size + 1 < w3.heap.size by omega)).trans c31
              replace c32 : wc.cell? ⟨w.heap.size + 1, 2, none⟩ = some (.slice a' l'.length cap') := (hb8.cell (p := ⟨w.heap.size + 1, 2, none⟩) (show w.heap.size + 1 < w3.heap.size by omega)).trans c32
              replace y4 : w.heap.size + 1 + 1 < wc.heap.size := by omega
              replace c40 : wc.cell? ⟨w.heap.size + 1 + 1, 0, none⟩ = some (.int .i64 0) := (hb8.cell (p := ⟨w.heap.size + 1 + 1, 0, none⟩) (show w.heap.size + 1 + 1 < w3.heap.size by omega)).trans c40
              replace c41 : wc.cell? ⟨w.heap.size + 1 + 1, 1, none⟩ = some (.slice none 0 0) := (hb8.cell (p := ⟨w.heap.size + 1 + 1, 1, none⟩) (show w.heap.size + 1 + 1 < w3.heap.size by omega)).trans c41
              replace f40 : wc.frozen? ⟨w.heap.size + 1 + 1, 0, none⟩ = false := (hb8.frozen (p := ⟨w.heap.size + 1 + 1, 0, none⟩) (show w.heap.size + 1 + 1 < w3.heap.size by omega)).trans f40
              replace f41 : wc.frozen? ⟨w.heap.size + 1 + 1, 1, none⟩ = false := (hb8.frozen (p := ⟨w.heap.size + 1 + 1, 1, none⟩) (show w.heap.size + 1 + 1 < w3.heap.size by omega)).trans f41
              replace HB : Hid (Below w.heap.size w wc) := HB.out.trans (hb8.mono (by omega))
              have HS8 : Hid (OwnR wc w3.heap.size _ (hardL t v t' v' ++ cutL l l')) := ho8
              clear ho8 hb8 HO
              go_wp2
              go_loopw [6, 8] (fun s6 s8 wr => ∃ (i : Nat) (acc : List Rec), comK l l' ≤ i ∧ i ≤ l'.length ∧ s8 = .int .i64 i ∧ OwnR wr w3.heap.size s6 acc ∧ acc ++ addsL i (l'.drop i) = planAll t v l t' v' l' ∧ acc.length ≤ i + 2 ∧ Below w3.heap.size wc wr) (fun _ i _ => l'.length - (intOf i).toNat)
              case atStart => exact ⟨comK l l', _, Nat.le_refl _, hcl.2, rfl, HS8.out, rfl, by rw [List.length_append]; omega, Below.refl _ _⟩
              case round =>
                obtain ⟨i, acc, h4, h5, rfl, hoR, hacc, hal, hBr⟩ := hrel
                have HA : Hid (acc ++ addsL i (l'.drop i) = planAll t v l t' v' l') := hacc
                have zr := hBr.size
                clear hacc
                replace y2 : w.heap.size < wr.heap.size := by omega
                replace c20 : wr.cell? ⟨w.heap.size, 0, none⟩ = some (.int .i64 t) := (hBr.cell (p := ⟨w.heap.size, 0, none⟩) (show w.heap.size < w3.heap.size by omega)).trans c20
                replace c21 : wr.cell? ⟨w.heap.size, 1, none⟩ = some (.int .i64 v) := (hBr.cell (p := ⟨w.heap.size, 1, none⟩) (show w.heap.size < w3.heap.size by omega)).trans c21
                replace c22 : wr.cell? ⟨w.heap.size, 2, none⟩ = some (.slice a l.length cap) := (hBr.cell (p := ⟨w.heap.size, 2, none⟩) (show w.heap.size < w3.heap.size by omega)).trans c22
                replace y3 : w.heap.size + 1 < wr.heap.size := by omega
                replace c30 : wr.cell? ⟨w.heap.size + 1, 0, none⟩ = some (.int .i64 t') := (hBr.cell (p := ⟨w.heap.size + 1, 0, none⟩) (show w.heap.size + 1 < w3.heap.size by omega)).trans c30
                replace c31 : wr.cell? ⟨w.heap.size + 1, 1, none⟩ = some (.int .i64 v') := (hBr.cell (p := ⟨w.heap.size + 1, 1, none⟩) (show w.heap.size + 1 < w3.heap.size by omega)).trans c31
                replace c32 : wr.cell? ⟨w.heap.size + 1, 2, none⟩ = some (.slice a' l'.length cap') := (hBr.cell (p := ⟨w.heap.size + 1, 2, none⟩) (show w.heap.size + 1 < w3.heap.size by omega)).trans c32
                replace y4 : w.heap.size + 1 + 1 < wr.heap.size := by omega
                replace c40 : wr.cell? ⟨w.heap.size + 1 + 1, 0, none⟩ = some (.int .i64 0) := (hBr.cell (p := ⟨w.heap.size + 1 + 1, 0, none⟩) (show w.heap.size + 1 + 1 < w3.heap.size by omega)).trans c40
                replace c41 : wr.cell? ⟨w.heap.size + 1 + 1, 1, none⟩ = some (.slice none 0 0) := (hBr.cell (p := ⟨w.heap.size + 1 + 1, 1, none⟩) (show w.heap.size + 1 + 1 < w3.heap.size by omega)).trans c41
                replace f40 : wr.frozen? ⟨w.heap.size + 1 + 1, 0, none⟩ = false := (hBr.frozen (p := ⟨w.heap.size + 1 + 1, 0, none⟩) (show w.heap.size + 1 + 1 < w3.heap.size by omega)).trans f40
                replace f41 : wr.frozen? ⟨w.heap.size + 1 + 1, 1, none⟩ = false := (hBr.frozen (p := ⟨w.heap.size + 1 + 1, 1, none⟩) (show w.heap.size + 1 + 1 < w3.heap.size by omega)).trans f41
                have HBr : Hid (Below w.heap.size w wr) := HB.out.trans (hBr.mono (by omega))
                by_cases hlt : i < l'.length
                · have hE := hu.out.below HBr.out
                  obtain ⟨_, hf', a'', cap'', he, hc'⟩ := hE
                  injection he with e1 e2 e3
                  subst e1
                  subst e3
                  obtain ⟨b, off, rfl, hj⟩ := hc' i hlt
                  obtain ⟨d0, d1, d2, d3, d4, d5, d6⟩ := hj i hlt
                  have HD : Hid (addsL i (l'.drop i) = ⟨2, 0, 0, (i : Int) + 1, l'[i]⟩ :: addsL (i + 1) (l'.drop (i + 1))) := by unfold Hid; rw [List.drop_eq_getElem_cons hlt]; simp [addsL]
                  clear hc' hj hf' e2
                  generalize l'[i] = e at *
                  go_wp2_with (first
                    | (go_at_call 36; refine (addRecord_any ((i : Int) + 1) e _).mono ?_; rintro x w7 ⟨rfl, hb⟩; have z7 : wr.heap.size ≤ w7.heap.size := hb.size; have hB7 : Below wr.heap.size wr (w7.alloc (.cells #[.int .i64 2, .int .i64 0, .int .i64 0, .int .i64 ((i : Int) + 1), .int .i64 e.t, .int .i64 e.cl, .int .i64 e.sq, .int .i64 e.op, .string e.k, .string e.v, .string e.o] 68)) := hb.alloc z7 _; have ho7 := hoR.below hB7)
                    | (at_builtin; refine wpl_appendR rfl (.tmp 70) (.tmp 80) rfl ⟨2, 0, 0, (i : Int) + 1, e⟩ ho7 rfl w7.heap.size 1 (range_new' _ _ _) rfl (by omega) (by simp; omega) ?_; intro v8 w8 ho8 hg8; have hB8 := (hB7.mono (show w3.heap.size ≤ wr.heap.size by omega)).trans (growR hg8 ho7 (by simp; omega))))
                  go_roundw
                  case rel => exact ⟨i + 1, _, by omega, by omega, by go_num, ho8, by rw [List.append_assoc, ← HA.out, HD.out]; rfl, by rw [List.length_append]; simp; omega, hBr.trans hB8⟩
                  case measure => simp [intOf]; omega
                · have hd : l'.drop i = [] := List.drop_of_length_le (by omega)
                  have hfin : Hid (acc = planAll t v l t' v' l') := by unfold Hid; rw [← HA.out, hd]; simp [addsL]
                  obtain ⟨a9, cap9, rfl⟩ := hoR.shape
                  clear hd HA
                  go_wp2
                  refine bodyPost_ret (v := .agg #[.int .i64 0, .slice a9 acc.length cap9]) (by simp [results, Try.results9, go_sem, c40, c41]) rfl ⟨a9, cap9, by rw [← hfin.out], ?_, ?_⟩
                  · rw [← hfin.out]
                    exact ((hoR.setLow (b := w.heap.size + 1 + 1) (by omega) _).setLow (b := w.heap.size + 1 + 1) (by omega) _).le (by omega)
                  · exact (HBr.out.setCell (show w.heap.size ≤ w.heap.size + 1 + 1 by omega) _).setCell (show w.heap.size ≤ w.heap.size + 1 + 1 by omega) _
end Go.Proofs.Ytmbiccmndcchhad
