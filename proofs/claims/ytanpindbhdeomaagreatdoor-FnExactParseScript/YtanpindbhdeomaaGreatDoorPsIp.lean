/-
  impl.readStep: what it knows of a line, in plain words.
-/
import Derived.Test.YtanpindbhdeomaaGreatDoorPsIk
import Derived.Test.YtanpindbhdeomaaGreatDoorPsLu
namespace Go.Proofs.YtanpindbhdeomaaGreatDoor
open Go.RowKit
set_option linter.unusedVariables false
set_option linter.unusedSimpArgs false

def zK (kd : Int) : Stp := ⟨kd, 0, 0, 0, 0, 0, 0, ⟨#[]⟩, ⟨#[]⟩, ⟨#[]⟩⟩
def stX (x : Stp) : Array Value := #[.int .i64 x.kd, .int .i64 x.a, .int .i64 x.b, .int .i64 x.c, .int .i64 x.cl, .int .i64 x.sq, .int .i64 x.op, .string x.k, .string x.v, .string x.o]
/-- the step ahead of its numbers, the words of its numbers -/
def StepPre (ws : List (List UInt8)) (kd : Int) (X : Stp) (T : List (List UInt8)) : Prop :=
  (kd ≠ 11 ∧ T = ws.tail ∧ X = zK kd) ∨
  (kd = 11 ∧ askG ws.tail ∧ T = [ws.getD 1 []] ∧ X = ⟨11, 0, 0, 0, 0, 0, opW (ws.getD 2 []), byA (ws.getD 3 []), askV ws.tail (opW (ws.getD 2 [])), askO ws.tail (opW (ws.getD 2 []))⟩) ∨
  (kd = 11 ∧ ¬ askG ws.tail ∧ T = [] ∧ ∃ op k v o, X = ⟨11, 0, 0, 0, 0, 0, op, k, v, o⟩)
theorem StepPre.kd {ws : List (List UInt8)} {kd : Int} {X : Stp} {T : List (List UInt8)} (h : StepPre ws kd X T) : X.kd = kd ∧ X.a = 0 ∧ X.b = 0 ∧ X.c = 0 := by
  rcases h with ⟨-, -, rfl⟩ | ⟨rfl, -, -, rfl⟩ | ⟨rfl, -, -, op, k, v, o, rfl⟩ <;> exact ⟨rfl, rfl, rfl, rfl⟩
/-- its first k numbers filled in -/
def fillX (X : Stp) (L : List Int) (k : Nat) : Stp := ⟨X.kd, if 0 < k then L.getD 0 0 else 0, if 1 < k then L.getD 1 0 else 0, if 2 < k then L.getD 2 0 else 0, X.cl, X.sq, X.op, X.k, X.v, X.o⟩
theorem fillX_zero {ws : List (List UInt8)} {kd : Int} {X : Stp} {T : List (List UInt8)} (h : StepPre ws kd X T) (L : List Int) : stX X = stX (fillX X L 0) := by
  obtain ⟨-, h1, h2, h3⟩ := h.kd
  unfold stX fillX
  simp [h1, h2, h3]
theorem fillX_next (X : Stp) (L : List Int) (k : Nat) (h : k < L.length) (h3 : k < 3) : (stX (fillX X L k)).setIfInBounds (k + 1) (.int .i64 L[k]) = stX (fillX X L (k + 1)) := by
  have hg : L.getD k 0 = L[k] := by simp [List.getD_eq_getElem?_getD, h]
  rcases (show k = 0 ∨ k = 1 ∨ k = 2 by omega) with rfl | rfl | rfl
  · rw [← hg]; rfl
  · rw [← hg]; rfl
  · rw [← hg]; rfl
theorem cntK_13 (kd : Int) : 1 ≤ cntK kd ∧ cntK kd ≤ 3 := by unfold cntK; (repeat' split) <;> omega
theorem getD_tail (ws : List (List UInt8)) (k : Nat) : ws.tail.getD k [] = ws.getD (k + 1) [] := by cases ws <;> simp
theorem askG_iff (ws : List (List UInt8)) (h1 : 1 ≤ ws.length) : askG ws.tail ↔ ¬ ws.length < 3 ∧ ¬ (opW (ws.getD 2 []) = 0 ∨ ws.length ≠ 3 + nTx (opW (ws.getD 2 []))) := by
  unfold askG
  rw [getD_tail, List.length_tail]
  generalize opW (ws.getD (1 + 1) []) = op
  constructor
  · rintro ⟨a, b, c⟩; exact ⟨by omega, fun h => h.elim b fun h => h (by omega)⟩
  · rintro ⟨a, b⟩
    have b1 : op ≠ 0 := fun h => b (.inl h)
    have b2 : ws.length = 3 + nTx op := Classical.byContradiction fun h => b (.inr h)
    exact ⟨by omega, b1, by omega⟩
theorem stepQ_pre {ws : List (List UInt8)} {kd : Int} {X : Stp} {T : List (List UInt8)} (h1 : 1 ≤ ws.length) (hk : kindK (ws.getD 0 []) = kd) (h0 : kd ≠ 0) (h : StepPre ws kd X T) (sv cc : Int) (had : Nat) :
    stepQ sv cc had ws = if T.length ≠ cntK kd then (5, zS) else if had = 4096 then (5, zS) else if T.all numOk = false then (6, zS) else if stOk sv cc (fillX X (T.map numV) (cntK kd)) = true then (0, fillX X (T.map numV) (cntK kd)) else (7, zS) := by
  unfold stepQ
  rw [hk, if_neg h0]
  by_cases h9 : had = 4096
  · rw [if_pos h9]
    split
    · rfl
    · rfl
  rw [if_neg h9, if_neg h9]
  rcases h with ⟨h11, rfl, rfl⟩ | ⟨rfl, hG, rfl, rfl⟩ | ⟨rfl, hG, rfl, op, k, v, o, rfl⟩
  · rw [if_neg h11]
    by_cases hl : ws.length = 1 + cntK kd
    · rw [if_neg (fun h => h hl), if_neg (show ¬ ws.tail.length ≠ cntK kd by rw [List.length_tail]; omega)]
      have e : numS kd ws = fillX (zK kd) (ws.tail.map numV) (cntK kd) := by
        have hC := cntK_13 kd
        unfold numS fillX zK
        generalize cntK kd = C at *
        rcases (show C = 1 ∨ C = 2 ∨ C = 3 by omega) with rfl | rfl | rfl
        · match ws, hl with
          | [a, b], _ => rfl
        · match ws, hl with
          | [a, b, c], _ => rfl
        · match ws, hl with
          | [a, b, c, d], _ => rfl
      rw [e]
    · rw [if_pos hl, if_pos (show ws.tail.length ≠ cntK kd by rw [List.length_tail]; omega)]
  · rw [if_pos rfl]
    obtain ⟨h3, h4⟩ := (askG_iff ws h1).1 hG
    unfold askQ
    rw [if_neg h3, if_neg h4, if_neg (show ¬ [ws.getD 1 []].length ≠ cntK 11 from fun h => h rfl)]
    have e : fillX ⟨11, 0, 0, 0, 0, 0, opW (ws.getD 2 []), byA (ws.getD 3 []), askV ws.tail (opW (ws.getD 2 [])), askO ws.tail (opW (ws.getD 2 []))⟩ ([ws.getD 1 []].map numV) (cntK 11) = askS ws (opW (ws.getD 2 [])) := by
      unfold fillX askS askV askO
      simp only [getD_tail]
      rfl
    rw [e]
    simp
  · rw [if_pos rfl, if_pos (show ([] : List (List UInt8)).length ≠ cntK 11 by decide)]
    unfold askQ
    have hn := mt (askG_iff ws h1).2 hG
    split
    · rfl
    · rename_i h3
      rw [if_pos (Classical.byContradiction fun h4 => hn ⟨h3, h4⟩)]
theorem pre_sizes {ws : List (List UInt8)} {kd : Int} {X : Stp} {T : List (List UInt8)} (h : StepPre ws kd X T) (hc : T.length = cntK kd) (hw : ∀ x ∈ ws, x.length ≤ 65536 ∧ x ≠ []) : X.k.size ≤ 1048576 ∧ X.v.size ≤ 1048576 ∧ X.o.size ≤ 1048576 := by
  have hg : ∀ k, (ws.getD k []).length ≤ 65536 := fun k => by
    rw [List.getD_eq_getElem?_getD]
    by_cases hk : k < ws.length
    · rw [List.getElem?_eq_getElem hk]; exact (hw _ (List.getElem_mem hk)).1
    · rw [List.getElem?_eq_none (by omega)]; simp
  have hz : ∀ l : List UInt8, (byA l).size = l.length := fun l => by show l.toArray.size = _; simp
  rcases h with ⟨-, -, rfl⟩ | ⟨rfl, -, -, rfl⟩ | ⟨rfl, -, rfl, -⟩
  · exact ⟨show (0 : Nat) ≤ _ by omega, show (0 : Nat) ≤ _ by omega, show (0 : Nat) ≤ _ by omega⟩
  · refine ⟨?_, ?_, ?_⟩
    · show (byA _).size ≤ _
      rw [hz]; have := hg 3; omega
    · show (askV _ _).size ≤ _
      unfold askV
      rw [hz, getD_tail, getD_tail]
      have := hg (3 + 1)
      have := hg (4 + 1)
      split
      · omega
      · split
        · omega
        · simp
    · show (askO _ _).size ≤ _
      unfold askO
      rw [hz, getD_tail]
      have := hg (3 + 1)
      split
      · omega
      · simp
  · exact absurd hc (by decide)
/-- a row of words: its cells -/
theorem row_words {z : World} {B : Nat} {v : Value} {ws : List (List UInt8)} (h : OwnG txC 1 9 z B v (ws.map sOf)) (h1 : 1 ≤ ws.length) (hl : ws.length ≤ 70000) :
    ∃ p cq, v = .slice (some ⟨p, 0, none⟩) ws.length cq ∧ ws.length ≤ cq ∧ p < z.heap.size ∧ B ≤ p ∧ ∀ j (h : j < ws.length), z.cell? ⟨p, j, none⟩ = some (.string (sOf ws[j])) := by
  have hml : (ws.map sOf).length = ws.length := List.length_map ..
  obtain ⟨p, cq, hv⟩ := h.shape' (by omega)
  have hc := h.cap _ _ _ hv
  subst hv
  obtain ⟨hq1, hq2⟩ := h.lts p rfl
  have hsl := h.sl txLaw (by unfold maxLen; omega)
  refine ⟨p, cq, by rw [hml], by omega, hq2, hq1, fun j hj => ?_⟩
  obtain ⟨-, a, c, e, hc⟩ := hsl
  simp only [Value.slice.injEq] at e
  obtain ⟨rfl, -, rfl⟩ := e
  obtain ⟨b, o, e, hj'⟩ := hc 0 (by omega)
  cases e
  have h2 := hj' j (by omega) 0 _ rfl
  simpa using h2
theorem tail_form {z : World} {ws : List (List UInt8)} {p n cq : Nat} (h1 : 1 ≤ n) (hn : n = ws.length) (hc : n ≤ cq) (hcell : ∀ j (h : j < ws.length), z.cell? ⟨p, j, none⟩ = some (.string (sOf ws[j]))) (v' : Value) (hv : v' = if cq = 1 then .slice (some ⟨p, 0, none⟩) (n - 1) 0 else .slice (some ⟨p, 1, none⟩) (n - 1) (cq - 1)) :
    ∃ off c', v' = .slice (some ⟨p, off, none⟩) (n - 1) c' ∧ n - 1 ≤ c' ∧ ∀ j (h : j < ws.tail.length), z.cell? ⟨p, off + j, none⟩ = some (.string (sOf ws.tail[j])) := by
  subst hv
  by_cases h9 : cq = 1
  · rw [if_pos h9]
    exact ⟨0, 0, rfl, by omega, fun j h => absurd h (by rw [List.length_tail]; omega)⟩
  · rw [if_neg h9]
    refine ⟨1, cq - 1, rfl, by omega, fun j h => ?_⟩
    have h2 : 1 + j < ws.length := by rw [List.length_tail] at h; omega
    rw [hcell (1 + j) h2]
    simp [Nat.add_comm]
theorem sl_cells {z : World} {p off c : Nat} {T : List (List UInt8)} (hl : T.length ≤ 70000) (h : ∀ j (h : j < T.length), z.cell? ⟨p, off + j, none⟩ = some (.string (sOf T[j]))) : Sl txC 1 z (.slice (some ⟨p, off, none⟩) T.length c) (T.map sOf) := by
  have hml : (T.map sOf).length = T.length := List.length_map ..
  refine ⟨by rw [hml]; unfold maxLen; omega, some ⟨p, off, none⟩, c, by rw [hml], fun i hi => ⟨p, off, rfl, fun j hj => ?_⟩⟩
  intro t v ht
  have h2 := h j (by omega)
  have e : (T.map sOf)[j] = sOf T[j] := by simp
  rw [e] at ht
  cases t with
  | zero =>
    cases ht
    simpa using h2
  | succ t => simp [txC] at ht
end Go.Proofs.YtanpindbhdeomaaGreatDoor
