/-
  spec.l3packetCopy, spec.l3bagCopy.
-/
import Derived.Test.YtfcmffdljfljkaaGround
namespace Go.Proofs.Ytfcmffdljfljkaa
open Go.RowKit
set_option linter.unusedVariables false
set_option linter.unusedSimpArgs false

set_option maxHeartbeats 2000000 in
set_option maxRecDepth 100000 in
theorem l3packetCopy_any (i f t : Int) (a : Option Addr) (cap : Nat) (l : List Int) (w : World) (hv : Bs w (.slice a l.length cap) l) (hl : l.length ≤ 1048576) :
    Calls Try.prog 79 #[.agg #[.int .i64 i, .int .i64 f, .int .i64 t, .slice a l.length cap]] w fun e w' => ∃ a' cap', e = .returned (.agg #[.int .i64 i, .int .i64 f, .int .i64 t, .slice a' l.length cap']) ∧ Own w' w.heap.size (.slice a' l.length cap') l ∧ Below w.heap.size w w' := by
  have HT : Hid (∀ w', Below w.heap.size w w' → Calls Try.prog 57 #[.slice a l.length cap] w' fun e w'' => ∃ a' cap', e = .returned (.slice a' l.length cap') ∧ Own w'' w'.heap.size (.slice a' l.length cap') l ∧ Below w'.heap.size w' w'') := fun w' hb => l1copy_any _ _ l w' (hv.below hb) hl
  clear hv
  have hb0 : Hid (Below w.heap.size w ((w.alloc (.cells #[.int .i64 i, .int .i64 f, .int .i64 t, .slice a l.length cap] 60)).alloc (.cells #[.int .i64 0, .int .i64 0, .int .i64 0, .slice none 0 0] 60))) := ((Below.refl _ _).alloc (Nat.le_refl _) _).alloc (by simp) _
  go_enter Try.func79, Try.ntmps79
  go_wp2
  go_region_held3 (fun w' => w'.cell? ⟨w.heap.size, 0, none⟩ = some (.int .i64 i) ∧ w'.cell? ⟨w.heap.size, 1, none⟩ = some (.int .i64 f) ∧ w'.cell? ⟨w.heap.size, 2, none⟩ = some (.int .i64 t) ∧ w'.cell? ⟨w.heap.size, 3, none⟩ = some (.slice a l.length cap)) (simp [*, go_sem])
    (first
      | (go_at_call 57; refine (HT.out _ hb0.out.drew).mono ?_; rintro e w1 ⟨a', cap', rfl, ho1, hb1⟩; have hz1 := hb1.size; simp at hz1; have z2 : ∀ o, w1.frozen? ⟨w.heap.size + 1, o, none⟩ = false := fun o => (hb1.frozen (p := ⟨w.heap.size + 1, o, none⟩) (by simp)).trans (by simp [go_sem]); have r0 : w1.cell? ⟨w.heap.size + 1, 0, none⟩ = some (.int .i64 0) := (hb1.cell (p := ⟨w.heap.size + 1, 0, none⟩) (by simp)).trans (by simp [go_sem]); have r1 : w1.cell? ⟨w.heap.size + 1, 1, none⟩ = some (.int .i64 0) := (hb1.cell (p := ⟨w.heap.size + 1, 1, none⟩) (by simp)).trans (by simp [go_sem]); have r2 : w1.cell? ⟨w.heap.size + 1, 2, none⟩ = some (.int .i64 0) := (hb1.cell (p := ⟨w.heap.size + 1, 2, none⟩) (by simp)).trans (by simp [go_sem]); have r3 : w1.cell? ⟨w.heap.size + 1, 3, none⟩ = some (.slice none 0 0) := (hb1.cell (p := ⟨w.heap.size + 1, 3, none⟩) (by simp)).trans (by simp [go_sem]); have q0 : w1.cell? ⟨w.heap.size, 0, none⟩ = some (.int .i64 i) := (hb1.cell (p := ⟨w.heap.size, 0, none⟩) (by simp; omega)).trans (by simp [go_sem]); have q1 : w1.cell? ⟨w.heap.size, 1, none⟩ = some (.int .i64 f) := (hb1.cell (p := ⟨w.heap.size, 1, none⟩) (by simp; omega)).trans (by simp [go_sem]); have q2 : w1.cell? ⟨w.heap.size, 2, none⟩ = some (.int .i64 t) := (hb1.cell (p := ⟨w.heap.size, 2, none⟩) (by simp; omega)).trans (by simp [go_sem]); have q3 : w1.cell? ⟨w.heap.size, 3, none⟩ = some (.slice a l.length cap) := (hb1.cell (p := ⟨w.heap.size, 3, none⟩) (by simp; omega)).trans (by simp [go_sem]); have HO1 : Hid (Own w1 _ (.slice a' l.length cap') l) := ho1; have HB1 : Hid (Below _ _ w1) := hb1; clear ho1 hb1))
  all_goals go_wp2
  refine bodyPost_ret (v := .agg #[.int .i64 i, .int .i64 f, .int .i64 t, .slice a' l.length cap']) (by simp [results, Try.results79, go_sem, r0, r1, r2, r3]) rfl ⟨a', cap', rfl, ?_, ?_⟩
  · exact ((((HO1.out.setLowP (b := w.heap.size + 1) (by simp) _).setLowP (b := w.heap.size + 1) (by simp) _).setLowP (b := w.heap.size + 1) (by simp) _).setLowP (b := w.heap.size + 1) (by simp) _).le (by simp; omega)
  · exact ((((hb0.out.drew.trans (HB1.out.mono (by simp; omega))).setCell (Nat.le_succ _) _).setCell (Nat.le_succ _) _).setCell (Nat.le_succ _) _).setCell (Nat.le_succ _) _

/-- the first k, without number sk -/
def without {α : Type} (sk : Int) (l : List α) : Nat → List α
  | 0 => []
  | k + 1 => without sk l k ++ (if (k : Int) = sk then [] else (l[k]?).toList)
theorem without_len {α : Type} (sk : Int) (l : List α) (k : Nat) : (without sk l k).length ≤ k := by
  induction k with
  | zero => simp [without]
  | succ k ih =>
    rw [without, List.length_append]
    split
    · simp; omega
    · have : (l[k]?).toList.length ≤ 1 := by cases l[k]? <;> simp
      omega
theorem without_all {α : Type} (l : List α) (k : Nat) (hk : k ≤ l.length) : without (-1) l k = l.take k := by
  induction k with
  | zero => simp [without]
  | succ k ih =>
    rw [without, ih (by omega), if_neg (by omega), List.getElem?_eq_getElem (by omega), List.take_succ_eq_append_getElem (by omega)]; rfl
theorem without_mem {α : Type} (sk : Int) (l : List α) (k : Nat) {x : α} (h : x ∈ without sk l k) : x ∈ l := by
  induction k with
  | zero => simp [without] at h
  | succ k ih =>
    rw [without, List.mem_append] at h
    rcases h with h | h
    · exact ih h
    · split at h
      · simp at h
      · cases hq : l[k]? with
        | none => rw [hq] at h; simp at h
        | some y =>
          rw [hq] at h
          simp at h
          subst h
          exact List.mem_of_getElem? hq
end Go.Proofs.Ytfcmffdljfljkaa
