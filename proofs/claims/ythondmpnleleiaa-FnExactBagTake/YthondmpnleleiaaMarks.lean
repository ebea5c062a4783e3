/-
  laws.markByteS, laws.heldByteS.
-/
import Derived.Test.YthondmpnleleiaaOwn
namespace Go.Proofs.Ythondmpnleleiaa
open Go.RowKit
set_option linter.unusedVariables false

/-- the marks that markByteS writes -/
def marksL (k n : Nat) : List Int := (List.range n).map fun i => (((k + i) % 256 : Nat) : Int)
theorem marksL_len (k n : Nat) : (marksL k n).length = n := by simp [marksL]
theorem marksL_byte (k n : Nat) : ∀ x ∈ marksL k n, 0 ≤ x ∧ x ≤ 255 := by
  intro x hx
  simp only [marksL, List.mem_map] at hx
  obtain ⟨i, _, rfl⟩ := hx
  omega
theorem marksL_get (k n j : Nat) (h : j < n) : (marksL k n)[j]?.getD 0 = (((k + j) % 256 : Nat) : Int) := by
  simp [marksL, h]
theorem marks_step (k : Nat) (l : List Int) (j : Nat) (h : j < l.length) : (marksL k j ++ l.drop j).set j (((k + j) % 256 : Nat) : Int) = marksL k (j + 1) ++ l.drop (j + 1) := by
  have e : marksL k (j + 1) = marksL k j ++ [(((k + j) % 256 : Nat) : Int)] := by simp [marksL, List.range_succ]
  rw [e, List.set_append_right _ _ (by rw [marksL_len]; exact Nat.le_refl _), marksL_len, Nat.sub_self, List.drop_eq_getElem_cons h, List.set_cons_zero]
  simp

theorem Own.store {w : World} {B g cap : Nat} {l : List Int} (h : Own w B (.slice (some ⟨g, 0, none⟩) l.length cap) l) (j : Nat) (x : Int) (h8 : 0 ≤ x ∧ x ≤ 255) :
    Own (w.setCell ⟨g, j, none⟩ (.int .u8 x)) B (.slice (some ⟨g, 0, none⟩) l.length cap) (l.set j x) := by
  refine ⟨fun y hy => ?_, ?_⟩
  · rcases List.mem_or_eq_of_mem_set hy with hy | rfl
    · exact h.1 y hy
    · exact h8
  · have := (h.2.stored j (.int .u8 x)).1
    simpa [List.map_set] using this

theorem grown_set (w : World) (g j : Nat) (x : Value) (row : Option Nat) (hr : row = some g) : w.grownBy (w.setCell ⟨g, j, none⟩ x) row :=
  ⟨rfl, rfl, rfl, by simp [World.setCell], fun k _ hk => Below.heap_setCell _ _ _ _ (fun e => hk (by rw [hr, e]))⟩
theorem grown_trans {w w1 w2 : World} {row : Option Nat} (h : w.grownBy w1 row) (k : w1.grownBy w2 row) : w.grownBy w2 row :=
  ⟨k.os.trans h.os, k.tape.trans h.tape, k.output.trans h.output, Nat.le_trans h.size k.size, fun i hi hne => (k.block i (Nat.lt_of_lt_of_le hi h.size) hne).trans (h.block i hi hne)⟩

set_option maxHeartbeats 1000000 in
set_option maxRecDepth 100000 in
theorem markByteS_any (v : Value) (l : List Int) (k0 : Nat) (w : World) (B : Nat) (hv : Own w B v l) (hl : l.length ≤ 20000000) (hk0 : k0 ≤ 20000000) :
    Calls Try.prog 19 #[v, .int .i64 k0] w fun e w' => e = .returned (.int .i64 ((k0 + l.length : Nat) : Int)) ∧ Own w' B v (marksL k0 l.length) ∧ w.grownBy w' v.ownBlock := by
  obtain ⟨a, cap, rfl⟩ := hv.shape
  have hV : Hid (Own w B (.slice a l.length cap) l) := hv
  clear hv
  go_enter Try.func19, Try.ntmps19
  go_wp2
  go_loopw [1, 5] (fun c i wr => ∃ j : Nat, j ≤ l.length ∧ i = .int .i64 j ∧ c = .int .i64 ((k0 + j : Nat) : Int) ∧ Own wr B (.slice a l.length cap) (marksL k0 j ++ l.drop j) ∧ w.grownBy wr (Value.slice a l.length cap).ownBlock) (fun _ i _ => l.length - (intOf i).toNat)
  case atStart => exact ⟨0, Nat.zero_le _, rfl, by simp, by simpa [marksL] using hV.out, ⟨rfl, rfl, rfl, Nat.le_refl _, fun _ _ _ => rfl⟩⟩
  case round =>
    obtain ⟨j, hj, rfl, rfl, ho, hg⟩ := hrel
    have hlen : (marksL k0 j ++ l.drop j).length = l.length := by simp [marksL_len]; omega
    by_cases hlt : j < l.length
    · obtain ⟨g, cap', e⟩ := hV.out.shape' (by omega)
      simp only [Value.slice.injEq] at e
      obtain ⟨rfl, _, rfl⟩ := e
      have ho' : Own wr B (.slice (some ⟨g, 0, none⟩) (marksL k0 j ++ l.drop j).length cap) (marksL k0 j ++ l.drop j) := by rw [hlen]; exact ho
      have hst := ho'.store j (((k0 + j) % 256 : Nat) : Int) (by omega)
      rw [marks_step k0 l j hlt, hlen] at hst
      have HS : Hid (Own (wr.setCell ⟨g, j, none⟩ (.int .u8 (((k0 + j) % 256 : Nat) : Int))) B (.slice (some ⟨g, 0, none⟩) l.length cap) (marksL k0 (j + 1) ++ l.drop (j + 1))) := hst
      have hf := ho'.2.frozenAt j
      have hcell := ho'.2.cellAt j (by omega)
      obtain ⟨y, hy⟩ : ∃ y, wr.cell? ⟨g, j, none⟩ = some y := by
        rw [hcell]
        exact ⟨_, List.getElem?_eq_getElem (by rw [List.length_map]; omega)⟩
      have HG : Hid (w.grownBy wr (some g)) := hg
      clear hst hcell ho' ho hg hlen
      go_wp2
      go_roundw
      case rel => exact ⟨j + 1, by omega, by go_num, by go_num, by simpa using HS.out, grown_trans HG.out (grown_set _ _ _ _ _ rfl)⟩
      case measure => simp [intOf]; omega
    · have e : j = l.length := by omega
      subst e
      rw [List.drop_length, List.append_nil] at ho
      go_wp2
      go_ret
      exact ⟨rfl, ho, hg⟩

set_option maxHeartbeats 1000000 in
theorem heldByteS_any (v : Value) (k0 n : Nat) (w : World) (hv : Bs w v (marksL k0 n)) (hn : n ≤ 20000000) (hk0 : k0 ≤ 20000000) :
    Calls Try.prog 73 #[v, .int .i64 k0] w fun e w' => e = .returned (.int .i64 ((k0 + n : Nat) : Int)) ∧ w' = w := by
  obtain ⟨hl, h8, a, cap, rfl, hc⟩ := hv
  rw [marksL_len] at hc ⊢
  go_enter Try.func73, Try.ntmps73
  go_wp2
  go_loop [1, 5] (fun c i => ∃ j : Nat, j ≤ n ∧ i = .int .i64 j ∧ c = .int .i64 ((k0 + j : Nat) : Int)) (fun _ i => n - (intOf i).toNat)
  case atStart => exact ⟨0, Nat.zero_le _, rfl, by simp⟩
  case round =>
    obtain ⟨j, hj, rfl, rfl⟩ := hrel
    by_cases hlt : j < n
    · obtain ⟨b, off, rfl, hcell⟩ := hc j hlt
      have hcj := hcell j hlt
      rw [marksL_get k0 n j hlt] at hcj
      clear hcell hc
      go_wp2
      go_round
      case rel => exact ⟨j + 1, by omega, by go_num, by go_num⟩
      case measure => simp [intOf]; omega
    · have e : j = n := by omega
      subst e
      go_wp2
      go_ret
      exact ⟨rfl, rfl⟩

/-- a slice of the call's own stays where only rows from B1 on were written -/
theorem Own.far {w w' : World} {B B1 : Nat} {v : Value} {l : List Int} (h : Own w B v l) (hb : Below B1 w w') (hlt : ∀ k, v.ownBlock = some k → k < B1) : Own w' B v l := by
  refine ⟨h.1, h.2.1, ?_⟩
  rcases h.2.2 with h | ⟨g, cap, cur, hv, hg, hh, r⟩
  · exact .inl h
  · exact .inr ⟨g, cap, cur, hv, hg, (hb.block g (hlt g (by rw [hv]; rfl))).trans hh, r⟩
theorem Own.marked {w w' : World} {B : Nat} {v : Value} {l : List Int} (h : Own w B v l) (hg : w.grownBy w' v.ownBlock) (hB : B ≤ w.heap.size) : Below B w w' :=
  (Below.refl _ _).grown hg hB (fun k hk => (h.2.lt k hk).1)
end Go.Proofs.Ythondmpnleleiaa
