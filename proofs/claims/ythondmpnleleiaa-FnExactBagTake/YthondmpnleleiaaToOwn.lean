/-
  laws.toByteS: a copy that the call owns; slices.Clone of bytes; spec.l1copy.
-/
import Derived.Test.YthondmpnleleiaaMarks
import Derived.Test.YthondmpnleleiaaOwnLit
namespace Go.Proofs.Ythondmpnleleiaa
open Go.RowKit
set_option linter.unusedVariables false

theorem infoByte : (Try.prog.info? 5).map (fun i => (i.zero, i.size, i.bytes)) = some (some (.int .u8 0), 1, 1) := by kernel_rfl

theorem copy_step (l : List Int) (k : Nat) (h : k < l.length) : (l.take k ++ List.replicate (l.length - k) 0).set k (l[k]?.getD 0) = l.take (k + 1) ++ List.replicate (l.length - (k + 1)) 0 := by
  have hk : (l.take k).length = k := by rw [List.length_take]; omega
  have e : l.length - k = (l.length - (k + 1)) + 1 := by omega
  rw [List.set_append_right _ _ (by omega), hk, Nat.sub_self, e, List.replicate_succ, List.set_cons_zero]
  rw [List.getElem?_eq_getElem h, Option.getD_some, show l.take (k + 1) = l.take k ++ [l[k]] by rw [List.take_succ_eq_append_getElem h], List.append_assoc]
  rfl

theorem take_byte {l : List Int} (h8 : ∀ x ∈ l, 0 ≤ x ∧ x ≤ 255) (k n : Nat) : ∀ x ∈ l.take k ++ List.replicate n 0, 0 ≤ x ∧ x ≤ 255 := by
  intro x hx
  rcases List.mem_append.1 hx with h | h
  · exact h8 x (List.mem_of_mem_take h)
  · have := List.eq_of_mem_replicate h; omega

set_option maxHeartbeats 1000000 in
set_option maxRecDepth 100000 in
theorem toByteS_own (v : Value) (l : List Int) (w : World) (hv : Bs w v l) (hl' : l.length ≤ 1048576) :
    Calls Try.prog 15 #[v] w fun e w' => ∃ q, e = .returned (.slice (some ⟨q, 0, none⟩) l.length l.length) ∧ w.heap.size ≤ q ∧ q < w'.heap.size ∧ Own w' w.heap.size (.slice (some ⟨q, 0, none⟩) l.length l.length) l ∧ Below w.heap.size w w' := by
  obtain ⟨hl, h8, a, cap, rfl, hc⟩ := hv
  obtain ⟨i0, hi, hz0, hz1, hz2⟩ := info_parts infoByte
  have hmk : ∀ u : World, (Instr.makeSlice 35 (.int .i64 (l.length : Int)) (.int .i64 (l.length : Int))).run Try.prog u =
      .ok (.slice (some ⟨u.heap.size, 0, none⟩) l.length l.length) (u.alloc (.cells (madeCells #[.int .u8 0] l.length) 5)) := fun u => by
    have h := run_make (P := Try.prog) u 35 5 i0 (.int .u8 0) Try.underlying35 hi hz0 .i64 .i64 (l.length : Int) (l.length : Int) (by omega) (Int.le_refl _) (by rw [hz2]; omega) (by omega)
    simpa [hz1, Value.cells] using h
  have H0 : Hid (Own (w.alloc (.cells (madeCells #[.int .u8 0] l.length) 5)) w.heap.size (.slice (some ⟨w.heap.size, 0, none⟩) l.length l.length) (l.take 0 ++ List.replicate (l.length - 0) 0)) := by
    have h := Own.lit w (List.replicate l.length 0) (madeCells #[.int .u8 0] l.length) (by rw [toList_madeCells_one]; simp) (by intro x hx; have := List.eq_of_mem_replicate hx; omega) (by simpa using hl)
    show Own _ _ _ _
    simpa using h
  go_enter Try.func15, Try.ntmps15
  go_wp2
  go_loopw [4] (fun i wr => ∃ k : Nat, k ≤ l.length ∧ i = .int .i64 k ∧ Own wr w.heap.size (.slice (some ⟨w.heap.size, 0, none⟩) l.length l.length) (l.take k ++ List.replicate (l.length - k) 0) ∧ Below w.heap.size w wr ∧ w.heap.size < wr.heap.size) (fun i _ => l.length - (intOf i).toNat)
  case atStart => exact ⟨0, Nat.zero_le _, rfl, H0.out, (Below.refl _ _).alloc (Nat.le_refl _) _, by simp⟩
  case round =>
    obtain ⟨k, hk, rfl, ho, hb, hz⟩ := hrel
    by_cases hlt : k < l.length
    · obtain ⟨b, off, rfl, hcell⟩ := hc k hlt
      have hlen : (l.take k ++ List.replicate (l.length - k) 0).length = l.length := by simp; omega
      have hck : wr.cell? ⟨b, off + k, none⟩ = some (.int .u8 (l[k]?.getD 0)) := by rw [hb.cell (cell_lt (hcell k hlt))]; exact hcell k hlt
      have ho' : Own wr w.heap.size (.slice (some ⟨w.heap.size, 0, none⟩) (l.take k ++ List.replicate (l.length - k) 0).length l.length) (l.take k ++ List.replicate (l.length - k) 0) := by rw [hlen]; exact ho
      have hst := ho'.store k (l[k]?.getD 0) (byte_at h8 k)
      rw [copy_step l k hlt, hlen] at hst
      have HS : Hid (Own (wr.setCell ⟨w.heap.size, k, none⟩ (.int .u8 (l[k]?.getD 0))) w.heap.size (.slice (some ⟨w.heap.size, 0, none⟩) l.length l.length) (l.take (k + 1) ++ List.replicate (l.length - (k + 1)) 0)) := hst
      have hf := ho'.2.frozenAt k
      have hcell' := ho'.2.cellAt k (by omega)
      obtain ⟨y, hy⟩ : ∃ y, wr.cell? ⟨w.heap.size, k, none⟩ = some y := by
        rw [hcell']
        exact ⟨_, List.getElem?_eq_getElem (by rw [List.length_map]; omega)⟩
      have HB : Hid (Below w.heap.size w (wr.setCell ⟨w.heap.size, k, none⟩ (.int .u8 (l[k]?.getD 0)))) := hb.setCell (Nat.le_refl _) _
      clear hcell hcell' ho ho' hst hb hlen h8 hc
      generalize l[k]?.getD 0 = cc at hck HS HB
      go_wp2
      go_roundw
      case rel => exact ⟨k + 1, by omega, by go_num, HS.out, HB.out, by simpa [World.setCell] using hz⟩
      case measure => simp [intOf]; omega
    · have e : k = l.length := by omega
      subst e
      simp only [List.take_length, Nat.sub_self, List.replicate_zero, List.append_nil] at ho
      go_wp2
      go_ret
      exact ⟨_, rfl, Nat.le_refl _, hz, ho, hb⟩

end Go.Proofs.Ythondmpnleleiaa
