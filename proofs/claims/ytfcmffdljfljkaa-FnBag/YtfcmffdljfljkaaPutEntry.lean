/-
  impl.putEntry; the bytes of entries.
-/
import Derived.Test.YtfcmffdljfljkaaPutCmd
import Derived.Test.YtfcmffdljfljkaaEntFit
import Derived.Test.YtfcmffdljfljkaaOwnStep
namespace Go.Proofs.Ytfcmffdljfljkaa
open Go.RowKit
set_option linter.unusedVariables false

def entN (t cl sq op : Nat) (k v o : ByteArray) : List Int := numL t ++ cmdL cl sq op k v o
def entL (e : Ent) : List Int := entN e.t.toNat e.cl.toNat e.sq.toNat e.op.toNat e.k e.v e.o
def entsL (l : List Ent) : List Int := l.flatMap entL

set_option maxHeartbeats 4000000 in
set_option maxRecDepth 100000 in
theorem putEntry_nat (v : Value) (l : List Int) (t cl sq op : Nat) (k vl o : ByteArray) (w : World) (B : Nat) (hv : Own w B v l) (hB : B ≤ w.heap.size) (hl : l.length ≤ 90000) (h0 : t < 9223372036854775808) (h1 : cl < 9223372036854775808) (h2 : sq < 9223372036854775808) (h3 : op < 9223372036854775808) (hk : k.size ≤ 64) (hvl : vl.size ≤ 64) (ho : o.size ≤ 64) :
    Calls Try.prog 163 #[v, .agg #[.int .i64 t, .int .i64 cl, .int .i64 sq, .int .i64 op, .string k, .string vl, .string o]] w fun e w' => ∃ v', e = .returned v' ∧ Own w' B v' (l ++ entN t cl sq op k vl o) ∧ Grew w v w' v' := by
  have n0 := hv.ne (Nat.le_refl _)
  have h9 := numL_len9 t h0
  have hv1 : Own (w.alloc (.cells #[.int .i64 t, .int .i64 cl, .int .i64 sq, .int .i64 op, .string k, .string vl, .string o] 91)).drew B v l := hv.below (((Below.refl _ _).alloc (Nat.le_refl _) _).drew)
  go_enter Try.func163, Try.ntmps163
  go_wp2
  go_region_held3 (fun w' => w'.cell? ⟨w.heap.size, 0, none⟩ = some (.int .i64 t) ∧ w'.cell? ⟨w.heap.size, 1, none⟩ = some (.int .i64 cl) ∧ w'.cell? ⟨w.heap.size, 2, none⟩ = some (.int .i64 sq) ∧ w'.cell? ⟨w.heap.size, 3, none⟩ = some (.int .i64 op) ∧ w'.cell? ⟨w.heap.size, 4, none⟩ = some (.string k) ∧ w'.cell? ⟨w.heap.size, 5, none⟩ = some (.string vl) ∧ w'.cell? ⟨w.heap.size, 6, none⟩ = some (.string o)) (simp [*, go_sem])
    (first
      | (go_at_call 168; refine (putNumber_any _ _ t _ B hv1 (by simp; omega) (by omega) h0).mono ?_; rintro e w1 ⟨v1, rfl, ho1, hg1⟩; have hz1 : w.heap.size < w1.heap.size := (by have := hg1.g.size; simp at this; omega); have q1 := fun (o : Nat) => hg1.cell (k := w.heap.size) (o := o) (by simp) n0; have f1 : v1.ownBlock ≠ some w.heap.size := hg1.far (by simp) n0)
      | (go_at_call 169; refine (putCmd_any _ _ cl sq op k vl o _ B ho1 (by omega) (by simp; omega) h1 h2 h3 hk hvl ho).mono ?_; rintro e w2 ⟨v2, rfl, ho2, hg2⟩; have q2 := fun (o : Nat) => hg2.cell (k := w.heap.size) (o := o) hz1 f1))
  all_goals go_wp2
  all_goals go_ret
  all_goals refine ⟨_, rfl, by simpa [entN, List.append_assoc] using ho2, Grew.trans (Grew.of_below (((Below.refl _ _).alloc (Nat.le_refl _) _).drew)) (hg1.trans hg2)⟩

theorem entN_len (t cl sq op : Nat) (k vl o : ByteArray) (h0 : t < 9223372036854775808) (h1 : cl < 9223372036854775808) (h2 : sq < 9223372036854775808) (h3 : op < 9223372036854775808) (hk : k.size ≤ 64) (hvl : vl.size ≤ 64) (ho : o.size ≤ 64) : 0 < (entN t cl sq op k vl o).length ∧ (entN t cl sq op k vl o).length ≤ 320 := by
  have h9 := numL_len9 t h0
  have hp := numL_pos t
  have hn : (numsL [cl, sq, op]).length ≤ 27 := numsL_len [cl, sq, op] (by simp; omega)
  have t1 := textL_len k (by omega)
  have t2 := textL_len vl (by omega)
  have t3 := textL_len o (by omega)
  simp only [entN, cmdL, List.length_append]
  omega

theorem cmdF_fits {cl sq op k v o : Int} (h : cmdF cl sq op k v o = 0) : 0 ≤ cl ∧ cl ≤ 8 ∧ 0 ≤ sq ∧ sq ≤ 1073741824 ∧ 0 ≤ op ∧ op ≤ 4 ∧ k ≤ 64 ∧ v ≤ 64 ∧ o ≤ 64 := by
  unfold cmdF at h
  by_cases h1 : op < 0 ∨ 4 < op
  · rw [if_pos h1] at h; omega
  rw [if_neg h1] at h
  by_cases h2 : op = 0
  · rw [if_pos h2] at h
    repeat' split at h
    all_goals omega
  · rw [if_neg h2] at h
    repeat' split at h
    all_goals omega
/-- a well-formed entry, in plain numbers -/
theorem entB_nat {e : Ent} (h : entB e = true) : ∃ (t cl sq op : Nat) (k vl o : ByteArray), e = ⟨t, cl, sq, op, k, vl, o⟩ ∧ t < 9223372036854775808 ∧ cl < 9223372036854775808 ∧ sq < 9223372036854775808 ∧ op < 9223372036854775808 ∧ k.size ≤ 64 ∧ vl.size ≤ 64 ∧ o.size ≤ 64 ∧ entL e = entN t cl sq op k vl o := by
  obtain ⟨t, cl, sq, op, k, vl, o⟩ := e
  simp only [entB, Bool.and_eq_true, inB_iff, beq_iff_eq] at h
  obtain ⟨⟨ht, ht'⟩, hc⟩ := h
  obtain ⟨a1, a2, a3, a4, a5, a6, a7, a8, a9⟩ := cmdF_fits hc
  obtain ⟨t, rfl⟩ := Int.eq_ofNat_of_zero_le (show 0 ≤ t by omega)
  obtain ⟨cl, rfl⟩ := Int.eq_ofNat_of_zero_le a1
  obtain ⟨sq, rfl⟩ := Int.eq_ofNat_of_zero_le a3
  obtain ⟨op, rfl⟩ := Int.eq_ofNat_of_zero_le a5
  exact ⟨t, cl, sq, op, k, vl, o, rfl, by omega, by omega, by omega, by omega, by omega, by omega, by omega, by simp [entL]⟩

theorem fitL_all {high : Int} : ∀ (l : List Ent) (low : Int), fitL high low l = true → ∀ e ∈ l, entB e = true
  | [], _, _, e, he => by cases he
  | x :: r, low, h, e, he => by
    simp only [fitL, Bool.and_eq_true] at h
    rcases List.mem_cons.1 he with rfl | he
    · exact h.1.1
    · exact fitL_all r x.t h.2 e he

theorem entsL_snoc (l : List Ent) (k : Nat) (h : k < l.length) : entsL (l.take (k + 1)) = entsL (l.take k) ++ entL l[k] := by
  rw [List.take_succ_eq_append_getElem h, entsL, entsL, List.flatMap_append]
  simp
theorem entsL_len (l : List Ent) (h : ∀ e ∈ l, entB e = true) : (entsL l).length ≤ 320 * l.length := by
  induction l with
  | nil => simp [entsL]
  | cons e r ih =>
    have h2 := ih (fun m hm => h m (by simp [hm]))
    obtain ⟨t, cl, sq, op, k, vl, o, rfl, b0, b1, b2, b3, b4, b5, b6, hE⟩ := entB_nat (h e (by simp))
    have h3 := (entN_len t cl sq op k vl o b0 b1 b2 b3 b4 b5 b6).2
    simp only [entsL, List.flatMap_cons, List.length_append, List.length_cons, hE] at h2 ⊢
    omega
end Go.Proofs.Ytfcmffdljfljkaa
