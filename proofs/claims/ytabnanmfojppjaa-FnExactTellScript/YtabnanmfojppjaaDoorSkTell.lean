/-
  spec.l7tell: a word and numbers behind it.
-/
import Derived.Test.YtabnanmfojppjaaDoorSkDec
import Derived.Test.YtabnanmfojppjaaDoorIxB
namespace Go.Proofs.YtabnanmfojppjaaDoor
open Go.RowKit
set_option linter.unusedVariables false
set_option linter.unusedSimpArgs false

def sOf (l : List UInt8) : ByteArray := ⟨l.toArray⟩
theorem sOf_size (l : List UInt8) : (sOf l).size = l.length := by show l.toArray.size = _; simp
theorem sOf_app (a b : List UInt8) : sOf a ++ sOf b = sOf (a ++ b) := by unfold sOf; simp [ByteArray.mk_append_mk]
theorem sOf_list (t : ByteArray) : sOf t.data.toList = t := by obtain ⟨⟨l⟩⟩ := t; rfl
theorem list_sOf (l : List UInt8) : (sOf l).data.toList = l := by unfold sOf; simp
theorem add_run (a b c : List UInt8) (hc : a ++ b = c) (h : c.length ≤ 9223372036854775807) (u : World) : (Op.stringOp .add (sOf a) (sOf b)).run Tryd.prog u = .ok (.string (sOf c)) u := by
  rw [run_string_add_sum u _ _ (by rw [sOf_size, sOf_size, ← List.length_append, hc]; exact h), sOf_app, hc]
theorem l7dec_it (v : Int) (h0 : 0 ≤ v) (hv : v < 10000000000) (w : World) :
    Calls Tryd.prog 14 #[.int .i64 v] w fun e w' => e = .returned (.string (sOf (Lib.itoa v))) ∧ Below w.heap.size w w' := by
  have e : Lib.itoa v = Lib.decDigits v.toNat := by unfold Lib.itoa; rw [if_neg (by omega)]
  rw [e]
  exact l7dec_any _ v w rfl h0 (by omega)
theorem itoa_len {v : Int} (h0 : 0 ≤ v) (hv : v < 10000000000) : (Lib.itoa v).length ≤ 10 := by
  have e : Lib.itoa v = Lib.decDigits v.toNat := by unfold Lib.itoa; rw [if_neg (by omega)]
  rw [e]
  exact dec_len 9 _ (by omega)
theorem numsL_len : ∀ (l : List Int), (∀ n ∈ l, 0 ≤ n ∧ n < 10000000000) → (numsL l).length ≤ 11 * l.length
  | [], _ => by simp [numsL]
  | n :: r, h => by
    have h1 := numsL_len r fun x hx => h x (List.mem_cons_of_mem _ hx)
    obtain ⟨a, b⟩ := h n (List.mem_cons_self ..)
    have h2 := itoa_len a b
    rw [numsL_cons]
    simp
    omega
theorem numsL_take {l : List Int} {k : Nat} (h : k < l.length) : numsL (l.take (k + 1)) = numsL (l.take k) ++ (32 :: Lib.itoa l[k]) := by
  rw [List.take_succ_eq_append_getElem h, numsL_app]
  simp [numsL]

set_option maxHeartbeats 4000000 in
set_option maxRecDepth 100000 in
theorem l7tell_any (wd : List UInt8) (v : Value) (l : List Int) (w : World) (hv : Ix w v l) (hn : ∀ n ∈ l, 0 ≤ n ∧ n < 10000000000) (hw : wd.length ≤ 1000000) (hl' : l.length ≤ 1048576) :
    Calls Tryd.prog 13 #[.string (sOf wd), v] w fun e w' => e = .returned (.string (sOf (wd ++ numsL l))) ∧ Below w.heap.size w w' := by
  obtain ⟨hl, a, cap, rfl, hc⟩ := hv
  have HN : Hid (∀ n ∈ l, 0 ≤ n ∧ n < 10000000000) := hn
  have HC : Hid (∀ i, i < l.length → ∃ b off, a = some ⟨b, off, none⟩ ∧ ∀ j (h : j < l.length), w.cell? ⟨b, off + j, none⟩ = some (.int .i64 l[j])) := hc
  clear hn hc
  obtain ⟨R, hR⟩ : ∃ R, R = sOf (wd ++ numsL l) := ⟨_, rfl⟩
  have HR : Hid (R = sOf (wd ++ numsL l)) := hR
  obtain ⟨S0, hS0⟩ : ∃ S, S = sOf wd := ⟨_, rfl⟩
  have HS0 : Hid (S0 = sOf wd) := hS0
  rw [← hR, ← hS0]
  clear hR hS0
  go_enter Tryd.func13, Tryd.ntmps13
  go_wp2
  go_loopw [0, 5] (fun s i wr => ∃ (k : Nat) (S : ByteArray), k ≤ l.length ∧ i = .int .i64 k ∧ s = .string S ∧ S = sOf (wd ++ numsL (l.take k)) ∧ Below w.heap.size w wr) (fun _ i _ => l.length - (intOf i).toNat)
  case atStart => exact ⟨0, S0, Nat.zero_le _, rfl, rfl, by rw [HS0.out]; simp [numsL], Below.refl _ _⟩
  case round =>
    obtain ⟨k, S, hk, rfl, rfl, hS, hB⟩ := hrel
    have HS : Hid (S = sOf (wd ++ numsL (l.take k))) := hS
    have HB : Hid (Below w.heap.size w wr) := hB
    clear hS hB
    by_cases hlt : k < l.length
    · obtain ⟨b, off, rfl, hj⟩ := HC.out k hlt
      have hc := hj k hlt
      have hcell : wr.cell? ⟨b, off + k, none⟩ = some (.int .i64 l[k]) := by
        rw [HB.out.cell (p := ⟨b, off + k, none⟩) (cell_lt hc)]; exact hc
      obtain ⟨n0, n1⟩ := HN.out _ (List.getElem_mem hlt)
      have hlen := numsL_len (l.take (k + 1)) fun n h => HN.out n (List.mem_of_mem_take h)
      rw [List.length_take_of_le (by omega)] at hlen
      have ht := numsL_take hlt
      obtain ⟨S1, hS1⟩ : ∃ S1, S1 = sOf (wd ++ numsL (l.take k) ++ [32]) := ⟨_, rfl⟩
      obtain ⟨S2, hS2⟩ : ∃ S2, S2 = sOf (wd ++ numsL (l.take (k + 1))) := ⟨_, rfl⟩
      obtain ⟨D, hD⟩ : ∃ D, D = sOf (Lib.itoa l[k]) := ⟨_, rfl⟩
      have hlen2 : (numsL (l.take (k + 1))).length = (numsL (l.take k)).length + ((Lib.itoa l[k]).length + 1) := by rw [ht]; simp
      have hadd1 : ∀ u : World, (Op.stringOp .add S ⟨#[32]⟩).run Tryd.prog u = .ok (.string S1) u := fun u => by
        rw [HS.out, hS1]
        exact add_run _ [32] _ rfl (by simp; omega) u
      have hadd2 : ∀ u : World, (Op.stringOp .add S1 D).run Tryd.prog u = .ok (.string S2) u := fun u => by
        rw [hS1, hD, hS2]
        exact add_run _ _ _ (by rw [ht]; simp) (by simp; omega) u
      have HI : Hid (∀ u : World, Calls Tryd.prog 14 #[.int .i64 l[k]] u fun e w' => e = .returned (.string D) ∧ Below u.heap.size u w') := fun u => hD ▸ l7dec_it l[k] n0 n1 u
      have HS2 : Hid (S2 = sOf (wd ++ numsL (l.take (k + 1)))) := hS2
      have hkl : (k : Int) < (l.length : Int) := by omega
      have hz := HB.out.size
      clear hS1 hS2 hD ht hlen hlen2 hj hc
      generalize l[k] = n at hcell HI n0 n1
      go_wp2_with (go_at_call 14; refine (HI.out _).mono ?_; rintro e w1 ⟨rfl, hb⟩)
      go_roundw
      case rel => exact ⟨k + 1, S2, by omega, by go_num, rfl, HS2.out, HB.out.trans (hb.mono hz)⟩
      case measure => simp [intOf]; omega
    · obtain rfl : k = l.length := by omega
      rw [List.take_length] at HS
      go_wp2
      go_ret
      exact ⟨by rw [HR.out, HS.out]; rfl, HB.out⟩
end Go.Proofs.YtabnanmfojppjaaDoor
