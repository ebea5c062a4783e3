/-
  impl.kindOf, impl.opOf: the tables whole.
-/
import Derived.Test.YtanpindbhdeomaaGreatDoorGround
import Derived.Test.YtanpindbhdeomaaGreatDoorSkIb
import Derived.Test.YtanpindbhdeomaaGreatDoorBlk
namespace Go.Proofs.YtanpindbhdeomaaGreatDoor
open Go.RowKit
set_option linter.unusedVariables false
set_option linter.unusedSimpArgs false

def formC : Array Value := #[.string ⟨#[]⟩, .int .i64 0, .int .i64 0, .int .i64 0, .string ⟨#[116, 105, 99, 107]⟩, .int .i64 1, .int .i64 3, .int .i64 0, .string ⟨#[100, 101, 108, 105, 118, 101, 114]⟩, .int .i64 4, .int .i64 0, .int .i64 0, .string ⟨#[114, 101, 112, 101, 97, 116]⟩, .int .i64 4, .int .i64 0, .int .i64 0, .string ⟨#[100, 114, 111, 112]⟩, .int .i64 4, .int .i64 0, .int .i64 0, .string ⟨#[115, 112, 111, 105, 108]⟩, .int .i64 4, .int .i64 5, .int .i64 6, .string ⟨#[99, 114, 97, 115, 104]⟩, .int .i64 1, .int .i64 0, .int .i64 0, .string ⟨#[116, 101, 97, 114]⟩, .int .i64 1, .int .i64 7, .int .i64 0, .string ⟨#[115, 116, 97, 114, 116]⟩, .int .i64 1, .int .i64 0, .int .i64 0, .string ⟨#[119, 97, 108, 108]⟩, .int .i64 1, .int .i64 0, .int .i64 0, .string ⟨#[111, 112, 101, 110]⟩, .int .i64 1, .int .i64 0, .int .i64 0, .string ⟨#[97, 115, 107]⟩, .int .i64 2, .int .i64 0, .int .i64 0, .string ⟨#[112, 111, 107, 101]⟩, .int .i64 2, .int .i64 0, .int .i64 0, .string ⟨#[99, 97, 108, 109]⟩, .int .i64 3, .int .i64 0, .int .i64 0, .string ⟨#[102, 108, 111, 119]⟩, .int .i64 3, .int .i64 0, .int .i64 0]
def wordC : Array Value := #[.string ⟨#[]⟩, .string ⟨#[103, 101, 116]⟩, .string ⟨#[112, 117, 116]⟩, .string ⟨#[100, 101, 108]⟩, .string ⟨#[99, 97, 115]⟩]
/-- the tables, whole -/
structure Tabs2 (w : World) : Prop where
  f : ∃ t, Blk w 0 formC t
  w : ∃ t, Blk w 2 wordC t
theorem Tabs2.below {w w' : World} (h : Tabs2 w) (hb : Below w.heap.size w w') : Tabs2 w' := by
  obtain ⟨⟨t, h1⟩, ⟨t', h2⟩⟩ := h
  exact ⟨⟨t, h1.below hb h1.lt⟩, ⟨t', h2.below hb h2.lt⟩⟩
theorem Tabs2.tabs {w : World} (h : Tabs2 w) : Tabs w := by
  obtain ⟨⟨t, h1⟩, ⟨t', h2⟩⟩ := h
  refine ⟨fun kd a b => ?_, fun kd a b => ?_, fun kd a b => ?_, fun kd a b => ?_, fun op a b => ?_⟩
  · rw [h1.cell]; rcases kd_casesI a b with rfl | rfl | rfl | rfl | rfl | rfl | rfl | rfl | rfl | rfl | rfl | rfl | rfl | rfl <;> rfl
  · rw [h1.cell]; rcases kd_casesI a b with rfl | rfl | rfl | rfl | rfl | rfl | rfl | rfl | rfl | rfl | rfl | rfl | rfl | rfl <;> rfl
  · rw [h1.cell]; rcases kd_casesI a b with rfl | rfl | rfl | rfl | rfl | rfl | rfl | rfl | rfl | rfl | rfl | rfl | rfl | rfl <;> rfl
  · rw [h1.cell]; rcases kd_casesI a b with rfl | rfl | rfl | rfl | rfl | rfl | rfl | rfl | rfl | rfl | rfl | rfl | rfl | rfl <;> rfl
  · rw [h2.cell]; rcases (show op = 1 ∨ op = 2 ∨ op = 3 ∨ op = 4 by omega) with rfl | rfl | rfl | rfl <;> rfl
theorem sizeFA : (Tryz.prog.info? 93).map (·.size) = some 60 := by kernel_rfl
theorem sizeWA : (Tryz.prog.info? 105).map (·.size) = some 5 := by kernel_rfl
set_option maxRecDepth 100000 in
theorem form_ix (k : Nat) (h : k < 15) : ∃ a b c : Int, ∀ u : World, (Instr.index 93 (.agg formC) (.int .i64 (k : Int))).run Tryz.prog u = .ok (.agg #[.string (sOf (wordK (k : Int))), .int .i64 a, .int .i64 b, .int .i64 c]) u := by
  rcases (show k = 0 ∨ k = 1 ∨ k = 2 ∨ k = 3 ∨ k = 4 ∨ k = 5 ∨ k = 6 ∨ k = 7 ∨ k = 8 ∨ k = 9 ∨ k = 10 ∨ k = 11 ∨ k = 12 ∨ k = 13 ∨ k = 14 by omega) with rfl | rfl | rfl | rfl | rfl | rfl | rfl | rfl | rfl | rfl | rfl | rfl | rfl | rfl | rfl
  · exact ⟨0, 0, 0, fun u => by kernel_rfl⟩
  · exact ⟨1, 3, 0, fun u => by kernel_rfl⟩
  · exact ⟨4, 0, 0, fun u => by kernel_rfl⟩
  · exact ⟨4, 0, 0, fun u => by kernel_rfl⟩
  · exact ⟨4, 0, 0, fun u => by kernel_rfl⟩
  · exact ⟨4, 5, 6, fun u => by kernel_rfl⟩
  · exact ⟨1, 0, 0, fun u => by kernel_rfl⟩
  · exact ⟨1, 7, 0, fun u => by kernel_rfl⟩
  · exact ⟨1, 0, 0, fun u => by kernel_rfl⟩
  · exact ⟨1, 0, 0, fun u => by kernel_rfl⟩
  · exact ⟨1, 0, 0, fun u => by kernel_rfl⟩
  · exact ⟨2, 0, 0, fun u => by kernel_rfl⟩
  · exact ⟨2, 0, 0, fun u => by kernel_rfl⟩
  · exact ⟨3, 0, 0, fun u => by kernel_rfl⟩
  · exact ⟨3, 0, 0, fun u => by kernel_rfl⟩
set_option maxRecDepth 100000 in
theorem word_ix (k : Nat) (h : k < 5) : ∀ u : World, (Instr.index 105 (.agg wordC) (.int .i64 (k : Int))).run Tryz.prog u = .ok (.string (sOf (opK (k : Int)))) u := by
  rcases (show k = 0 ∨ k = 1 ∨ k = 2 ∨ k = 3 ∨ k = 4 by omega) with rfl | rfl | rfl | rfl | rfl
  all_goals exact fun u => by kernel_rfl
theorem kindK_hit (k : Nat) (h1 : 1 ≤ k) (h2 : k ≤ 14) : kindK (wordK (k : Int)) = k := by
  rcases (show k = 1 ∨ k = 2 ∨ k = 3 ∨ k = 4 ∨ k = 5 ∨ k = 6 ∨ k = 7 ∨ k = 8 ∨ k = 9 ∨ k = 10 ∨ k = 11 ∨ k = 12 ∨ k = 13 ∨ k = 14 by omega) with rfl | rfl | rfl | rfl | rfl | rfl | rfl | rfl | rfl | rfl | rfl | rfl | rfl | rfl <;> decide
theorem kindK_none (l : List UInt8) (h : ∀ k : Nat, 1 ≤ k → k ≤ 14 → l ≠ wordK (k : Int)) : kindK l = 0 := by
  unfold kindK
  rw [if_neg (show ¬ l = wordK 1 from h 1 (by omega) (by omega)), if_neg (show ¬ l = wordK 2 from h 2 (by omega) (by omega)), if_neg (show ¬ l = wordK 3 from h 3 (by omega) (by omega)), if_neg (show ¬ l = wordK 4 from h 4 (by omega) (by omega)), if_neg (show ¬ l = wordK 5 from h 5 (by omega) (by omega)), if_neg (show ¬ l = wordK 6 from h 6 (by omega) (by omega)), if_neg (show ¬ l = wordK 7 from h 7 (by omega) (by omega)), if_neg (show ¬ l = wordK 8 from h 8 (by omega) (by omega)), if_neg (show ¬ l = wordK 9 from h 9 (by omega) (by omega)), if_neg (show ¬ l = wordK 10 from h 10 (by omega) (by omega)), if_neg (show ¬ l = wordK 11 from h 11 (by omega) (by omega)), if_neg (show ¬ l = wordK 12 from h 12 (by omega) (by omega)), if_neg (show ¬ l = wordK 13 from h 13 (by omega) (by omega)), if_neg (show ¬ l = wordK 14 from h 14 (by omega) (by omega))]
theorem opW_hit (k : Nat) (h1 : 1 ≤ k) (h2 : k ≤ 4) : opW (opK (k : Int)) = k := by
  rcases (show k = 1 ∨ k = 2 ∨ k = 3 ∨ k = 4 by omega) with rfl | rfl | rfl | rfl <;> decide
theorem opW_none (l : List UInt8) (h : ∀ k : Nat, 1 ≤ k → k ≤ 4 → l ≠ opK (k : Int)) : opW l = 0 := by
  unfold opW
  rw [if_neg (show ¬ l = opK 1 from h 1 (by omega) (by omega)), if_neg (show ¬ l = opK 2 from h 2 (by omega) (by omega)), if_neg (show ¬ l = opK 3 from h 3 (by omega) (by omega)), if_neg (show ¬ l = opK 4 from h 4 (by omega) (by omega))]
theorem list_neq {a l : List UInt8} (h : ¬ l = a) : ((sOf a).toList == (sOf l).toList) = false := by
  rw [beq_eq_false_iff_ne, ByteArray.toList_eq, ByteArray.toList_eq, list_sOf, list_sOf]
  exact fun e => h e.symm

set_option maxHeartbeats 4000000 in
set_option maxRecDepth 100000 in
theorem kindOf_any (l : List UInt8) (hne : l ≠ []) (w : World) (ht : Tabs2 w) :
    Calls Tryz.prog 47 #[.string (sOf l)] w fun e w' => e = .returned (.int .i64 (kindK l)) ∧ Below w.heap.size w w' := by
  obtain ⟨tF, hF⟩ := ht.f
  have HF : Hid (Blk w 0 formC tF) := hF
  have hFs : formC.size = 60 := rfl
  have HIx : Hid (∀ (k : Nat), k < 15 → ∃ a b c : Int, ∀ u : World, (Instr.index 93 (.agg formC) (.int .i64 (k : Int))).run Tryz.prog u = .ok (.agg #[.string (sOf (wordK (k : Int))), .int .i64 a, .int .i64 b, .int .i64 c]) u) := form_ix
  clear hF ht
  generalize formC = FC at *
  have G : Hid True := trivial
  obtain ⟨KK, hKK⟩ : ∃ K, K = kindK l := ⟨_, rfl⟩
  have HK : Hid (KK = kindK l) := hKK
  rw [← hKK]
  clear hKK
  have h0 : Hid (l ≠ wordK 0) := hne
  go_enter Tryz.func47, Tryz.ntmps47
  go_wp2_with (have hBA := G; refine gate_ld 93 (.global 0) rfl ?_; clear hBA; refine wpl_load_blk rfl 93 (.global 0) rfl (0) rfl HF.out Tryz.underlying93 rfl sizeFA hFs.symm ?_; clear G)
  go_loopw [6] (fun i wr => ∃ k : Nat, k ≤ 15 ∧ i = .int .i64 k ∧ (∀ j : Nat, j < k → l ≠ wordK (j : Int)) ∧ Below w.heap.size w wr ∧ w.heap.size ≤ wr.heap.size) (fun i _ => 15 - (intOf i).toNat)
  case atStart => exact ⟨0, by omega, rfl, fun j h => absurd h (by omega), Below.refl _ _, Nat.le_refl _⟩
  case round =>
    obtain ⟨k, hk, rfl, hN, hB, hz⟩ := hrel
    have HN : Hid (∀ j : Nat, j < k → l ≠ wordK (j : Int)) := hN
    have HB : Hid (Below w.heap.size w wr) := hB
    clear hN hB
    by_cases hlt : k < 15
    · obtain ⟨a, b, c, hix⟩ := HIx.out k hlt
      have hkl : (k : Int) < 15 := by omega
      by_cases he : l = wordK (k : Int)
      · have hk0 : k ≠ 0 := fun e => h0.out (by rw [he, e]; rfl)
        have hKk : KK = k := by rw [HK.out, he]; exact kindK_hit k (by omega) (by omega)
        rw [← he] at hix
        generalize sOf l = S at *
        go_wp2
        go_ret
        exact ⟨by rw [hKk]; rfl, HB.out.alloc hz _⟩
      · have hneq := list_neq he
        generalize sOf (wordK (k : Int)) = A at *
        generalize sOf l = S at *
        go_wp2
        go_roundw
        case rel => exact ⟨k + 1, by omega, by go_num, fun j hj => (by
          by_cases e : j = k
          · rw [e]; exact he
          · exact HN.out j (by omega)), HB.out.alloc hz _, by simp; omega⟩
        case measure => simp [intOf]; omega
    · obtain rfl : k = 15 := by omega
      have hKk : KK = 0 := by rw [HK.out]; exact kindK_none l fun j _ h2 => HN.out j (by omega)
      go_wp2
      go_ret
      exact ⟨by rw [hKk]; rfl, HB.out⟩
set_option maxHeartbeats 4000000 in
set_option maxRecDepth 100000 in
theorem opOf_any (l : List UInt8) (hne : l ≠ []) (w : World) (ht : Tabs2 w) :
    Calls Tryz.prog 64 #[.string (sOf l)] w fun e w' => e = .returned (.int .i64 (opW l)) ∧ w' = w := by
  obtain ⟨tF, hF⟩ := ht.w
  have HF : Hid (Blk w 2 wordC tF) := hF
  have hFs : wordC.size = 5 := rfl
  have HIx : Hid (∀ (k : Nat), k < 5 → ∀ u : World, (Instr.index 105 (.agg wordC) (.int .i64 (k : Int))).run Tryz.prog u = .ok (.string (sOf (opK (k : Int)))) u) := word_ix
  clear hF ht
  generalize wordC = FC at *
  have G : Hid True := trivial
  obtain ⟨KK, hKK⟩ : ∃ K, K = opW l := ⟨_, rfl⟩
  have HK : Hid (KK = opW l) := hKK
  rw [← hKK]
  clear hKK
  have h0 : Hid (l ≠ opK 0) := hne
  go_enter Tryz.func64, Tryz.ntmps64
  go_wp2_with (have hBA := G; refine gate_ld 105 (.global 2) rfl ?_; clear hBA; refine wpl_load_blk rfl 105 (.global 2) rfl (2) rfl HF.out Tryz.underlying105 rfl sizeWA hFs.symm ?_; clear G)
  go_loopw [6] (fun i wr => ∃ k : Nat, k ≤ 5 ∧ i = .int .i64 k ∧ (∀ j : Nat, j < k → l ≠ opK (j : Int)) ∧ wr = w) (fun i _ => 5 - (intOf i).toNat)
  case atStart => exact ⟨0, by omega, rfl, fun j h => absurd h (by omega), rfl⟩
  case round =>
    obtain ⟨k, hk, rfl, hN, rfl⟩ := hrel
    have HN : Hid (∀ j : Nat, j < k → l ≠ opK (j : Int)) := hN
    clear hN
    by_cases hlt : k < 5
    · have hix := HIx.out k hlt
      have hkl : (k : Int) < 5 := by omega
      by_cases he : l = opK (k : Int)
      · have hk0 : k ≠ 0 := fun e => h0.out (by rw [he, e]; rfl)
        have hKk : KK = k := by rw [HK.out, he]; exact opW_hit k (by omega) (by omega)
        rw [← he] at hix
        generalize sOf l = S at *
        go_wp2
        go_ret
        exact ⟨by rw [hKk]; rfl, rfl⟩
      · have hneq := list_neq he
        generalize sOf (opK (k : Int)) = A at *
        generalize sOf l = S at *
        go_wp2
        go_roundw
        case rel => exact ⟨k + 1, by omega, by go_num, fun j hj => (by
          by_cases e : j = k
          · rw [e]; exact he
          · exact HN.out j (by omega)), by trivial⟩
        case measure => simp [intOf]; omega
    · obtain rfl : k = 5 := by omega
      have hKk : KK = 0 := by rw [HK.out]; exact opW_none l fun j _ h2 => HN.out j (by omega)
      go_wp2
      go_ret
      exact ⟨by rw [hKk]; rfl, rfl⟩
end Go.Proofs.YtanpindbhdeomaaGreatDoor
