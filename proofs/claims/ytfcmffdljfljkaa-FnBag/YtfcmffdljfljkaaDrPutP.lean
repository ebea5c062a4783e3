/-
  spec.l1long of many, bytes of a text; what spec.DrawBagPut draws (pure).
-/
import Derived.Test.YtfcmffdljfljkaaDrBadG
import Derived.Test.YtfcmffdljfljkaaL1size
import Derived.Lib.ConvBytes
namespace Go.Proofs.Ytfcmffdljfljkaa
open Go.RowKit
set_option linter.unusedVariables false
set_option linter.unusedSimpArgs false

set_option maxHeartbeats 1000000 in
set_option maxRecDepth 100000 in
theorem l1longB_any (n : Nat) (c : Int) (hn0 : 0 < n) (hn : n ≤ 100000) (hc : 0 ≤ c ∧ c ≤ 255) (w : World) :
    Calls Try.prog 74 #[.int .i64 n, .int .u8 c] w fun e w' => e = .returned (.string (strOfNums (List.replicate n c))) ∧ Below w.heap.size w w' := by
  have hO := Own.lit w [] #[] rfl (by simp) (by simp [maxLen])
  go_enter Try.func74, Try.ntmps74
  go_wp2
  go_loopw [5, 6] (fun o i wr => ∃ k : Nat, k ≤ n ∧ i = .int .i64 k ∧ Own wr w.heap.size o (List.replicate k c) ∧ Below w.heap.size w wr) (fun _ i _ => n - (intOf i).toNat)
  case atStart => exact ⟨0, Nat.zero_le _, rfl, by simpa using hO, (Below.refl _ _).alloc (Nat.le_refl _) _⟩
  case round =>
    obtain ⟨k, hk, rfl, ho, hb⟩ := hrel
    have hz := hb.size
    clear hO
    by_cases hlt : k < n
    · go_wp2_with (at_builtin; refine wpl_append rfl (.tmp 13) (.tmp 15) rfl (ho.below ((Below.refl _ _).alloc (Nat.le_refl _) _)) rfl (bs_one _ c hc) rfl (by simp) (by simp; omega) (by simp; omega) ?_; intro v2 w2 ho2 hg2)
      go_roundw
      case rel => exact ⟨k + 1, by omega, by go_num, by rw [List.replicate_succ']; exact ho2, hb.trans (((Below.refl _ _).alloc (by omega) _).trans (hg2.below (ho.below ((Below.refl _ _).alloc (Nat.le_refl _) _)) (by simp; omega)))⟩
      case measure => simp [intOf]; omega
    · obtain rfl : k = n := by omega
      obtain ⟨a', cap', e'⟩ := ho.shape
      rw [List.length_replicate] at e'
      subst e'
      have hcv := conv_bs (ho.bs (by simp [maxLen]; omega)) (by simpa using hn0)
      clear ho
      go_wp2
      go_ret
      exact ⟨rfl, hb⟩
theorem below_bytesW (w : World) (s : ByteArray) : Below w.heap.size w (Lib.bytesWorld w 5 s) :=
  ⟨rfl, rfl, rfl, by rw [Lib.bytesWorld_size]; omega, fun k hk => Lib.bytesWorld_at_old w 5 s k hk⟩
theorem bs_bytesW (w : World) (n : Nat) (c : Int) (hc : 0 ≤ c ∧ c ≤ 255) (hn : n ≤ 100000) (cap : Nat) : Bs (Lib.bytesWorld w 5 (strOfNums (List.replicate n c))) (.slice (some ⟨w.heap.size, 0, none⟩) n cap) (List.replicate n c) := by
  refine ⟨by simp [maxLen]; omega, fun x hx => by rw [List.eq_of_mem_replicate hx]; exact hc, _, cap, by rw [List.length_replicate], fun i hi => ⟨w.heap.size, 0, rfl, fun j hj => ?_⟩⟩
  rw [List.length_replicate] at hj
  rw [Nat.zero_add, Lib.bytesWorld_cell w 5 _ j (by rw [strOfNums_size, List.length_replicate]; exact hj)]
  unfold strOfNums
  simp [hj]
  omega

def put1 (l : List Int) (s : Int × List Pkt × List Int × Nat) : Int × List Pkt × List Int × Nat := if pickV l s.2.2.2 6 = 0 then badB l (s.2.2.2 + 1) s.1 s.2.1 s.2.2.1 else (s.1, s.2.1, s.2.2.1, s.2.2.2 + 1)
def fullP (n : Nat) : List Pkt := (List.range n).map fun i => ⟨((i + 1 : Nat) : Int), 1, 2, [1]⟩
theorem fullP_succ (n : Nat) : fullP (n + 1) = fullP n ++ [⟨((n + 1 : Nat) : Int), 1, 2, [1]⟩] := by
  unfold fullP
  rw [List.range_succ, List.map_append]
  rfl
def put2 (l : List Int) (s : Int × List Pkt × List Int × Nat) : Int × List Pkt × List Int × Nat := if pickV l s.2.2.2 20 = 0 then (4098, fullP (4096 - pickV l (s.2.2.2 + 1) 2), [], s.2.2.2 + 1 + 1) else (s.1, s.2.1, s.2.2.1, s.2.2.2 + 1)
def putT (l : List Int) (k : Nat) : Int × Nat := if pickV l (k + 1) 4 = 0 then (((pickV l (k + 1 + 1) 22 : Nat) : Int), k + 1 + 1 + 1) else (1 + ((pickV l k 7 : Nat) : Int), k + 1 + 1)
def putF (l : List Int) (k : Nat) (f : Int) : Int × Nat := if pickV l k 6 = 0 then (((pickV l (k + 1) 22 : Nat) : Int), k + 1 + 1) else (f, k + 1)
def putY (l : List Int) (k : Nat) : List Int := if pickV l (k + 1) 16 = 0 then [] else if pickV l (k + 1) 16 < 3 then List.replicate (16383 + pickV l (k + 1) 16) 120 else [nextV l k, 1]
theorem ite_bothB {α : Type} {P : α → Prop} {c : Prop} [Decidable c] {a b : α} (ha : P a) (hb : P b) : P (if c then a else b) := by
  by_cases h : c
  · rw [if_pos h]; exact ha
  · rw [if_neg h]; exact hb
theorem badP_k (l : List Int) (k q : Nat) (N : Int) (p : Pkt) : (badP l k q N p).2 ≤ k + 1 := by
  unfold badP
  repeat' refine ite_bothB (P := fun z : Pkt × Nat => z.2 ≤ k + 1) ?_ ?_
  all_goals (dsimp only; omega)
theorem badB_k (l : List Int) (k : Nat) (N : Int) (P : List Pkt) (W : List Int) : (badB l k N P W).2.2.2 ≤ k + 7 ∧ (badB l k N P W).2.1.length = P.length ∧ (badB l k N P W).2.2.1.length ≤ W.length + 2 := by
  have h1 := pickK_le P.length
  have h2 := badP_k l (k + 1 + pickK P.length) (pickV l k 10) N (pkAtD P (pickV l (k + 1) P.length))
  unfold badB
  repeat' refine ite_bothB (P := fun z : Int × List Pkt × List Int × Nat => z.2.2.2 ≤ k + 7 ∧ z.2.1.length = P.length ∧ z.2.2.1.length ≤ W.length + 2) ?_ ?_
  all_goals dsimp only
  all_goals (try rw [List.length_set])
  all_goals refine ⟨by omega, rfl, ?_⟩
  all_goals (try simp)
end Go.Proofs.Ytfcmffdljfljkaa
