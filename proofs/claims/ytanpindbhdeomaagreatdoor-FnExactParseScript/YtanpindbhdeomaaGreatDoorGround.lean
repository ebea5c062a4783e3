import Derived.Test.YtanpindbhdeomaaGreatDoorRows
import Derived.WalkKit
import Derived.WalkSpells
import Derived.RowKit3
import Derived.Below
import Derived.Deep.Light
import Derived.Lib.ItoaNum
import Derived.Lib.SplitLaws
import Derived.Lib.Split
/-
  Small things that every walk wants.
-/
namespace Go.Proofs.YtanpindbhdeomaaGreatDoor
open Go.RowKit
set_option linter.unusedVariables false

theorem bcell {W w1 : World} (hb : Below W.heap.size W w1) : (∀ b o, b < W.heap.size → w1.cell? ⟨b, o, none⟩ = W.cell? ⟨b, o, none⟩) ∧ (∀ b o, b < W.heap.size → w1.frozen? ⟨b, o, none⟩ = W.frozen? ⟨b, o, none⟩) :=
  ⟨fun b o h => hb.cell (p := ⟨b, o, none⟩) h, fun b o h => hb.frozen (p := ⟨b, o, none⟩) h⟩

theorem ret_int {k : IntKind} {a b : Int} (h : a = b) : Ending.returned (.int k a) = .returned (.int k b) := by rw [h]

theorem ifc {α : Type} {p q : Prop} [Decidable p] [Decidable q] {a b c d : α} (h : p ↔ q) (h1 : a = c) (h2 : b = d) : (if p then a else b) = if q then c else d := by
  subst h1 h2
  by_cases hp : p
  · rw [if_pos hp, if_pos (h.1 hp)]
  · rw [if_neg hp, if_neg (fun hq => hp (h.2 hq))]
end Go.Proofs.YtanpindbhdeomaaGreatDoor

/-
  impl.within.
-/
namespace Go.Proofs.YtanpindbhdeomaaGreatDoor
open Go.RowKit
set_option linter.unusedVariables false

/-- in a range, as a Bool that the walk leaves whole -/
def inB (n lo hi : Int) : Bool := decide (lo ≤ n) && decide (n ≤ hi)
theorem inB_iff (n lo hi : Int) : inB n lo hi = true ↔ lo ≤ n ∧ n ≤ hi := by simp [inB]
theorem inB_not (n lo hi : Int) : inB n lo hi = false ↔ (n < lo ∨ hi < n) := by
  by_cases h1 : lo ≤ n <;> by_cases h2 : n ≤ hi <;> simp [inB, h1, h2] <;> omega

set_option maxHeartbeats 400000 in
theorem within_any (n lo hi : Int) (w : World) :
    Calls Tryz.prog 43 #[.int .i64 n, .int .i64 lo, .int .i64 hi] w fun e w' => e = .returned (.bool (inB n lo hi)) ∧ w' = w := by
  by_cases h1 : lo ≤ n
  · by_cases h2 : n ≤ hi
    · have hb : inB n lo hi = true := by simp [inB, h1, h2]
      rw [hb]
      go_enter Tryz.func43, Tryz.ntmps43
      go_wp2
      go_ret
      exact ⟨rfl, rfl⟩
    · have hb : inB n lo hi = false := by simp [inB, h1]; omega
      rw [hb]
      go_enter Tryz.func43, Tryz.ntmps43
      go_wp2
      go_ret
      exact ⟨by simp, rfl⟩
  · have hb : inB n lo hi = false := by simp [inB]; omega
    rw [hb]
    go_enter Tryz.func43, Tryz.ntmps43
    go_wp2
    go_ret
    exact ⟨rfl, rfl⟩

end Go.Proofs.YtanpindbhdeomaaGreatDoor

/-
  impl.limitsOf; CmdFault, both.
-/
namespace Go.Proofs.YtanpindbhdeomaaGreatDoor
open Go.RowKit
set_option linter.unusedVariables false

/-- impl.limitsOf, as a value -/
def limV (op : Int) : Value :=
  if op = 0 then .agg #[.int .i64 0, .int .i64 0, .int .i64 0, .int .i64 0, .int .i64 0, .int .i64 0]
  else .agg #[.int .i64 1, .int .i64 8, .int .i64 1073741824, .int .i64 64, .int .i64 (if op = 2 ∨ op = 4 then 64 else 0), .int .i64 (if op = 4 then 64 else 0)]

theorem limitsOf_any (op : Int) (w : World) :
    Calls Tryz.prog 90 #[.int .i64 op] w fun e w' => e = .returned (limV op) ∧ Below w.heap.size w w' := by
  by_cases h0 : op = 0
  · subst h0
    have e : limV 0 = .agg #[.int .i64 0, .int .i64 0, .int .i64 0, .int .i64 0, .int .i64 0, .int .i64 0] := rfl
    rw [e]
    go_enter Tryz.func90, Tryz.ntmps90
    go_wp2
    exact bodyPost_ret (v := .agg #[.int .i64 0, .int .i64 0, .int .i64 0, .int .i64 0, .int .i64 0, .int .i64 0]) (by simp [results, Tryz.results90, go_sem]) rfl ⟨rfl, (Below.refl _ _).alloc (Nat.le_refl _) _⟩
  by_cases h2 : op = 2
  · subst h2
    have e : limV 2 = .agg #[.int .i64 1, .int .i64 8, .int .i64 1073741824, .int .i64 64, .int .i64 64, .int .i64 0] := rfl
    rw [e]
    go_enter Tryz.func90, Tryz.ntmps90
    go_wp2
    exact bodyPost_ret (v := .agg #[.int .i64 1, .int .i64 8, .int .i64 1073741824, .int .i64 64, .int .i64 64, .int .i64 0]) (by simp [results, Tryz.results90, go_sem]) rfl ⟨rfl, ((Below.refl _ _).alloc (Nat.le_refl _) _).alloc (by simp) _⟩
  by_cases h4 : op = 4
  · subst h4
    have e : limV 4 = .agg #[.int .i64 1, .int .i64 8, .int .i64 1073741824, .int .i64 64, .int .i64 64, .int .i64 64] := rfl
    rw [e]
    go_enter Tryz.func90, Tryz.ntmps90
    go_wp2
    exact bodyPost_ret (v := .agg #[.int .i64 1, .int .i64 8, .int .i64 1073741824, .int .i64 64, .int .i64 64, .int .i64 64]) (by simp [results, Tryz.results90, go_sem]) rfl ⟨rfl, ((Below.refl _ _).alloc (Nat.le_refl _) _).alloc (by simp) _⟩
  · have e : limV op = .agg #[.int .i64 1, .int .i64 8, .int .i64 1073741824, .int .i64 64, .int .i64 0, .int .i64 0] := by simp [limV, h0, h2, h4]
    rw [e]
    have n2 : (op == 2) = false := by simpa using h2
    have n4 : (op == 4) = false := by simpa using h4
    go_enter Tryz.func90, Tryz.ntmps90
    go_wp2
    all_goals exact bodyPost_ret (v := .agg #[.int .i64 1, .int .i64 8, .int .i64 1073741824, .int .i64 64, .int .i64 0, .int .i64 0]) (by simp [results, Tryz.results90, go_sem]) rfl ⟨rfl, ((Below.refl _ _).alloc (Nat.le_refl _) _).alloc (by simp) _⟩

/-- the fault of a command -/
def cmdF (cl sq op : Int) (k v o : Int) : Int :=
  if op < 0 ∨ 4 < op then 1
  else if op = 0 then (if cl ≠ 0 then 2 else if sq ≠ 0 then 3 else if k ≠ 0 then 4 else if v ≠ 0 then 5 else if o ≠ 0 then 6 else 0)
  else if cl < 1 ∨ 8 < cl then 2 else if sq < 1 ∨ 1073741824 < sq then 3 else if k < 1 ∨ 64 < k then 4
  else if (if op = 2 ∨ op = 4 then 64 else 0) < v then 5 else if (if op = 4 then 64 else 0) < o then 6 else 0



def implF (cl sq op k v o l0 l1 l2 l3 l4 l5 : Int) : Int :=
  if inB op 0 4 = false then 1 else if inB cl l0 l1 = false then 2 else if inB sq l0 l2 = false then 3 else if inB k l0 l3 = false then 4 else if l4 < v then 5 else if l5 < o then 6 else 0

set_option maxHeartbeats 1000000 in
theorem implCF_lim (cl sq op : Int) (k v o : ByteArray) (l0 l1 l2 l3 l4 l5 : Int) (hlim : limV op = .agg #[.int .i64 l0, .int .i64 l1, .int .i64 l2, .int .i64 l3, .int .i64 l4, .int .i64 l5])
    (hk : k.size ≤ maxLen) (hv : v.size ≤ maxLen) (ho : o.size ≤ maxLen) (w : World) :
    Calls Tryz.prog 86 #[.agg #[.int .i64 cl, .int .i64 sq, .int .i64 op, .string k, .string v, .string o]] w fun e w' =>
      e = .returned (.int .i64 (implF cl sq op k.size v.size o.size l0 l1 l2 l3 l4 l5)) ∧ Below w.heap.size w w' := by
  unfold maxLen at hk hv ho
  have HL : Hid (limV op = .agg #[.int .i64 l0, .int .i64 l1, .int .i64 l2, .int .i64 l3, .int .i64 l4, .int .i64 l5]) := hlim
  clear hlim
  go_enter Tryz.func86, Tryz.ntmps86
  go_wp2_with (first
    | (go_at_call 90; refine (limitsOf_any _ _).mono ?_; rintro e w1 ⟨rfl, hb⟩; rw [HL.out]; obtain ⟨hc, hf⟩ := bcell hb; have hz : w.heap.size < w1.heap.size := (by have := hb.size; simp at this; omega))
    | (go_at_call 43; refine (within_any _ _ _ _).mono ?_; rintro e w' ⟨rfl, rfl⟩))
  all_goals go_ret
  all_goals refine ⟨ret_int ?_, (((Below.refl _ _).alloc (Nat.le_refl _) _).trans (hb.mono (by simp))).alloc (by omega) _⟩
  all_goals (clear hb hc hf HL; go_light; simp_all [implF]; try omega)

theorem implF_zero (cl sq k v o : Int) (hk : 0 ≤ k) (hv : 0 ≤ v) (ho : 0 ≤ o) : implF cl sq 0 k v o 0 0 0 0 0 0 = cmdF cl sq 0 k v o := by
  unfold implF cmdF
  simp only [inB_not]
  rw [if_neg (by omega : ¬ ((0 : Int) < 0 ∨ (4 : Int) < 0)), if_neg (by omega : ¬ ((0 : Int) < 0 ∨ (4 : Int) < 0)), if_pos trivial]
  exact ifc (by omega) rfl (ifc (by omega) rfl (ifc (by omega) rfl (ifc (by omega) rfl (ifc (by omega) rfl rfl))))
theorem implF_pos (cl sq op k v o : Int) (h : op ≠ 0) : implF cl sq op k v o 1 8 1073741824 64 (if op = 2 ∨ op = 4 then 64 else 0) (if op = 4 then 64 else 0) = cmdF cl sq op k v o := by
  unfold implF cmdF
  simp only [inB_not]
  rw [if_neg h]

theorem implCmdFault_any (cl sq op : Int) (k v o : ByteArray) (hk : k.size ≤ maxLen) (hv : v.size ≤ maxLen) (ho : o.size ≤ maxLen) (w : World) :
    Calls Tryz.prog 86 #[.agg #[.int .i64 cl, .int .i64 sq, .int .i64 op, .string k, .string v, .string o]] w fun e w' =>
      e = .returned (.int .i64 (cmdF cl sq op k.size v.size o.size)) ∧ Below w.heap.size w w' := by
  by_cases h : op = 0
  · subst h
    rw [← implF_zero _ _ _ _ _ (Int.natCast_nonneg _) (Int.natCast_nonneg _) (Int.natCast_nonneg _)]
    exact implCF_lim cl sq 0 k v o 0 0 0 0 0 0 rfl hk hv ho w
  · rw [← implF_pos _ _ _ _ _ _ h]
    exact implCF_lim cl sq op k v o _ _ _ _ _ _ (by simp [limV, h]) hk hv ho w

set_option maxHeartbeats 2000000 in
theorem specCmdFault_any (cl sq op : Int) (k v o : ByteArray) (hk : k.size ≤ maxLen) (hv : v.size ≤ maxLen) (ho : o.size ≤ maxLen) (w : World) :
    Calls Tryz.prog 56 #[.agg #[.int .i64 cl, .int .i64 sq, .int .i64 op, .string k, .string v, .string o]] w fun e w' =>
      e = .returned (.int .i64 (cmdF cl sq op k.size v.size o.size)) ∧ Below w.heap.size w w' := by
  unfold maxLen at hk hv ho
  go_enter Tryz.func56, Tryz.ntmps56
  go_wp2
  all_goals go_ret
  all_goals refine ⟨ret_int ?_, (Below.refl _ _).alloc (Nat.le_refl _) _⟩
  all_goals go_light
  all_goals (try (simp only [beq_iff_eq, beq_eq_false_iff_ne, bne_iff_ne, bne_eq_false_iff_eq, ne_eq] at *))
  all_goals first | (exfalso; omega) | (unfold cmdF; repeat (first | rfl | rw [if_pos (by omega)] | rw [if_neg (by omega)]))
end Go.Proofs.YtanpindbhdeomaaGreatDoor

/-
  impl.callFault.
-/
namespace Go.Proofs.YtanpindbhdeomaaGreatDoor
open Go.RowKit
set_option linter.unusedVariables false

/-- the fault of a call -/
def callF (cl sq op k v o : Int) : Int := if cmdF cl sq op k v o = 0 ∧ op = 0 then 1 else cmdF cl sq op k v o

set_option maxHeartbeats 1000000 in
theorem callFault_any (cl sq op : Int) (k v o : ByteArray) (hk : k.size ≤ maxLen) (hv : v.size ≤ maxLen) (ho : o.size ≤ maxLen) (w : World) :
    Calls Tryz.prog 78 #[.agg #[.int .i64 cl, .int .i64 sq, .int .i64 op, .string k, .string v, .string o]] w fun e w' =>
      e = .returned (.int .i64 (callF cl sq op k.size v.size o.size)) ∧ Below w.heap.size w w' := by
  by_cases h0 : cmdF cl sq op k.size v.size o.size = 0
  · by_cases h1 : op = 0
    · have e : callF cl sq op k.size v.size o.size = 1 := by rw [callF, if_pos ⟨h0, h1⟩]
      rw [e]
      subst h1
      go_enter Tryz.func78, Tryz.ntmps78
      go_wp2_with (go_at_call 86; refine (implCmdFault_any cl sq 0 k v o hk hv ho _).mono ?_; rintro e w1 ⟨rfl, hb⟩; obtain ⟨hc, hf⟩ := bcell hb)
      go_ret
      exact ⟨rfl, ((Below.refl _ _).alloc (Nat.le_refl _) _).trans (hb.mono (by simp))⟩
    · have e : callF cl sq op k.size v.size o.size = 0 := by rw [callF, if_neg (fun h => h1 h.2), h0]
      have n1 : (op == 0) = false := by simpa using h1
      rw [e]
      go_enter Tryz.func78, Tryz.ntmps78
      go_wp2_with (go_at_call 86; refine (implCmdFault_any cl sq op k v o hk hv ho _).mono ?_; rintro e w1 ⟨rfl, hb⟩; obtain ⟨hc, hf⟩ := bcell hb)
      go_ret
      exact ⟨rfl, ((Below.refl _ _).alloc (Nat.le_refl _) _).trans (hb.mono (by simp))⟩
  · have e : callF cl sq op k.size v.size o.size = cmdF cl sq op k.size v.size o.size := by rw [callF, if_neg (fun h => h0 h.1)]
    rw [e]
    generalize hX : cmdF cl sq op k.size v.size o.size = X at h0
    have HX : Hid (cmdF cl sq op k.size v.size o.size = X) := hX
    have n0 : (X == 0) = false := by simpa using h0
    clear hX
    go_enter Tryz.func78, Tryz.ntmps78
    go_wp2_with (go_at_call 86; refine (implCmdFault_any cl sq op k v o hk hv ho _).mono ?_; rintro e w1 ⟨rfl, hb⟩; rw [HX.out]; obtain ⟨hc, hf⟩ := bcell hb)
    go_ret
    exact ⟨rfl, ((Below.refl _ _).alloc (Nat.le_refl _) _).trans (hb.mono (by simp))⟩

end Go.Proofs.YtanpindbhdeomaaGreatDoor

/-
  spec.l1in.
-/
namespace Go.Proofs.YtanpindbhdeomaaGreatDoor
open Go.RowKit
set_option linter.unusedVariables false

theorem l1in_any (n lo hi : Int) (w : World) :
    Calls Tryz.prog 39 #[.int .i64 n, .int .i64 lo, .int .i64 hi] w fun e w' => e = .returned (.bool (inB n lo hi)) ∧ w' = w := by
  by_cases h1 : lo ≤ n
  · by_cases h2 : n ≤ hi
    · have hb : inB n lo hi = true := by simp [inB, h1, h2]
      rw [hb]
      go_enter Tryz.func39, Tryz.ntmps39
      go_wp2
      go_ret
      exact ⟨rfl, rfl⟩
    · have hb : inB n lo hi = false := by simp [inB, h1]; omega
      rw [hb]
      go_enter Tryz.func39, Tryz.ntmps39
      go_wp2
      go_ret
      exact ⟨by simp, rfl⟩
  · have hb : inB n lo hi = false := by simp [inB]; omega
    rw [hb]
    go_enter Tryz.func39, Tryz.ntmps39
    go_wp2
    go_ret
    exact ⟨rfl, rfl⟩

end Go.Proofs.YtanpindbhdeomaaGreatDoor

/-
  impl.sizeFits, spec.l3size.
-/
namespace Go.Proofs.YtanpindbhdeomaaGreatDoor
open Go.RowKit
set_option linter.unusedVariables false
set_option linter.unusedSimpArgs false

def sizB (n : Int) : Bool := n == 3 || n == 5 || n == 7
theorem sizeFitsN_any (n : Int) (w : World) : Calls Tryz.prog 63 #[.int .i64 n] w fun e w' => e = .returned (.bool (sizB n)) ∧ w' = w := by
  by_cases h3 : n = 3
  · subst h3
    go_enter Tryz.func63, Tryz.ntmps63
    go_wp2
    go_ret
    exact ⟨rfl, rfl⟩
  · by_cases h5 : n = 5
    · subst h5
      go_enter Tryz.func63, Tryz.ntmps63
      go_wp2
      go_ret
      exact ⟨rfl, rfl⟩
    · go_enter Tryz.func63, Tryz.ntmps63
      go_wp2
      go_ret
      exact ⟨by simp [sizB, h3, h5], rfl⟩
theorem l3size_any (n : Int) (w : World) : Calls Tryz.prog 38 #[.int .i64 n] w fun e w' => e = .returned (.bool (sizB n)) ∧ w' = w := by
  by_cases h3 : n = 3
  · subst h3
    go_enter Tryz.func38, Tryz.ntmps38
    go_wp2
    go_ret
    exact ⟨rfl, rfl⟩
  · by_cases h5 : n = 5
    · subst h5
      go_enter Tryz.func38, Tryz.ntmps38
      go_wp2
      go_ret
      exact ⟨rfl, rfl⟩
    · go_enter Tryz.func38, Tryz.ntmps38
      go_wp2
      go_ret
      exact ⟨by simp [sizB, h3, h5], rfl⟩
end Go.Proofs.YtanpindbhdeomaaGreatDoor

/-
  SetupFault, both; laws.toSetup.
-/
namespace Go.Proofs.YtanpindbhdeomaaGreatDoor
open Go.RowKit
set_option linter.unusedVariables false
set_option linter.unusedSimpArgs false

/-- the fault of a setup -/
def setF (s c el b r d : Int) : Int :=
  if sizB s = false then 1 else if inB c 1 8 = false then 2 else if inB el 2 1000 = false then 3 else if inB b 1 el = false then 4
  else if inB r 1 1000 = false then 5 else if inB d 0 1048576 = false then 6 else 0

set_option maxHeartbeats 2000000 in
theorem setupFault_any (s c el b r d : Int) (w : World) :
    Calls Tryz.prog 45 #[.agg #[.int .i64 s, .int .i64 c, .int .i64 el, .int .i64 b, .int .i64 r, .int .i64 d]] w fun e w' =>
      e = .returned (.int .i64 (setF s c el b r d)) ∧ Below w.heap.size w w' := by
  go_enter Tryz.func45, Tryz.ntmps45
  go_wp2_with (first
    | (go_at_call 63; refine (sizeFitsN_any _ _).mono ?_; rintro e w' ⟨rfl, rfl⟩)
    | (go_at_call 43; refine (within_any _ _ _ _).mono ?_; rintro e w' ⟨rfl, rfl⟩))
  all_goals go_ret
  all_goals refine ⟨ret_int ?_, (Below.refl _ _).alloc (Nat.le_refl _) _⟩
  all_goals (go_light; simp_all [setF])

set_option maxHeartbeats 2000000 in
theorem sSetupFault_any (s c el b r d : Int) (w : World) :
    Calls Tryz.prog 19 #[.agg #[.int .i64 s, .int .i64 c, .int .i64 el, .int .i64 b, .int .i64 r, .int .i64 d]] w fun e w' =>
      e = .returned (.int .i64 (setF s c el b r d)) ∧ Below w.heap.size w w' := by
  go_enter Tryz.func19, Tryz.ntmps19
  go_wp2_with (first
    | (go_at_call 38; refine (l3size_any _ _).mono ?_; rintro e w' ⟨rfl, rfl⟩)
    | (go_at_call 39; refine (l1in_any _ _ _ _).mono ?_; rintro e w' ⟨rfl, rfl⟩))
  all_goals go_ret
  all_goals refine ⟨ret_int ?_, (Below.refl _ _).alloc (Nat.le_refl _) _⟩
  all_goals (go_light; simp_all [setF])

end Go.Proofs.YtanpindbhdeomaaGreatDoor

/-
  Scripts, in plain words: which fit, and the text that tells one.
-/
namespace Go.Proofs.YtanpindbhdeomaaGreatDoor
open Go.RowKit
set_option linter.unusedVariables false
set_option linter.unusedSimpArgs false

/-- a step -/
structure Stp where
  kd : Int
  a : Int
  b : Int
  c : Int
  cl : Int
  sq : Int
  op : Int
  k : ByteArray
  v : ByteArray
  o : ByteArray
/-- a setup -/
structure Sup where
  s : Int
  c : Int
  el : Int
  b : Int
  r : Int
  d : Int
def stC (x : Stp) : List Value := [.int .i64 x.kd, .int .i64 x.a, .int .i64 x.b, .int .i64 x.c, .int .i64 x.cl, .int .i64 x.sq, .int .i64 x.op, .string x.k, .string x.v, .string x.o]
structure Stp.fits (x : Stp) : Prop where
  k : x.k.size ≤ 1048576
  v : x.v.size ≤ 1048576
  o : x.o.size ≤ 1048576

/-- what the i-th number of a step of this kind is -/
def nk0 (kd : Int) : Int :=
  if kd = 1 ∨ kd = 6 ∨ kd = 7 ∨ kd = 8 ∨ kd = 9 ∨ kd = 10 then 1 else if kd = 11 ∨ kd = 12 then 2 else if kd = 13 ∨ kd = 14 then 3 else 4
def nk1 (kd : Int) : Int := if kd = 1 then 3 else if kd = 5 then 5 else if kd = 7 then 7 else 0
def nk2 (kd : Int) : Int := if kd = 5 then 6 else 0
def nLo (n : Int) : Int := if n = 1 ∨ n = 2 ∨ n = 3 then 1 else 0
def nHi (sv cc : Int) (n : Int) : Int :=
  if n = 1 then sv else if n = 2 then cc else if n = 3 then 10000 else if n = 4 then 4095 else if n = 5 then 16384 else if n = 6 then 254 else if n = 7 then 1048576 else 0
def nIn (sv cc : Int) (x n : Int) : Bool := inB x (nLo n) (nHi sv cc n)
def cmOk (x : Stp) : Bool :=
  if x.kd = 11 then decide (x.cl = 0) && decide (x.sq = 0) && decide (callF 1 1 x.op x.k.size x.v.size x.o.size = 0)
  else decide (x.cl = 0) && decide (x.sq = 0) && decide (x.op = 0) && decide (x.k.size = 0) && decide (x.v.size = 0) && decide (x.o.size = 0)
def stOk (sv cc : Int) (x : Stp) : Bool :=
  inB x.kd 1 14 && nIn sv cc x.a (nk0 x.kd) && nIn sv cc x.b (nk1 x.kd) && nIn sv cc x.c (nk2 x.kd) && cmOk x
def scOk (u : Sup) (ds : List Int) (ss : List Stp) : Bool :=
  decide (setF u.s u.c u.el u.b u.r u.d = 0) && decide (ds.length ≤ 4096) && decide (ss.length ≤ 4096) && ds.all (fun n => inB n 0 1073741824) && ss.all (stOk u.s u.c)

/-- a text that can stand in a line -/
def wordB (t : List UInt8) : Bool := t.all (fun x => decide (33 ≤ x.toNat) && decide (x.toNat ≤ 126)) && !t.isEmpty
/-- numbers, texts behind a word -/
def numsL (vs : List Int) : List UInt8 := vs.flatMap fun n => 32 :: Lib.itoa n
def textsL (ts : List (List UInt8)) : List UInt8 := ts.flatMap fun t => 32 :: t
theorem numsL_cons (n : Int) (vs : List Int) : numsL (n :: vs) = 32 :: Lib.itoa n ++ numsL vs := by simp [numsL]
theorem textsL_cons (t : List UInt8) (ts : List (List UInt8)) : textsL (t :: ts) = 32 :: t ++ textsL ts := by simp [textsL]
theorem numsL_app (a b : List Int) : numsL (a ++ b) = numsL a ++ numsL b := by simp [numsL]
theorem textsL_app (a b : List (List UInt8)) : textsL (a ++ b) = textsL a ++ textsL b := by simp [textsL]
end Go.Proofs.YtanpindbhdeomaaGreatDoor

/-
  The words of a script's steps and operations.
-/
namespace Go.Proofs.YtanpindbhdeomaaGreatDoor
open Go.RowKit
set_option linter.unusedVariables false
set_option linter.unusedSimpArgs false

def wordK (kd : Int) : List UInt8 :=
  if kd = 1 then [116, 105, 99, 107] else if kd = 2 then [100, 101, 108, 105, 118, 101, 114] else if kd = 3 then [114, 101, 112, 101, 97, 116] else if kd = 4 then [100, 114, 111, 112] else if kd = 5 then [115, 112, 111, 105, 108] else if kd = 6 then [99, 114, 97, 115, 104] else if kd = 7 then [116, 101, 97, 114] else if kd = 8 then [115, 116, 97, 114, 116] else if kd = 9 then [119, 97, 108, 108] else if kd = 10 then [111, 112, 101, 110] else if kd = 11 then [97, 115, 107] else if kd = 12 then [112, 111, 107, 101] else if kd = 13 then [99, 97, 108, 109] else if kd = 14 then [102, 108, 111, 119] else []
def opK (op : Int) : List UInt8 :=
  if op = 1 then [103, 101, 116] else if op = 2 then [112, 117, 116] else if op = 3 then [100, 101, 108] else if op = 4 then [99, 97, 115] else []
def cntK (kd : Int) : Nat := if kd = 5 then 3 else if kd = 1 ∨ kd = 7 then 2 else 1
theorem kd_cases {kd : Int} (h1 : 1 ≤ kd) (h2 : kd ≤ 14) : kd = 1 ∨ kd = 2 ∨ kd = 3 ∨ kd = 4 ∨ kd = 5 ∨ kd = 6 ∨ kd = 7 ∨ kd = 8 ∨ kd = 9 ∨ kd = 10 ∨ kd = 11 ∨ kd = 12 ∨ kd = 13 ∨ kd = 14 := by omega
theorem op_cases {op : Int} (h1 : 1 ≤ op) (h2 : op ≤ 4) : op = 1 ∨ op = 2 ∨ op = 3 ∨ op = 4 := by omega
/-- the texts of a command, as a script tells them -/
def askT (x : Stp) : List ByteArray := if x.op = 2 then [x.k, x.v] else if x.op = 4 then [x.k, x.o, x.v] else [x.k]
def askOk (x : Stp) : Bool := (askT x).all fun t => wordB t.data.toList
def txsL (ts : List ByteArray) : List UInt8 := textsL (ts.map fun t => t.data.toList)
theorem txsL_nil : txsL [] = [] := rfl
theorem txsL_app (a b : List ByteArray) : txsL (a ++ b) = txsL a ++ txsL b := by simp [txsL, textsL]
theorem txsL_take {l : List ByteArray} {k : Nat} (h : k < l.length) : txsL (l.take (k + 1)) = txsL (l.take k) ++ (32 :: l[k].data.toList) := by
  rw [List.take_succ_eq_append_getElem h, txsL_app]
  simp [txsL, textsL]
/-- an ask's line up tq its texts; a step's line -/
def askH (x : Stp) : List UInt8 := [97, 115, 107] ++ numsL [x.a] ++ [32] ++ opK x.op
def stepL (x : Stp) : List UInt8 := if x.kd = 11 then askH x ++ txsL (askT x) else wordK x.kd ++ numsL ([x.a, x.b, x.c].take (cntK x.kd))
end Go.Proofs.YtanpindbhdeomaaGreatDoor

/-
  Scripts read, in plain words: the pieces of a text, numbers, lines.
-/
namespace Go.Proofs.YtanpindbhdeomaaGreatDoor
open Go.RowKit
set_option linter.unusedVariables false
set_option linter.unusedSimpArgs false

/-- the pieces of a list between the signs c, acc ahead of the first -/
def splA (c : UInt8) : List UInt8 → List UInt8 → List (List UInt8)
  | acc, [] => [acc]
  | acc, x :: r => if x = c then acc :: splA c [] r else splA c (acc ++ [x]) r
def spl (c : UInt8) (l : List UInt8) : List (List UInt8) := splA c [] l
theorem splA_no (c : UInt8) : ∀ (l acc : List UInt8), c ∉ l → splA c acc l = [acc ++ l]
  | [], acc, _ => by simp [splA]
  | x :: r, acc, h => by
    rw [splA, if_neg (fun e => h (by simp [e])), splA_no c r _ (fun h' => h (List.mem_cons_of_mem _ h'))]
    simp
theorem splA_hit (c : UInt8) (l2 : List UInt8) : ∀ (l1 acc : List UInt8), c ∉ l1 → splA c acc (l1 ++ c :: l2) = (acc ++ l1) :: spl c l2
  | [], acc, _ => by simp [splA, spl]
  | x :: r, acc, h => by
    rw [List.cons_append, splA, if_neg (fun e => h (by simp [e])), splA_hit c l2 r _ (fun h' => h (List.mem_cons_of_mem _ h'))]
    simp
theorem indexByte_none : ∀ (l : List UInt8) (c : UInt8), Lib.indexByte l c = -1 → c ∉ l
  | [], c, _ => by simp
  | x :: r, c, h => by
    unfold Lib.indexByte at h
    split at h
    · cases h
    · rename_i hx
      split at h
      · rename_i hr
        intro hm
        rcases List.mem_cons.1 hm with e | e
        · exact hx (by simp [e])
        · exact indexByte_none r c (by simpa using hr) e
      · have := Lib.indexByte_ge r c
        rename_i hr
        simp at hr
        omega
theorem indexByte_some : ∀ (l : List UInt8) (c : UInt8) (i : Nat), Lib.indexByte l c = i → c ∉ l.take i ∧ l = l.take i ++ c :: l.drop (i + 1) ∧ i < l.length
  | [], c, i, h => by unfold Lib.indexByte at h; omega
  | x :: r, c, i, h => by
    unfold Lib.indexByte at h
    split at h
    · rename_i hx
      have e : x = c := by simpa using hx
      obtain rfl : i = 0 := by omega
      simp [e]
    · rename_i hx
      split at h
      · omega
      · obtain ⟨j, rfl⟩ : ∃ j, i = j + 1 := ⟨i - 1, by have := Lib.indexByte_ge r c; rename_i hr; simp at hr; omega⟩
        obtain ⟨h1, h2, h3⟩ := indexByte_some r c j (by omega)
        refine ⟨?_, ?_, by simp; omega⟩
        · intro hm
          simp only [List.take_succ_cons, List.mem_cons] at hm
          rcases hm with e | e
          · exact hx (by simp [e])
          · exact h1 e
        · simp only [List.take_succ_cons, List.drop_succ_cons, List.cons_append]
          rw [← h2]
theorem splitK_spl (c : UInt8) : ∀ (k : Nat) (s : List UInt8), s.count c ≤ k → Lib.splitK [c] 0 k s = spl c s
  | 0, s, h => by
    have hn : c ∉ s := List.count_eq_zero.1 (by omega)
    rw [Lib.splitK, spl, splA_no c s [] hn]; rfl
  | k + 1, s, h => by
    unfold Lib.splitK
    rw [Lib.index_one]
    split
    · rename_i hm
      have hn := indexByte_none s c (by simpa using hm)
      rw [spl, splA_no c s [] hn]; rfl
    · rename_i hm
      obtain ⟨i, hi⟩ : ∃ i : Nat, Lib.indexByte s c = i := ⟨(Lib.indexByte s c).toNat, by have := Lib.indexByte_ge s c; simp at hm; omega⟩
      obtain ⟨h1, h2, h3⟩ := indexByte_some s c i hi
      have hc : (s.drop (i + 1)).count c ≤ k := by
        have := congrArg (List.count c) h2
        rw [List.count_append, List.count_cons_self] at this
        omega
      rw [hi]
      simp only [Int.toNat_natCast, Nat.add_zero, List.length_cons, List.length_nil, Nat.zero_add]
      rw [splitK_spl c k _ hc]
      conv => rhs; rw [spl, h2]
      rw [splA_hit c _ _ [] h1]
      rfl
theorem split_spl (c : UInt8) (s sep : ByteArray) (hs : sep.data.toList = [c]) : (Lib.splitB sep 0 (Lib.countB s sep) s).map (·.data.toList) = spl c s.data.toList := by
  rw [Lib.splitB_data, hs]
  refine splitK_spl c _ _ ?_
  have : Lib.countB s sep = Lib.count s.data.toList sep.data.toList := rfl
  rw [this, hs, Lib.count_one]
  exact Nat.le_refl _
theorem spl_ne (c : UInt8) : ∀ (l acc : List UInt8), splA c acc l ≠ []
  | [], acc => by simp [splA]
  | x :: r, acc => by
    rw [splA]
    split
    · simp
    · exact spl_ne c r _

/-- a number's letters, its value -/
def dgB (x : UInt8) : Bool := decide (48 ≤ x.toNat) && decide (x.toNat ≤ 57)
def numOk (w : List UInt8) : Bool := decide (1 ≤ w.length) && decide (w.length ≤ 10) && (decide (w.length = 1) || !(w.head? == some 48)) && w.all dgB
def numV (w : List UInt8) : Int := w.foldl (fun v x => v * 10 + (x.toNat : Int) - 48) 0
/-- the kind of a step, the operation that has this word; 0: none -/
def kindK (w : List UInt8) : Int := if w = wordK 1 then 1 else if w = wordK 2 then 2 else if w = wordK 3 then 3 else if w = wordK 4 then 4 else if w = wordK 5 then 5 else if w = wordK 6 then 6 else if w = wordK 7 then 7 else if w = wordK 8 then 8 else if w = wordK 9 then 9 else if w = wordK 10 then 10 else if w = wordK 11 then 11 else if w = wordK 12 then 12 else if w = wordK 13 then 13 else if w = wordK 14 then 14 else 0
def opW (w : List UInt8) : Int := if w = opK 1 then 1 else if w = opK 2 then 2 else if w = opK 3 then 3 else if w = opK 4 then 4 else 0
def nTx (op : Int) : Nat := if op = 2 then 2 else if op = 4 then 3 else 1
def byA (l : List UInt8) : ByteArray := ⟨l.toArray⟩
/-- the step that an ask's words tell -/
def askS (ws : List (List UInt8)) (op : Int) : Stp :=
  ⟨11, numV (ws.getD 1 []), 0, 0, 0, 0, op, byA (ws.getD 3 []), byA (if op = 2 then ws.getD 4 [] else if op = 4 then ws.getD 5 [] else []), byA (if op = 4 then ws.getD 4 [] else [])⟩
def numS (kd : Int) (ws : List (List UInt8)) : Stp :=
  ⟨kd, numV (ws.getD 1 []), if cntK kd ≥ 2 then numV (ws.getD 2 []) else 0, if cntK kd ≥ 3 then numV (ws.getD 3 []) else 0, 0, 0, 0, byA [], byA [], byA []⟩
/-- the code of a step's line, and the step -/
def stepP (sv cc : Int) (had : Nat) (ws : List (List UInt8)) : Int × Stp :=
  let kd := kindK (ws.getD 0 [])
  if kd = 0 then (4, numS 0 [])
  else if had = 4096 then (5, numS 0 [])
  else if kd = 11 then
    if ws.length < 3 then (5, numS 0 [])
    else if opW (ws.getD 2 []) = 0 ∨ ws.length ≠ 3 + nTx (opW (ws.getD 2 [])) then (5, numS 0 [])
    else if numOk (ws.getD 1 []) = false then (6, numS 0 [])
    else if stOk sv cc (askS ws (opW (ws.getD 2 []))) = true then (0, askS ws (opW (ws.getD 2 []))) else (7, numS 0 [])
  else if ws.length ≠ 1 + cntK kd then (5, numS 0 [])
  else if ws.tail.all numOk = false then (6, numS 0 [])
  else if stOk sv cc (numS kd ws) = true then (0, numS kd ws) else (7, numS 0 [])
/-- a script under way -/
structure Scr where
  u : Sup
  ds : List Int
  ss : List Stp
def setP (ws : List (List UInt8)) : Sup := ⟨numV (ws.getD 1 []), numV (ws.getD 2 []), numV (ws.getD 3 []), numV (ws.getD 4 []), numV (ws.getD 5 []), numV (ws.getD 6 [])⟩
def setOk (u : Sup) : Bool := decide (setF u.s u.c u.el u.b u.r u.d = 0)
def lineP (k : Nat) (x : Scr) (l : List UInt8) : Int × Scr :=
  let ws := spl 32 l
  if ws.all wordB = false then (3, x)
  else if k = 1 then
    if ws.getD 0 [] ≠ [99, 108, 117, 115, 116, 101, 114] then (4, x)
    else if ws.length ≠ 7 then (5, x)
    else if ws.tail.all numOk = false then (6, x)
    else if setOk (setP ws) = true then (0, ⟨setP ws, x.ds, x.ss⟩) else (7, x)
  else if k = 2 then
    if ws.getD 0 [] ≠ [100, 114, 97, 119, 115] then (4, x)
    else if 4097 < ws.length then (5, x)
    else if ws.tail.all numOk = false then (6, x)
    else if (ws.tail.map numV).all (fun n => inB n 0 1073741824) = true then (0, ⟨x.u, ws.tail.map numV, x.ss⟩) else (7, x)
  else if (stepP x.u.s x.u.c x.ss.length ws).1 = 0 then (0, ⟨x.u, x.ds, x.ss ++ [(stepP x.u.s x.u.c x.ss.length ws).2]⟩) else ((stepP x.u.s x.u.c x.ss.length ws).1, x)
/-- lines from number k on: the code, the line, the script -/
def linesP : Nat → Scr → List (List UInt8) → Int × Nat × Scr
  | k, x, [] => (0, k, x)
  | k, x, l :: r => if (lineP (k + 1) x l).1 = 0 then linesP (k + 1) (lineP (k + 1) x l).2 r else ((lineP (k + 1) x l).1, k + 1, x)
def scr0 : Scr := ⟨⟨0, 0, 0, 0, 0, 0⟩, [], []⟩
/-- the answer: the code, the line, the script -/
def parseP (t : List UInt8) : Int × Nat × Scr :=
  if 65536 < t.length then (1, 0, scr0)
  else if t.getLast? ≠ some 10 then (2, 0, scr0)
  else
    let a := linesP 0 scr0 (spl 10 t.dropLast)
    if a.1 ≠ 0 then (a.1, a.2.1, scr0) else if a.2.1 < 2 then (8, a.2.1, scr0) else a
end Go.Proofs.YtanpindbhdeomaaGreatDoor

/-
  Words: their letters.
-/
namespace Go.Proofs.YtanpindbhdeomaaGreatDoor
open Go.RowKit
set_option linter.unusedVariables false
set_option linter.unusedSimpArgs false

theorem idx_run (t : ByteArray) {k : Nat} (h : k < t.data.toList.length) (u : World) :
    (Instr.index 9 (.string t) (.int .i64 (k : Int))).run Tryz.prog u = .ok (.int .u8 (t.data.toList[k].toNat : Int)) u := by
  obtain ⟨⟨l⟩⟩ := t
  have hl : k < l.length := h
  rw [run_index_string u 9 _ _ _ Tryz.underlying9, dif_pos ⟨by omega, by have : (ByteArray.mk ⟨l⟩).size = l.length := rfl; omega⟩]
  rfl
theorem size_list (t : ByteArray) : t.size = t.data.toList.length := rfl
def okB (x : UInt8) : Bool := decide (33 ≤ x.toNat) && decide (x.toNat ≤ 126)
theorem wordB_def (l : List UInt8) : wordB l = (l.all okB && !l.isEmpty) := rfl
theorem all_take_succ {l : List UInt8} {k : Nat} (h : k < l.length) (p : UInt8 → Bool) (h1 : (l.take k).all p = true) (h2 : p l[k] = true) : (l.take (k + 1)).all p = true := by
  rw [List.take_succ_eq_append_getElem h, List.all_append, h1]; simp [h2]
theorem all_no {l : List UInt8} {k : Nat} (h : k < l.length) (p : UInt8 → Bool) (h2 : p l[k] = false) : l.all p = false := by
  cases e : l.all p
  · rfl
  · rw [List.all_eq_true] at e; rw [e _ (List.getElem_mem h)] at h2; cases h2

end Go.Proofs.YtanpindbhdeomaaGreatDoor
