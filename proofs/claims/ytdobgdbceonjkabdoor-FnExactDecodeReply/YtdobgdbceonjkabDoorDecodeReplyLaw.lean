/-
  spec.DecodeReply, the whole; laws.eqReply, laws.eqReplyAnswer; the law's walk.
-/
import Derived.Test.YtdobgdbceonjkabDoorSDecReplyA
import Derived.Test.YtdobgdbceonjkabDoorSDecReplyB
import Derived.Test.YtdobgdbceonjkabDoorSDecReplyC
import Derived.Test.YtdobgdbceonjkabDoorSDecReplyD
import Derived.Test.YtdobgdbceonjkabDoorToBytes
namespace Go.Proofs.YtdobgdbceonjkabDoor
open Go.RowKit
set_option linter.unusedVariables false
set_option linter.unusedSimpArgs false

theorem specDecReply_any (a : Option Addr) (len c : Nat) (l : List Int) (w : World) (hv : Bs w (.slice a len c) l) (hc : len ≤ c) :
    Calls Tryd.prog 4 #[.slice a len c] w fun e w' => e = .returned (repAns (repC l) (rdReply (some (l.drop 9)))) ∧ Below w.heap.size w w' := by
  have el : len = l.length := by obtain ⟨_, _, _, _, e, _⟩ := hv; injection e
  subst el
  by_cases h0 : openC l 8 8 = 0
  · have hC0 : repC l = if (rdReply (some (l.drop 9))).left ≠ some [] then (5, 0) else if (repF (rdReply (some (l.drop 9))).cl (rdReply (some (l.drop 9))).sq (rdReply (some (l.drop 9))).st (rdReply (some (l.drop 9))).cd (rdReply (some (l.drop 9))).v.size (rdReply (some (l.drop 9))).ld) ≠ 0 then (6, (repF (rdReply (some (l.drop 9))).cl (rdReply (some (l.drop 9))).sq (rdReply (some (l.drop 9))).st (rdReply (some (l.drop 9))).cd (rdReply (some (l.drop 9))).v.size (rdReply (some (l.drop 9))).ld)) else (0, 0) := by
      unfold repC decC
      rw [if_neg (fun h => h h0)]
    rcases hleft : (rdReply (some (l.drop 9))).left with _ | l'
    · have e : repC l = (5, 0) := by rw [hC0, hleft]; rfl
      rw [e]
      exact specDecReply_bad a c l w hv hc h0 hleft
    · cases l' with
      | cons x t =>
        have e : repC l = (5, 0) := by rw [hC0, hleft]; rfl
        rw [e]
        exact specDecReply_long a c l w hv hc h0 x t hleft
      | nil =>
        by_cases hf : (repF (rdReply (some (l.drop 9))).cl (rdReply (some (l.drop 9))).sq (rdReply (some (l.drop 9))).st (rdReply (some (l.drop 9))).cd (rdReply (some (l.drop 9))).v.size (rdReply (some (l.drop 9))).ld) = 0
        · have e : repC l = (0, 0) := by rw [hC0, hleft, if_neg (fun h => h rfl), if_neg (fun h => h hf)]
          rw [e]
          exact specDecReply_good a c l w hv hc h0 hf hleft
        · have e : repC l = (6, (repF (rdReply (some (l.drop 9))).cl (rdReply (some (l.drop 9))).sq (rdReply (some (l.drop 9))).st (rdReply (some (l.drop 9))).cd (rdReply (some (l.drop 9))).v.size (rdReply (some (l.drop 9))).ld)) := by rw [hC0, hleft, if_neg (fun h => h rfl), if_pos hf]
          rw [e]
          exact specDecReply_fault a c l w hv hc h0 hf hleft
  · have e : repC l = (openC l 8 8, 0) := by unfold repC decC; rw [if_pos h0]
    rw [e]
    unfold repAns
    rw [if_neg h0]
    exact specDecReply_closed a c l w hv hc h0

theorem repAns_shape (c : Nat × Int) (s : RSt) : ∃ (x0 x1 x2 x3 x4 x5 x6 : Int) (xv : ByteArray), xv.size ≤ maxLen ∧ repAns c (rdReply s) = .agg #[.int .i64 x0, .int .i64 x1, .int .i64 x2, .int .i64 x3, .int .i64 x4, .int .i64 x5, .string xv, .int .i64 x6] := by
  unfold repAns
  by_cases h : c.1 = 0
  · rw [if_pos h]
    exact ⟨_, _, _, _, _, _, _, _, Nat.le_trans (rdReply_v _) (by decide), rfl⟩
  · rw [if_neg h]
    exact ⟨_, _, _, _, _, _, _, _, (by decide : (⟨#[]⟩ : ByteArray).size ≤ maxLen), rfl⟩

set_option maxHeartbeats 1000000 in
set_option maxRecDepth 100000 in
theorem eqReply_same (x2 x3 x4 x5 x6 : Int) (xv : ByteArray) (w : World) :
    Calls Tryd.prog 15 #[.agg #[.int .i64 x2, .int .i64 x3, .int .i64 x4, .int .i64 x5, .string xv, .int .i64 x6], .agg #[.int .i64 x2, .int .i64 x3, .int .i64 x4, .int .i64 x5, .string xv, .int .i64 x6]] w fun e w' => e = .returned (.bool true) ∧ Below w.heap.size w w' := by
  go_enter Tryd.func15, Tryd.ntmps15
  go_wp2
  go_ret
  exact ⟨rfl, ((Below.refl _ _).alloc (Nat.le_refl _) _).alloc (by simp) _⟩

set_option maxHeartbeats 1000000 in
set_option maxRecDepth 100000 in
theorem eqReplyAnswer_same (x0 x1 x2 x3 x4 x5 x6 : Int) (xv : ByteArray) (w : World) :
    Calls Tryd.prog 7 #[.agg #[.int .i64 x0, .int .i64 x1, .int .i64 x2, .int .i64 x3, .int .i64 x4, .int .i64 x5, .string xv, .int .i64 x6], .agg #[.int .i64 x0, .int .i64 x1, .int .i64 x2, .int .i64 x3, .int .i64 x4, .int .i64 x5, .string xv, .int .i64 x6]] w fun e w' => e = .returned (.bool true) ∧ Below w.heap.size w w' := by
  go_enter Tryd.func7, Tryd.ntmps7
  go_wp2_with (go_at_call 15; refine (eqReply_same x2 x3 x4 x5 x6 xv _).mono ?_; rintro e w1 ⟨rfl, hb⟩)
  go_ret
  exact ⟨rfl, (((Below.refl _ _).alloc (Nat.le_refl _) _).alloc (by simp) _).trans (hb.mono (by simp; omega))⟩

set_option maxHeartbeats 4000000 in
set_option maxRecDepth 100000 in
theorem lawDecodeReply_walk (v : Value) (l : List Int) (w : World) (hv : Bs w v l) (A : Nat → Addr) (B : Nat) (hs : Sents w A B) :
    Calls Tryd.prog 3 #[v] w fun e w' => e = .returned (.bool true) ∧ Below w.heap.size w w' := by
  have HV : Hid (Bs w v l) := hv
  obtain ⟨hml, h8, a, c, rfl, hcell⟩ := hv
  unfold maxLen at hml
  clear hcell h8
  by_cases hl : l.length ≤ 1048576
  · obtain ⟨x0, x1, x2, x3, x4, x5, x6, xv, hxv, hE⟩ := repAns_shape (repC l) (some (l.drop 9))
    have HSp : Hid (∀ w' a c, Bs w' (.slice a l.length c) l → l.length ≤ c → Calls Tryd.prog 4 #[.slice a l.length c] w' fun e w'' => e = .returned (.agg #[.int .i64 x0, .int .i64 x1, .int .i64 x2, .int .i64 x3, .int .i64 x4, .int .i64 x5, .string xv, .int .i64 x6]) ∧ Below w'.heap.size w' w'') :=
      fun w' a c h hc => by rw [← hE]; exact specDecReply_any a l.length c l w' h hc
    have HIm : Hid (∀ w' a c, Sents w' A B → Bs w' (.slice a l.length c) l → l.length ≤ c → Calls Tryd.prog 6 #[.slice a l.length c] w' fun e w'' => e = .returned (.agg #[.int .i64 x0, .int .i64 x1, .int .i64 x2, .int .i64 x3, .int .i64 x4, .int .i64 x5, .string xv, .int .i64 x6]) ∧ Below w'.heap.size w' w'') :=
      fun w' a c hs h hc => by rw [← hE]; exact implDecReply_any a l.length c l w' A B hs h hc
    clear hE hxv
    have y1 : True := trivial
    have y2 : True := trivial
    go_enter Tryd.func3, Tryd.ntmps3
    go_wp2_with (first
      | (go_at_call 5; clear y1; refine (toByteS_fit _ l _ HV.out hl).mono ?_; rintro e w1 ⟨a1, rfl, hs1, hb1, hz1⟩)
      | (go_at_call 4; refine Calls.mono (HSp.out _ _ _ hs1 (Nat.le_refl _)) ?_; rintro e w2 ⟨rfl, hb2⟩; have hB2 := hb1.trans (hb2.mono (Nat.le_of_lt hz1)); have hz2 := hB2.size; have hB2' := hB2.alloc hz2 (.cells #[.int .i64 x0, .int .i64 x1, .int .i64 x2, .int .i64 x3, .int .i64 x4, .int .i64 x5, .string xv, .int .i64 x6] 26); have hr3 := range_new w2 [.int .i64 x0, .int .i64 x1, .int .i64 x2, .int .i64 x3, .int .i64 x4, .int .i64 x5, .string xv, .int .i64 x6] 26)
      | (refine gate_store 26 (.tmp 3) (.tmp 11) rfl ?_; refine wpl_store_new rfl 26 (.tmp 3) (.tmp 11) rfl #[.int .i64 0, .int .i64 0, .int .i64 0, .int .i64 0, .int .i64 0, .int .i64 0, .string ⟨#[]⟩, .int .i64 0] #[.int .i64 x0, .int .i64 x1, .int .i64 x2, .int .i64 x3, .int .i64 x4, .int .i64 x5, .string xv, .int .i64 x6] rfl rfl infoRAns rfl (by simp [Value.oneCell']) ?_)
      | (go_at_call 5; clear y2; refine (toByteS_fit _ l _ (HV.out.below hB2') hl).mono ?_; rintro e w3 ⟨a3, rfl, hs3, hb3, hz3⟩; have hB3 := hB2'.trans (hb3.mono hB2'.size))
      | (go_at_call 6; refine Calls.mono (HIm.out _ _ _ (hs.below hB3) hs3 (Nat.le_refl _)) ?_; rintro e w4 ⟨rfl, hb4⟩; have hB4 := hB3.trans (hb4.mono hB3.size); have hz4 := hB4.size; have hB4' := hB4.alloc hz4 (.cells #[.int .i64 x0, .int .i64 x1, .int .i64 x2, .int .i64 x3, .int .i64 x4, .int .i64 x5, .string xv, .int .i64 x6] 26); have hr5 := range_new w4 [.int .i64 x0, .int .i64 x1, .int .i64 x2, .int .i64 x3, .int .i64 x4, .int .i64 x5, .string xv, .int .i64 x6] 26; have hr3' := World.rangeAt_alloc (range_of_block ((hb4.block w2.heap.size (by have := hz3; simp at this; omega)).trans (hb3.block w2.heap.size (by simp))) hr3) (.cells #[.int .i64 x0, .int .i64 x1, .int .i64 x2, .int .i64 x3, .int .i64 x4, .int .i64 x5, .string xv, .int .i64 x6] 26); have hs3' := (hs3.below hb4).below ((Below.refl _ _).alloc (Nat.le_refl _) (.cells #[.int .i64 x0, .int .i64 x1, .int .i64 x2, .int .i64 x3, .int .i64 x4, .int .i64 x5, .string xv, .int .i64 x6] 26)))
      | (refine gate_store 26 (.tmp 5) (.tmp 15) rfl ?_; refine wpl_store_new rfl 26 (.tmp 5) (.tmp 15) rfl #[.int .i64 0, .int .i64 0, .int .i64 0, .int .i64 0, .int .i64 0, .int .i64 0, .string ⟨#[]⟩, .int .i64 0] #[.int .i64 x0, .int .i64 x1, .int .i64 x2, .int .i64 x3, .int .i64 x4, .int .i64 x5, .string xv, .int .i64 x6] rfl rfl infoRAns rfl (by simp [Value.oneCell']) ?_)
      | (refine gate_load 26 (.tmp 5) rfl ?_; refine wpList_load_mid rfl 26 (.tmp 5) rfl w4.heap.size 0 rfl [.int .i64 x0, .int .i64 x1, .int .i64 x2, .int .i64 x3, .int .i64 x4, .int .i64 x5, .string xv, .int .i64 x6] _ hr5 Tryd.underlying26 rfl infoRAns ?_)
      | (refine gate_load 26 (.tmp 3) rfl ?_; refine wpList_load_mid rfl 26 (.tmp 3) rfl w2.heap.size 0 rfl [.int .i64 x0, .int .i64 x1, .int .i64 x2, .int .i64 x3, .int .i64 x4, .int .i64 x5, .string xv, .int .i64 x6] _ hr3' Tryd.underlying26 rfl infoRAns ?_)
      | (go_at_call 7; refine (eqReplyAnswer_same x0 x1 x2 x3 x4 x5 x6 xv _).mono ?_; rintro e w5 ⟨rfl, hb5⟩; have hB5 := hB4'.trans (hb5.mono hB4'.size); have hs5 := hs3'.below hb5)
      | (go_at_call 5; refine (toByteS_fit _ l _ (HV.out.below hB5) hl).mono ?_; rintro e w6 ⟨a6, rfl, hs6, hb6, hz6⟩; have hB6 := hB5.trans (hb6.mono hB5.size); have hs6' := hs5.below hb6)
      | (go_at_call 8; refine (eqByteS_same _ _ l _ hs6' hs6).mono ?_; rintro e w7 ⟨rfl, hb7⟩; have hB7 := hB6.trans (hb7.mono hB6.size)))
    go_ret
    exact ⟨rfl, hB7⟩
  · have hl' : (1048576 : Int) < l.length := by omega
    go_enter Tryd.func3, Tryd.ntmps3
    go_wp2
    go_ret
    exact ⟨rfl, Below.refl _ _⟩
end Go.Proofs.YtdobgdbceonjkabDoor
