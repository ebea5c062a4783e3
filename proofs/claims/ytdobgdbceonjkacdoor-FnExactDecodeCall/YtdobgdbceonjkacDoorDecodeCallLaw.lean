/-
  spec.DecodeCall, the whole; laws.eqCmd, laws.eqCallAnswer; the law's walk.
-/
import Derived.Test.YtdobgdbceonjkacDoorSDecCallA
import Derived.Test.YtdobgdbceonjkacDoorSDecCallB
import Derived.Test.YtdobgdbceonjkacDoorSDecCallC
import Derived.Test.YtdobgdbceonjkacDoorSDecCallD
import Derived.Test.YtdobgdbceonjkacDoorSDecCallE
import Derived.Test.YtdobgdbceonjkacDoorToBytes
namespace Go.Proofs.YtdobgdbceonjkacDoor
open Go.RowKit
set_option linter.unusedVariables false
set_option linter.unusedSimpArgs false

theorem specDecCall_any (a : Option Addr) (len c : Nat) (l : List Int) (w : World) (hv : Bs w (.slice a len c) l) (hc : len ≤ c) :
    Calls Tryd.prog 4 #[.slice a len c] w fun e w' => e = .returned (callAns (callC l) (rdCmd (some (l.drop 9)))) ∧ Below w.heap.size w w' := by
  have el : len = l.length := by obtain ⟨_, _, _, _, e, _⟩ := hv; injection e
  subst el
  by_cases h0 : openC l 7 7 = 0
  · have hC0 : callC l = if (rdCmd (some (l.drop 9))).left ≠ some [] then (5, 0) else if (callF (rdCmd (some (l.drop 9))).cl (rdCmd (some (l.drop 9))).sq (rdCmd (some (l.drop 9))).op (rdCmd (some (l.drop 9))).k.size (rdCmd (some (l.drop 9))).v.size (rdCmd (some (l.drop 9))).o.size) ≠ 0 then (6, (callF (rdCmd (some (l.drop 9))).cl (rdCmd (some (l.drop 9))).sq (rdCmd (some (l.drop 9))).op (rdCmd (some (l.drop 9))).k.size (rdCmd (some (l.drop 9))).v.size (rdCmd (some (l.drop 9))).o.size)) else (0, 0) := by
      unfold callC decC
      rw [if_neg (fun h => h h0)]
    rcases hleft : (rdCmd (some (l.drop 9))).left with _ | l'
    · have e : callC l = (5, 0) := by rw [hC0, hleft]; rfl
      rw [e]
      exact specDecCall_bad a c l w hv hc h0 hleft
    · cases l' with
      | cons x t =>
        have e : callC l = (5, 0) := by rw [hC0, hleft]; rfl
        rw [e]
        exact specDecCall_long a c l w hv hc h0 x t hleft
      | nil =>
        by_cases hf : (cmdF (rdCmd (some (l.drop 9))).cl (rdCmd (some (l.drop 9))).sq (rdCmd (some (l.drop 9))).op (rdCmd (some (l.drop 9))).k.size (rdCmd (some (l.drop 9))).v.size (rdCmd (some (l.drop 9))).o.size) = 0
        · by_cases ho : (rdCmd (some (l.drop 9))).op = 0
          · have eF : (callF (rdCmd (some (l.drop 9))).cl (rdCmd (some (l.drop 9))).sq (rdCmd (some (l.drop 9))).op (rdCmd (some (l.drop 9))).k.size (rdCmd (some (l.drop 9))).v.size (rdCmd (some (l.drop 9))).o.size) = 1 := by rw [callF, if_pos ⟨hf, by omega⟩]
            have e : callC l = (6, 1) := by rw [hC0, hleft, if_neg (fun h => h rfl), eF]; rfl
            rw [e]
            exact specDecCall_noop a c l w hv hc h0 hf ho hleft
          · have eF : (callF (rdCmd (some (l.drop 9))).cl (rdCmd (some (l.drop 9))).sq (rdCmd (some (l.drop 9))).op (rdCmd (some (l.drop 9))).k.size (rdCmd (some (l.drop 9))).v.size (rdCmd (some (l.drop 9))).o.size) = 0 := by rw [callF, if_neg (fun h => ho (by omega)), hf]
            have e : callC l = (0, 0) := by rw [hC0, hleft, if_neg (fun h => h rfl), if_neg (fun h => h eF)]
            rw [e]
            exact specDecCall_good a c l w hv hc h0 hf ho hleft
        · have eF : (callF (rdCmd (some (l.drop 9))).cl (rdCmd (some (l.drop 9))).sq (rdCmd (some (l.drop 9))).op (rdCmd (some (l.drop 9))).k.size (rdCmd (some (l.drop 9))).v.size (rdCmd (some (l.drop 9))).o.size) = (cmdF (rdCmd (some (l.drop 9))).cl (rdCmd (some (l.drop 9))).sq (rdCmd (some (l.drop 9))).op (rdCmd (some (l.drop 9))).k.size (rdCmd (some (l.drop 9))).v.size (rdCmd (some (l.drop 9))).o.size) := by rw [callF, if_neg (fun h => hf h.1)]
          have e : callC l = (6, (cmdF (rdCmd (some (l.drop 9))).cl (rdCmd (some (l.drop 9))).sq (rdCmd (some (l.drop 9))).op (rdCmd (some (l.drop 9))).k.size (rdCmd (some (l.drop 9))).v.size (rdCmd (some (l.drop 9))).o.size)) := by rw [hC0, hleft, if_neg (fun h => h rfl), eF, if_pos hf]
          rw [e]
          exact specDecCall_fault a c l w hv hc h0 hf hleft
  · have e : callC l = (openC l 7 7, 0) := by unfold callC decC; rw [if_pos h0]
    rw [e]
    unfold callAns
    rw [if_neg h0]
    exact specDecCall_closed a c l w hv hc h0

theorem callAns_shape (c : Nat × Int) (s : RSt) : ∃ (x0 x1 x2 x3 x4 : Int) (s1 s2 s3 : ByteArray), callAns c (rdCmd s) = .agg #[.int .i64 x0, .int .i64 x1, .int .i64 x2, .int .i64 x3, .int .i64 x4, .string s1, .string s2, .string s3] := by
  unfold callAns
  by_cases h : c.1 = 0
  · rw [if_pos h]
    exact ⟨_, _, _, _, _, _, _, _, rfl⟩
  · rw [if_neg h]
    exact ⟨_, _, _, _, _, _, _, _, rfl⟩

set_option maxHeartbeats 1000000 in
set_option maxRecDepth 100000 in
theorem eqCmd_same (x2 x3 x4 : Int) (s1 s2 s3 : ByteArray) (w : World) :
    Calls Tryd.prog 14 #[.agg #[.int .i64 x2, .int .i64 x3, .int .i64 x4, .string s1, .string s2, .string s3], .agg #[.int .i64 x2, .int .i64 x3, .int .i64 x4, .string s1, .string s2, .string s3]] w fun e w' => e = .returned (.bool true) ∧ Below w.heap.size w w' := by
  go_enter Tryd.func14, Tryd.ntmps14
  go_wp2
  go_ret
  exact ⟨rfl, ((Below.refl _ _).alloc (Nat.le_refl _) _).alloc (by simp) _⟩

set_option maxHeartbeats 1000000 in
set_option maxRecDepth 100000 in
theorem eqCallAnswer_same (x0 x1 x2 x3 x4 : Int) (s1 s2 s3 : ByteArray) (w : World) :
    Calls Tryd.prog 7 #[.agg #[.int .i64 x0, .int .i64 x1, .int .i64 x2, .int .i64 x3, .int .i64 x4, .string s1, .string s2, .string s3], .agg #[.int .i64 x0, .int .i64 x1, .int .i64 x2, .int .i64 x3, .int .i64 x4, .string s1, .string s2, .string s3]] w fun e w' => e = .returned (.bool true) ∧ Below w.heap.size w w' := by
  go_enter Tryd.func7, Tryd.ntmps7
  go_wp2_with (go_at_call 14; refine (eqCmd_same x2 x3 x4 s1 s2 s3 _).mono ?_; rintro e w1 ⟨rfl, hb⟩)
  go_ret
  exact ⟨rfl, (((Below.refl _ _).alloc (Nat.le_refl _) _).alloc (by simp) _).trans (hb.mono (by simp; omega))⟩

set_option maxHeartbeats 4000000 in
set_option maxRecDepth 100000 in
theorem lawDecodeCall_walk (v : Value) (l : List Int) (w : World) (hv : Bs w v l) (A : Nat → Addr) (B : Nat) (hs : Sents w A B) :
    Calls Tryd.prog 3 #[v] w fun e w' => e = .returned (.bool true) ∧ Below w.heap.size w w' := by
  have HV : Hid (Bs w v l) := hv
  obtain ⟨hml, h8, a, c, rfl, hcell⟩ := hv
  unfold maxLen at hml
  clear hcell h8
  by_cases hl : l.length ≤ 1048576
  · obtain ⟨x0, x1, x2, x3, x4, s1, s2, s3, hE⟩ := callAns_shape (callC l) (some (l.drop 9))
    have HSp : Hid (∀ w' a c, Bs w' (.slice a l.length c) l → l.length ≤ c → Calls Tryd.prog 4 #[.slice a l.length c] w' fun e w'' => e = .returned (.agg #[.int .i64 x0, .int .i64 x1, .int .i64 x2, .int .i64 x3, .int .i64 x4, .string s1, .string s2, .string s3]) ∧ Below w'.heap.size w' w'') :=
      fun w' a c h hc => by rw [← hE]; exact specDecCall_any a l.length c l w' h hc
    have HIm : Hid (∀ w' a c, Sents w' A B → Bs w' (.slice a l.length c) l → l.length ≤ c → Calls Tryd.prog 6 #[.slice a l.length c] w' fun e w'' => e = .returned (.agg #[.int .i64 x0, .int .i64 x1, .int .i64 x2, .int .i64 x3, .int .i64 x4, .string s1, .string s2, .string s3]) ∧ Below w'.heap.size w' w'') :=
      fun w' a c hs h hc => by rw [← hE]; exact implDecCall_any a l.length c l w' A B hs h hc
    clear hE
    have y1 : True := trivial
    have y2 : True := trivial
    go_enter Tryd.func3, Tryd.ntmps3
    go_wp2_with (first
      | (go_at_call 5; clear y1; refine (toByteS_fit _ l _ HV.out hl).mono ?_; rintro e w1 ⟨a1, rfl, hs1, hb1, hz1⟩)
      | (go_at_call 4; refine Calls.mono (HSp.out _ _ _ hs1 (Nat.le_refl _)) ?_; rintro e w2 ⟨rfl, hb2⟩; have hB2 := hb1.trans (hb2.mono (Nat.le_of_lt hz1)); have hz2 := hB2.size; have hB2' := hB2.alloc hz2 (.cells #[.int .i64 x0, .int .i64 x1, .int .i64 x2, .int .i64 x3, .int .i64 x4, .string s1, .string s2, .string s3] 26); have hr3 := range_new w2 [.int .i64 x0, .int .i64 x1, .int .i64 x2, .int .i64 x3, .int .i64 x4, .string s1, .string s2, .string s3] 26)
      | (refine gate_store 26 (.tmp 3) (.tmp 11) rfl ?_; refine wpl_store_new rfl 26 (.tmp 3) (.tmp 11) rfl #[.int .i64 0, .int .i64 0, .int .i64 0, .int .i64 0, .int .i64 0, .string ⟨#[]⟩, .string ⟨#[]⟩, .string ⟨#[]⟩] #[.int .i64 x0, .int .i64 x1, .int .i64 x2, .int .i64 x3, .int .i64 x4, .string s1, .string s2, .string s3] rfl rfl infoCAns rfl (by simp [Value.oneCell']) ?_)
      | (go_at_call 5; clear y2; refine (toByteS_fit _ l _ (HV.out.below hB2') hl).mono ?_; rintro e w3 ⟨a3, rfl, hs3, hb3, hz3⟩; have hB3 := hB2'.trans (hb3.mono hB2'.size))
      | (go_at_call 6; refine Calls.mono (HIm.out _ _ _ (hs.below hB3) hs3 (Nat.le_refl _)) ?_; rintro e w4 ⟨rfl, hb4⟩; have hB4 := hB3.trans (hb4.mono hB3.size); have hz4 := hB4.size; have hB4' := hB4.alloc hz4 (.cells #[.int .i64 x0, .int .i64 x1, .int .i64 x2, .int .i64 x3, .int .i64 x4, .string s1, .string s2, .string s3] 26); have hr5 := range_new w4 [.int .i64 x0, .int .i64 x1, .int .i64 x2, .int .i64 x3, .int .i64 x4, .string s1, .string s2, .string s3] 26; have hr3' := World.rangeAt_alloc (range_of_block ((hb4.block w2.heap.size (by have := hz3; simp at this; omega)).trans (hb3.block w2.heap.size (by simp))) hr3) (.cells #[.int .i64 x0, .int .i64 x1, .int .i64 x2, .int .i64 x3, .int .i64 x4, .string s1, .string s2, .string s3] 26); have hs3' := (hs3.below hb4).below ((Below.refl _ _).alloc (Nat.le_refl _) (.cells #[.int .i64 x0, .int .i64 x1, .int .i64 x2, .int .i64 x3, .int .i64 x4, .string s1, .string s2, .string s3] 26)))
      | (refine gate_store 26 (.tmp 5) (.tmp 15) rfl ?_; refine wpl_store_new rfl 26 (.tmp 5) (.tmp 15) rfl #[.int .i64 0, .int .i64 0, .int .i64 0, .int .i64 0, .int .i64 0, .string ⟨#[]⟩, .string ⟨#[]⟩, .string ⟨#[]⟩] #[.int .i64 x0, .int .i64 x1, .int .i64 x2, .int .i64 x3, .int .i64 x4, .string s1, .string s2, .string s3] rfl rfl infoCAns rfl (by simp [Value.oneCell']) ?_)
      | (refine gate_load 26 (.tmp 5) rfl ?_; refine wpList_load_mid rfl 26 (.tmp 5) rfl w4.heap.size 0 rfl [.int .i64 x0, .int .i64 x1, .int .i64 x2, .int .i64 x3, .int .i64 x4, .string s1, .string s2, .string s3] _ hr5 Tryd.underlying26 rfl infoCAns ?_)
      | (refine gate_load 26 (.tmp 3) rfl ?_; refine wpList_load_mid rfl 26 (.tmp 3) rfl w2.heap.size 0 rfl [.int .i64 x0, .int .i64 x1, .int .i64 x2, .int .i64 x3, .int .i64 x4, .string s1, .string s2, .string s3] _ hr3' Tryd.underlying26 rfl infoCAns ?_)
      | (go_at_call 7; refine (eqCallAnswer_same x0 x1 x2 x3 x4 s1 s2 s3 _).mono ?_; rintro e w5 ⟨rfl, hb5⟩; have hB5 := hB4'.trans (hb5.mono hB4'.size); have hs5 := hs3'.below hb5)
      | (go_at_call 5; refine (toByteS_fit _ l _ (HV.out.below hB5) hl).mono ?_; rintro e w6 ⟨a6, rfl, hs6, hb6, hz6⟩; have hB6 := hB5.trans (hb6.mono hB5.size); have hs6' := hs5.below hb6)
      | (go_at_call 8; refine (eqByteS_same _ _ l _ hs6' hs6).mono ?_; rintro e w7 ⟨rfl, hb7⟩; have hB7 := hB6.trans (hb7.mono hB6.size)))
    go_ret
    exact ⟨rfl, hB7⟩
  · have hl' : (1048576 : Int) < l.length := by omega
    go_enter Tryd.func3, Tryd.ntmps3
    go_wp2
    go_ret
    exact ⟨rfl, Below.refl _ _⟩
end Go.Proofs.YtdobgdbceonjkacDoor
