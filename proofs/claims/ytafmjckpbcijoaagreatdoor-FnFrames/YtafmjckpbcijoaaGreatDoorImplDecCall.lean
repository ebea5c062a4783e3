/-
  impl.DecodeCall.
-/
import Derived.Test.YtafmjckpbcijoaaGreatDoorAnsCall
namespace Go.Proofs.YtafmjckpbcijoaaGreatDoor
open Go.RowKit
set_option linter.unusedVariables false
set_option linter.unusedSimpArgs false

theorem readBody_call (b : Nat) (w : World) (A : Nat → Addr) (B D : Nat) (st : RSt) (hs : Sents w A B) (h : Rd w b A B D st) :
    Calls Tryz.prog 63 #[.int .i64 7, .pointer (some ⟨b, 0, none⟩)] w fun e w' => e = .returned (.iface 66 (cmdV (rdCmd st))) ∧ Rd w' b A B D (rdCmd st).left ∧ w.grownBy w' (some b) := by
  go_enter Tryz.func63, Tryz.ntmps63
  go_wp2_with (go_at_call 79; refine (cmd_any b w A B D st hs h).mono ?_; rintro e w1 ⟨rfl, hr, hg⟩)
  go_ret
  exact ⟨rfl, hr, hg⟩

/-- code and fault of a call's frame -/
def callC (l : List Int) : Nat × Int := decC l 7 7 (rdCmd (some (l.drop 9))).left (callF (rdCmd (some (l.drop 9))).cl (rdCmd (some (l.drop 9))).sq (rdCmd (some (l.drop 9))).op (rdCmd (some (l.drop 9))).k.size (rdCmd (some (l.drop 9))).v.size (rdCmd (some (l.drop 9))).o.size)
/-- what DecodeCall answers -/
def callAns (c : Nat × Int) (r : CmdR) : Value :=
  if c.1 = 0 then .agg #[.int .i64 0, .int .i64 0, .int .i64 (r.cl : Nat), .int .i64 (r.sq : Nat), .int .i64 (r.op : Nat), .string r.k, .string r.v, .string r.o] else .agg #[.int .i64 (c.1 : Nat), .int .i64 c.2, .int .i64 0, .int .i64 0, .int .i64 0, .string ⟨#[]⟩, .string ⟨#[]⟩, .string ⟨#[]⟩]

theorem infoCAns : (Tryz.prog.info? 47).map (·.size) = some 8 := by kernel_rfl

theorem decodeCall_body (a : Option Addr) (len c : Nat) (l : List Int) (w : World) (A : Nat → Addr) (B : Nat) (hs : Sents w A B) (hv : Bs w (.slice a len c) l) (hc : len ≤ c) :
    Calls Tryz.prog 39 #[.slice a len c, .int .i64 7, .int .i64 7] w fun e w' =>
      e = .returned (if (callC l).1 = 0 then .tuple #[.iface 66 (cmdV (rdCmd (some (l.drop 9)))), .nilIface] else .tuple #[.nilIface, refV (A (callC l).1) (callC l).2]) ∧ Below w.heap.size w w' := by
  refine (decodeBody_call a len c l 7 7 w A B hs hv hc (rdCmd (some (l.drop 9))).left (callF (rdCmd (some (l.drop 9))).cl (rdCmd (some (l.drop 9))).sq (rdCmd (some (l.drop 9))).op (rdCmd (some (l.drop 9))).k.size (rdCmd (some (l.drop 9))).v.size (rdCmd (some (l.drop 9))).o.size)
    (fun _ _ X => X = cmdV (rdCmd (some (l.drop 9)))) (fun _ _ _ _ h _ => h) ?_ ?_).mono ?_
  · intro b w D hs hr hin
    have e8 : l[8]?.getD 0 = 7 := by have := (inB_iff _ _ _).1 hin; omega
    rw [e8]
    exact (readBody_call b w A B D _ hs hr).mono fun e w' ⟨h1, h2, h3⟩ => ⟨_, h1, rfl, h2, h3⟩
  · rintro b w X rfl
    exact callBody_fault_any _ _ _ _ _ _ (Nat.le_trans (rdCmd_k _) (by decide)) (Nat.le_trans (rdCmd_v _) (by decide)) (Nat.le_trans (rdCmd_o _) (by decide)) w
  · rintro e w' ⟨h0, h1, hb⟩
    refine ⟨?_, hb⟩
    by_cases h : (callC l).1 = 0
    · obtain ⟨_, X, _, rfl, rfl⟩ := h0 h
      rw [if_pos h]
    · rw [if_neg h]
      exact h1 h

set_option maxHeartbeats 4000000 in
set_option maxRecDepth 100000 in
theorem implDecCall_any (a : Option Addr) (len c : Nat) (l : List Int) (w : World) (A : Nat → Addr) (B : Nat) (hs : Sents w A B) (hv : Bs w (.slice a len c) l) (hc : len ≤ c) :
    Calls Tryz.prog 18 #[.slice a len c] w fun e w' => e = .returned (callAns (callC l) (rdCmd (some (l.drop 9)))) ∧ Below w.heap.size w w' := by
  have HD : Hid (∀ w', Below w.heap.size w w' → Calls Tryz.prog 39 #[.slice a len c, .int .i64 7, .int .i64 7] w' fun e w'' =>
      e = .returned (if (callC l).1 = 0 then .tuple #[.iface 66 (cmdV (rdCmd (some (l.drop 9)))), .nilIface] else .tuple #[.nilIface, refV (A (callC l).1) (callC l).2]) ∧ Below w'.heap.size w' w'') :=
    fun w' hb => decodeCall_body a len c l w' A B (hs.below hb) (hv.below hb) hc
  have h6 := decC_le l 7 7 (rdCmd (some (l.drop 9))).left (callF (rdCmd (some (l.drop 9))).cl (rdCmd (some (l.drop 9))).sq (rdCmd (some (l.drop 9))).op (rdCmd (some (l.drop 9))).k.size (rdCmd (some (l.drop 9))).v.size (rdCmd (some (l.drop 9))).o.size)
  change (callC l).1 ≤ 6 at h6
  clear hv
  unfold callAns
  generalize (rdCmd (some (l.drop 9))) = r at *
  generalize callC l = C at *
  by_cases h0 : C.1 = 0
  · rw [if_pos h0] at HD ⊢
    go_enter Tryz.func18, Tryz.ntmps18
    go_wp2_with (first
      | (go_at_call 39; refine (HD.out _ (Below.alloc (Below.refl _ _) (Nat.le_refl _) _)).mono ?_; rintro e w1 ⟨rfl, hb1⟩; have hB1 : Below w.heap.size w w1 := ((Below.refl _ _).alloc (Nat.le_refl _) _).trans (hb1.mono (by simp)); have hz1 : w.heap.size < w1.heap.size := (by have := hb1.size; simp at this; omega))
      | (go_at_call 38; refine (answerOf_call r _ A B (hs.below hB1)).mono ?_; rintro e w2 ⟨rfl, hb2⟩; have hz2 : w.heap.size < w2.heap.size := Nat.lt_of_lt_of_le hz1 hb2.size; have hB2 := hB1.trans (hb2.mono (Nat.le_of_lt hz1)); have hth := there_new (hb1.trans (hb2.mono hb1.size)) hz2 (.cells #[.int .i64 0, .int .i64 0, .int .i64 0, .int .i64 0, .int .i64 0, .int .i64 0, .int .i64 0, .int .i64 0, .int .i64 0, .int .i64 0, .int .i64 0, .slice none 0 0, .int .i64 (r.cl : Nat), .int .i64 (r.sq : Nat), .int .i64 (r.op : Nat), .string r.k, .string r.v, .string r.o, .int .i64 0, .int .i64 0, .int .i64 0, .int .i64 0, .string ⟨#[]⟩, .int .i64 0] 75); have hra := range_new w2 [.int .i64 0, .int .i64 0, .int .i64 0, .int .i64 0, .int .i64 0, .int .i64 0, .int .i64 0, .int .i64 0, .int .i64 0, .int .i64 0, .int .i64 0, .slice none 0 0, .int .i64 (r.cl : Nat), .int .i64 (r.sq : Nat), .int .i64 (r.op : Nat), .string r.k, .string r.v, .string r.o, .int .i64 0, .int .i64 0, .int .i64 0, .int .i64 0, .string ⟨#[]⟩, .int .i64 0] 75)
      | (refine gate_store 75 (.tmp 3) (.tmp 8) rfl ?_; refine wpl_store_new rfl 75 (.tmp 3) (.tmp 8) rfl #[.int .i64 0, .int .i64 0, .int .i64 0, .int .i64 0, .int .i64 0, .int .i64 0, .int .i64 0, .int .i64 0, .int .i64 0, .int .i64 0, .int .i64 0, .slice none 0 0, .int .i64 0, .int .i64 0, .int .i64 0, .string ⟨#[]⟩, .string ⟨#[]⟩, .string ⟨#[]⟩, .int .i64 0, .int .i64 0, .int .i64 0, .int .i64 0, .string ⟨#[]⟩, .int .i64 0] #[.int .i64 0, .int .i64 0, .int .i64 0, .int .i64 0, .int .i64 0, .int .i64 0, .int .i64 0, .int .i64 0, .int .i64 0, .int .i64 0, .int .i64 0, .slice none 0 0, .int .i64 (r.cl : Nat), .int .i64 (r.sq : Nat), .int .i64 (r.op : Nat), .string r.k, .string r.v, .string r.o, .int .i64 0, .int .i64 0, .int .i64 0, .int .i64 0, .string ⟨#[]⟩, .int .i64 0] rfl rfl infoAns rfl (by simp [Value.oneCell']) ?_)
      | (refine gate_load 33 (.tmp 13) rfl ?_; refine wpList_load_mid rfl 33 (.tmp 13) rfl w2.heap.size 12 rfl [.int .i64 (r.cl : Nat), .int .i64 (r.sq : Nat), .int .i64 (r.op : Nat), .string r.k, .string r.v, .string r.o] _ ((range_app (xs := [.int .i64 (r.cl : Nat), .int .i64 (r.sq : Nat), .int .i64 (r.op : Nat), .string r.k, .string r.v, .string r.o]) (ys := [.int .i64 0, .int .i64 0, .int .i64 0, .int .i64 0, .string ⟨#[]⟩, .int .i64 0])).1 ((range_app (xs := [.int .i64 0, .int .i64 0, .int .i64 0, .int .i64 0, .int .i64 0, .int .i64 0, .int .i64 0, .int .i64 0, .int .i64 0, .int .i64 0, .int .i64 0, .slice none 0 0]) (ys := [.int .i64 (r.cl : Nat), .int .i64 (r.sq : Nat), .int .i64 (r.op : Nat), .string r.k, .string r.v, .string r.o, .int .i64 0, .int .i64 0, .int .i64 0, .int .i64 0, .string ⟨#[]⟩, .int .i64 0])).1 hra).2).1 Tryz.underlying33 rfl infoCmd ?_)
      | (refine gate_store 47 (.tmp 2) (.tmp 15) rfl ?_; refine wpList_store_mid rfl 47 (.tmp 2) (.tmp 15) rfl w.heap.size 0 #[.int .i64 0, .int .i64 0, .int .i64 (r.cl : Nat), .int .i64 (r.sq : Nat), .int .i64 (r.op : Nat), .string r.k, .string r.v, .string r.o] rfl rfl hth infoCAns (by simp [Value.oneCell']) ?_; have hra4 := World.rangeAt_setCells_same _ w.heap.size 0 [.int .i64 0, .int .i64 0, .int .i64 (r.cl : Nat), .int .i64 (r.sq : Nat), .int .i64 (r.op : Nat), .string r.k, .string r.v, .string r.o] hth; have hld := run_loadVar_mid (P := Tryz.prog) _ w.heap.size 0 47 _ _ hra4 Tryz.underlying47 rfl infoCAns; have hB4 := below_setCells (Nat.le_refl _) [.int .i64 0, .int .i64 0, .int .i64 (r.cl : Nat), .int .i64 (r.sq : Nat), .int .i64 (r.op : Nat), .string r.k, .string r.v, .string r.o] 0 _ (hB2.alloc (Nat.le_of_lt hz2) (.cells #[.int .i64 0, .int .i64 0, .int .i64 0, .int .i64 0, .int .i64 0, .int .i64 0, .int .i64 0, .int .i64 0, .int .i64 0, .int .i64 0, .int .i64 0, .slice none 0 0, .int .i64 (r.cl : Nat), .int .i64 (r.sq : Nat), .int .i64 (r.op : Nat), .string r.k, .string r.v, .string r.o, .int .i64 0, .int .i64 0, .int .i64 0, .int .i64 0, .string ⟨#[]⟩, .int .i64 0] 75)); clear hra4 hth hra; generalize (World.setCells _ w.heap.size 0 _) = W4 at hld hB4 ⊢))
    refine bodyPost_ret (v := .agg #[.int .i64 0, .int .i64 0, .int .i64 (r.cl : Nat), .int .i64 (r.sq : Nat), .int .i64 (r.op : Nat), .string r.k, .string r.v, .string r.o]) ?_ rfl ⟨rfl, hB4⟩
    exact results_cell Tryz.results18 rfl hld
  · rw [if_neg h0] at HD ⊢
    obtain ⟨ci, cf⟩ := C
    simp only at HD h6 h0 ⊢
    go_enter Tryz.func18, Tryz.ntmps18
    go_wp2_with (first
      | (go_at_call 39; refine (HD.out _ (Below.alloc (Below.refl _ _) (Nat.le_refl _) _)).mono ?_; rintro e w1 ⟨rfl, hb1⟩; have hB1 : Below w.heap.size w w1 := ((Below.refl _ _).alloc (Nat.le_refl _) _).trans (hb1.mono (by simp)); have hz1 : w.heap.size < w1.heap.size := (by have := hb1.size; simp at this; omega))
      | (go_at_call 38; refine (answerOf_err ci cf _ A B (hs.below hB1) (by omega) h6).mono ?_; rintro e w2 ⟨rfl, hb2⟩; have hz2 : w.heap.size < w2.heap.size := Nat.lt_of_lt_of_le hz1 hb2.size; have hB2 := hB1.trans (hb2.mono (Nat.le_of_lt hz1)); have hth := there_new (hb1.trans (hb2.mono hb1.size)) hz2 (.cells #[.int .i64 (ci : Nat), .int .i64 cf, .int .i64 0, .int .i64 0, .int .i64 0, .int .i64 0, .int .i64 0, .int .i64 0, .int .i64 0, .int .i64 0, .int .i64 0, .slice none 0 0, .int .i64 0, .int .i64 0, .int .i64 0, .string ⟨#[]⟩, .string ⟨#[]⟩, .string ⟨#[]⟩, .int .i64 0, .int .i64 0, .int .i64 0, .int .i64 0, .string ⟨#[]⟩, .int .i64 0] 75); have hra := range_new w2 [.int .i64 (ci : Nat), .int .i64 cf, .int .i64 0, .int .i64 0, .int .i64 0, .int .i64 0, .int .i64 0, .int .i64 0, .int .i64 0, .int .i64 0, .int .i64 0, .slice none 0 0, .int .i64 0, .int .i64 0, .int .i64 0, .string ⟨#[]⟩, .string ⟨#[]⟩, .string ⟨#[]⟩, .int .i64 0, .int .i64 0, .int .i64 0, .int .i64 0, .string ⟨#[]⟩, .int .i64 0] 75)
      | (refine gate_store 75 (.tmp 3) (.tmp 8) rfl ?_; refine wpl_store_new rfl 75 (.tmp 3) (.tmp 8) rfl #[.int .i64 0, .int .i64 0, .int .i64 0, .int .i64 0, .int .i64 0, .int .i64 0, .int .i64 0, .int .i64 0, .int .i64 0, .int .i64 0, .int .i64 0, .slice none 0 0, .int .i64 0, .int .i64 0, .int .i64 0, .string ⟨#[]⟩, .string ⟨#[]⟩, .string ⟨#[]⟩, .int .i64 0, .int .i64 0, .int .i64 0, .int .i64 0, .string ⟨#[]⟩, .int .i64 0] #[.int .i64 (ci : Nat), .int .i64 cf, .int .i64 0, .int .i64 0, .int .i64 0, .int .i64 0, .int .i64 0, .int .i64 0, .int .i64 0, .int .i64 0, .int .i64 0, .slice none 0 0, .int .i64 0, .int .i64 0, .int .i64 0, .string ⟨#[]⟩, .string ⟨#[]⟩, .string ⟨#[]⟩, .int .i64 0, .int .i64 0, .int .i64 0, .int .i64 0, .string ⟨#[]⟩, .int .i64 0] rfl rfl infoAns rfl (by simp [Value.oneCell']) ?_)
      | (refine gate_load 33 (.tmp 13) rfl ?_; refine wpList_load_mid rfl 33 (.tmp 13) rfl w2.heap.size 12 rfl [.int .i64 0, .int .i64 0, .int .i64 0, .string ⟨#[]⟩, .string ⟨#[]⟩, .string ⟨#[]⟩] _ ((range_app (xs := [.int .i64 0, .int .i64 0, .int .i64 0, .string ⟨#[]⟩, .string ⟨#[]⟩, .string ⟨#[]⟩]) (ys := [.int .i64 0, .int .i64 0, .int .i64 0, .int .i64 0, .string ⟨#[]⟩, .int .i64 0])).1 ((range_app (xs := [.int .i64 (ci : Nat), .int .i64 cf, .int .i64 0, .int .i64 0, .int .i64 0, .int .i64 0, .int .i64 0, .int .i64 0, .int .i64 0, .int .i64 0, .int .i64 0, .slice none 0 0]) (ys := [.int .i64 0, .int .i64 0, .int .i64 0, .string ⟨#[]⟩, .string ⟨#[]⟩, .string ⟨#[]⟩, .int .i64 0, .int .i64 0, .int .i64 0, .int .i64 0, .string ⟨#[]⟩, .int .i64 0])).1 hra).2).1 Tryz.underlying33 rfl infoCmd ?_)
      | (refine gate_store 47 (.tmp 2) (.tmp 15) rfl ?_; refine wpList_store_mid rfl 47 (.tmp 2) (.tmp 15) rfl w.heap.size 0 #[.int .i64 (ci : Nat), .int .i64 cf, .int .i64 0, .int .i64 0, .int .i64 0, .string ⟨#[]⟩, .string ⟨#[]⟩, .string ⟨#[]⟩] rfl rfl hth infoCAns (by simp [Value.oneCell']) ?_; have hra4 := World.rangeAt_setCells_same _ w.heap.size 0 [.int .i64 (ci : Nat), .int .i64 cf, .int .i64 0, .int .i64 0, .int .i64 0, .string ⟨#[]⟩, .string ⟨#[]⟩, .string ⟨#[]⟩] hth; have hld := run_loadVar_mid (P := Tryz.prog) _ w.heap.size 0 47 _ _ hra4 Tryz.underlying47 rfl infoCAns; have hB4 := below_setCells (Nat.le_refl _) [.int .i64 (ci : Nat), .int .i64 cf, .int .i64 0, .int .i64 0, .int .i64 0, .string ⟨#[]⟩, .string ⟨#[]⟩, .string ⟨#[]⟩] 0 _ (hB2.alloc (Nat.le_of_lt hz2) (.cells #[.int .i64 (ci : Nat), .int .i64 cf, .int .i64 0, .int .i64 0, .int .i64 0, .int .i64 0, .int .i64 0, .int .i64 0, .int .i64 0, .int .i64 0, .int .i64 0, .slice none 0 0, .int .i64 0, .int .i64 0, .int .i64 0, .string ⟨#[]⟩, .string ⟨#[]⟩, .string ⟨#[]⟩, .int .i64 0, .int .i64 0, .int .i64 0, .int .i64 0, .string ⟨#[]⟩, .int .i64 0] 75)); clear hra4 hth hra; generalize (World.setCells _ w.heap.size 0 _) = W4 at hld hB4 ⊢))
    refine bodyPost_ret (v := .agg #[.int .i64 (ci : Nat), .int .i64 cf, .int .i64 0, .int .i64 0, .int .i64 0, .string ⟨#[]⟩, .string ⟨#[]⟩, .string ⟨#[]⟩]) ?_ rfl ⟨rfl, hB4⟩
    exact results_cell Tryz.results18 rfl hld
end Go.Proofs.YtafmjckpbcijoaaGreatDoor
