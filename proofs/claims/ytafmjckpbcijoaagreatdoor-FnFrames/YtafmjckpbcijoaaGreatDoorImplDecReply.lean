/-
  impl.DecodeReply.
-/
import Derived.Test.YtafmjckpbcijoaaGreatDoorAnsReply
namespace Go.Proofs.YtafmjckpbcijoaaGreatDoor
open Go.RowKit
set_option linter.unusedVariables false
set_option linter.unusedSimpArgs false

theorem readBody_reply (b : Nat) (w : World) (A : Nat → Addr) (B D : Nat) (st : RSt) (hs : Sents w A B) (h : Rd w b A B D st) :
    Calls Tryz.prog 63 #[.int .i64 8, .pointer (some ⟨b, 0, none⟩)] w fun e w' => e = .returned (.iface 73 (repV (rdReply st))) ∧ Rd w' b A B D (rdReply st).left ∧ w.grownBy w' (some b) := by
  go_enter Tryz.func63, Tryz.ntmps63
  go_wp2_with (go_at_call 80; refine (reply_any b w A B D st hs h).mono ?_; rintro e w1 ⟨rfl, hr, hg⟩)
  go_ret
  exact ⟨rfl, hr, hg⟩

/-- code and fault of a reply's frame -/
def repC (l : List Int) : Nat × Int :=
  decC l 8 8 (rdReply (some (l.drop 9))).left (repF (rdReply (some (l.drop 9))).cl (rdReply (some (l.drop 9))).sq (rdReply (some (l.drop 9))).st (rdReply (some (l.drop 9))).cd (rdReply (some (l.drop 9))).v.size (rdReply (some (l.drop 9))).ld)
/-- what DecodeReply answers -/
def repAns (c : Nat × Int) (r : RepR) : Value :=
  if c.1 = 0 then .agg #[.int .i64 0, .int .i64 0, .int .i64 (r.cl : Nat), .int .i64 (r.sq : Nat), .int .i64 (r.st : Nat), .int .i64 (r.cd : Nat), .string r.v, .int .i64 (r.ld : Nat)] else .agg #[.int .i64 (c.1 : Nat), .int .i64 c.2, .int .i64 0, .int .i64 0, .int .i64 0, .int .i64 0, .string ⟨#[]⟩, .int .i64 0]

theorem infoRAns : (Tryz.prog.info? 50).map (·.size) = some 8 := by kernel_rfl

theorem decodeReply_body (a : Option Addr) (len c : Nat) (l : List Int) (w : World) (A : Nat → Addr) (B : Nat) (hs : Sents w A B) (hv : Bs w (.slice a len c) l) (hc : len ≤ c) :
    Calls Tryz.prog 39 #[.slice a len c, .int .i64 8, .int .i64 8] w fun e w' =>
      e = .returned (if (repC l).1 = 0 then .tuple #[.iface 73 (repV (rdReply (some (l.drop 9)))), .nilIface] else .tuple #[.nilIface, refV (A (repC l).1) (repC l).2]) ∧ Below w.heap.size w w' := by
  refine (decodeBody_reply a len c l 8 8 w A B hs hv hc (rdReply (some (l.drop 9))).left (repF (rdReply (some (l.drop 9))).cl (rdReply (some (l.drop 9))).sq (rdReply (some (l.drop 9))).st (rdReply (some (l.drop 9))).cd (rdReply (some (l.drop 9))).v.size (rdReply (some (l.drop 9))).ld)
    (fun _ _ X => X = repV (rdReply (some (l.drop 9)))) (fun _ _ _ _ h _ => h) ?_ ?_).mono ?_
  · intro b w D hs hr hin
    have e8 : l[8]?.getD 0 = 8 := by have := (inB_iff _ _ _).1 hin; omega
    rw [e8]
    exact (readBody_reply b w A B D _ hs hr).mono fun e w' ⟨h1, h2, h3⟩ => ⟨_, h1, rfl, h2, h3⟩
  · rintro b w X rfl
    exact replyBody_fault_any _ _ _ _ _ _ (Nat.le_trans (rdReply_v _) (by decide)) w
  · rintro e w' ⟨h0, h1, hb⟩
    refine ⟨?_, hb⟩
    by_cases h : (repC l).1 = 0
    · obtain ⟨_, X, _, rfl, rfl⟩ := h0 h
      rw [if_pos h]
    · rw [if_neg h]
      exact h1 h

set_option maxHeartbeats 4000000 in
set_option maxRecDepth 100000 in
theorem implDecReply_any (a : Option Addr) (len c : Nat) (l : List Int) (w : World) (A : Nat → Addr) (B : Nat) (hs : Sents w A B) (hv : Bs w (.slice a len c) l) (hc : len ≤ c) :
    Calls Tryz.prog 19 #[.slice a len c] w fun e w' => e = .returned (repAns (repC l) (rdReply (some (l.drop 9)))) ∧ Below w.heap.size w w' := by
  have HD : Hid (∀ w', Below w.heap.size w w' → Calls Tryz.prog 39 #[.slice a len c, .int .i64 8, .int .i64 8] w' fun e w'' =>
      e = .returned (if (repC l).1 = 0 then .tuple #[.iface 73 (repV (rdReply (some (l.drop 9)))), .nilIface] else .tuple #[.nilIface, refV (A (repC l).1) (repC l).2]) ∧ Below w'.heap.size w' w'') :=
    fun w' hb => decodeReply_body a len c l w' A B (hs.below hb) (hv.below hb) hc
  have h6 := decC_le l 8 8 (rdReply (some (l.drop 9))).left (repF (rdReply (some (l.drop 9))).cl (rdReply (some (l.drop 9))).sq (rdReply (some (l.drop 9))).st (rdReply (some (l.drop 9))).cd (rdReply (some (l.drop 9))).v.size (rdReply (some (l.drop 9))).ld)
  change (repC l).1 ≤ 6 at h6
  clear hv
  unfold repAns
  generalize rdReply (some (l.drop 9)) = r at *
  generalize repC l = C at *
  by_cases h0 : C.1 = 0
  · rw [if_pos h0] at HD ⊢
    go_enter Tryz.func19, Tryz.ntmps19
    go_wp2_with (first
      | (go_at_call 39; refine (HD.out _ (Below.alloc (Below.refl _ _) (Nat.le_refl _) _)).mono ?_; rintro e w1 ⟨rfl, hb1⟩; have hB1 : Below w.heap.size w w1 := ((Below.refl _ _).alloc (Nat.le_refl _) _).trans (hb1.mono (by simp)); have hz1 : w.heap.size < w1.heap.size := (by have := hb1.size; simp at this; omega))
      | (go_at_call 38; refine (answerOf_reply r _ A B (hs.below hB1)).mono ?_; rintro e w2 ⟨rfl, hb2⟩; have hz2 : w.heap.size < w2.heap.size := Nat.lt_of_lt_of_le hz1 hb2.size; have hB2 := hB1.trans (hb2.mono (Nat.le_of_lt hz1)); have hth := there_new (hb1.trans (hb2.mono hb1.size)) hz2 (.cells #[.int .i64 0, .int .i64 0, .int .i64 0, .int .i64 0, .int .i64 0, .int .i64 0, .int .i64 0, .int .i64 0, .int .i64 0, .int .i64 0, .int .i64 0, .slice none 0 0, .int .i64 0, .int .i64 0, .int .i64 0, .string ⟨#[]⟩, .string ⟨#[]⟩, .string ⟨#[]⟩, .int .i64 (r.cl : Nat), .int .i64 (r.sq : Nat), .int .i64 (r.st : Nat), .int .i64 (r.cd : Nat), .string r.v, .int .i64 (r.ld : Nat)] 75); have hra := range_new w2 [.int .i64 0, .int .i64 0, .int .i64 0, .int .i64 0, .int .i64 0, .int .i64 0, .int .i64 0, .int .i64 0, .int .i64 0, .int .i64 0, .int .i64 0, .slice none 0 0, .int .i64 0, .int .i64 0, .int .i64 0, .string ⟨#[]⟩, .string ⟨#[]⟩, .string ⟨#[]⟩, .int .i64 (r.cl : Nat), .int .i64 (r.sq : Nat), .int .i64 (r.st : Nat), .int .i64 (r.cd : Nat), .string r.v, .int .i64 (r.ld : Nat)] 75)
      | (refine gate_store 75 (.tmp 3) (.tmp 8) rfl ?_; refine wpl_store_new rfl 75 (.tmp 3) (.tmp 8) rfl #[.int .i64 0, .int .i64 0, .int .i64 0, .int .i64 0, .int .i64 0, .int .i64 0, .int .i64 0, .int .i64 0, .int .i64 0, .int .i64 0, .int .i64 0, .slice none 0 0, .int .i64 0, .int .i64 0, .int .i64 0, .string ⟨#[]⟩, .string ⟨#[]⟩, .string ⟨#[]⟩, .int .i64 0, .int .i64 0, .int .i64 0, .int .i64 0, .string ⟨#[]⟩, .int .i64 0] #[.int .i64 0, .int .i64 0, .int .i64 0, .int .i64 0, .int .i64 0, .int .i64 0, .int .i64 0, .int .i64 0, .int .i64 0, .int .i64 0, .int .i64 0, .slice none 0 0, .int .i64 0, .int .i64 0, .int .i64 0, .string ⟨#[]⟩, .string ⟨#[]⟩, .string ⟨#[]⟩, .int .i64 (r.cl : Nat), .int .i64 (r.sq : Nat), .int .i64 (r.st : Nat), .int .i64 (r.cd : Nat), .string r.v, .int .i64 (r.ld : Nat)] rfl rfl infoAns rfl (by simp [Value.oneCell']) ?_)
      | (refine gate_load 38 (.tmp 13) rfl ?_; refine wpList_load_mid rfl 38 (.tmp 13) rfl w2.heap.size 18 rfl [.int .i64 (r.cl : Nat), .int .i64 (r.sq : Nat), .int .i64 (r.st : Nat), .int .i64 (r.cd : Nat), .string r.v, .int .i64 (r.ld : Nat)] _ ((range_app (xs := [.int .i64 0, .int .i64 0, .int .i64 0, .int .i64 0, .int .i64 0, .int .i64 0, .int .i64 0, .int .i64 0, .int .i64 0, .int .i64 0, .int .i64 0, .slice none 0 0, .int .i64 0, .int .i64 0, .int .i64 0, .string ⟨#[]⟩, .string ⟨#[]⟩, .string ⟨#[]⟩]) (ys := [.int .i64 (r.cl : Nat), .int .i64 (r.sq : Nat), .int .i64 (r.st : Nat), .int .i64 (r.cd : Nat), .string r.v, .int .i64 (r.ld : Nat)])).1 hra).2 Tryz.underlying38 rfl infoReply ?_)
      | (refine gate_store 50 (.tmp 2) (.tmp 15) rfl ?_; refine wpList_store_mid rfl 50 (.tmp 2) (.tmp 15) rfl w.heap.size 0 #[.int .i64 0, .int .i64 0, .int .i64 (r.cl : Nat), .int .i64 (r.sq : Nat), .int .i64 (r.st : Nat), .int .i64 (r.cd : Nat), .string r.v, .int .i64 (r.ld : Nat)] rfl rfl hth infoRAns (by simp [Value.oneCell']) ?_; have hra4 := World.rangeAt_setCells_same _ w.heap.size 0 [.int .i64 0, .int .i64 0, .int .i64 (r.cl : Nat), .int .i64 (r.sq : Nat), .int .i64 (r.st : Nat), .int .i64 (r.cd : Nat), .string r.v, .int .i64 (r.ld : Nat)] hth; have hld := run_loadVar_mid (P := Tryz.prog) _ w.heap.size 0 50 _ _ hra4 Tryz.underlying50 rfl infoRAns; have hB4 := below_setCells (Nat.le_refl _) [.int .i64 0, .int .i64 0, .int .i64 (r.cl : Nat), .int .i64 (r.sq : Nat), .int .i64 (r.st : Nat), .int .i64 (r.cd : Nat), .string r.v, .int .i64 (r.ld : Nat)] 0 _ (hB2.alloc (Nat.le_of_lt hz2) (.cells #[.int .i64 0, .int .i64 0, .int .i64 0, .int .i64 0, .int .i64 0, .int .i64 0, .int .i64 0, .int .i64 0, .int .i64 0, .int .i64 0, .int .i64 0, .slice none 0 0, .int .i64 0, .int .i64 0, .int .i64 0, .string ⟨#[]⟩, .string ⟨#[]⟩, .string ⟨#[]⟩, .int .i64 (r.cl : Nat), .int .i64 (r.sq : Nat), .int .i64 (r.st : Nat), .int .i64 (r.cd : Nat), .string r.v, .int .i64 (r.ld : Nat)] 75)); clear hra4 hth hra; generalize (World.setCells _ w.heap.size 0 _) = W4 at hld hB4 ⊢))
    refine bodyPost_ret (v := .agg #[.int .i64 0, .int .i64 0, .int .i64 (r.cl : Nat), .int .i64 (r.sq : Nat), .int .i64 (r.st : Nat), .int .i64 (r.cd : Nat), .string r.v, .int .i64 (r.ld : Nat)]) ?_ rfl ⟨rfl, hB4⟩
    exact results_cell Tryz.results19 rfl hld
  · rw [if_neg h0] at HD ⊢
    obtain ⟨ci, cf⟩ := C
    simp only at HD h6 h0 ⊢
    go_enter Tryz.func19, Tryz.ntmps19
    go_wp2_with (first
      | (go_at_call 39; refine (HD.out _ (Below.alloc (Below.refl _ _) (Nat.le_refl _) _)).mono ?_; rintro e w1 ⟨rfl, hb1⟩; have hB1 : Below w.heap.size w w1 := ((Below.refl _ _).alloc (Nat.le_refl _) _).trans (hb1.mono (by simp)); have hz1 : w.heap.size < w1.heap.size := (by have := hb1.size; simp at this; omega))
      | (go_at_call 38; refine (answerOf_err ci cf _ A B (hs.below hB1) (by omega) h6).mono ?_; rintro e w2 ⟨rfl, hb2⟩; have hz2 : w.heap.size < w2.heap.size := Nat.lt_of_lt_of_le hz1 hb2.size; have hB2 := hB1.trans (hb2.mono (Nat.le_of_lt hz1)); have hth := there_new (hb1.trans (hb2.mono hb1.size)) hz2 (.cells #[.int .i64 (ci : Nat), .int .i64 cf, .int .i64 0, .int .i64 0, .int .i64 0, .int .i64 0, .int .i64 0, .int .i64 0, .int .i64 0, .int .i64 0, .int .i64 0, .slice none 0 0, .int .i64 0, .int .i64 0, .int .i64 0, .string ⟨#[]⟩, .string ⟨#[]⟩, .string ⟨#[]⟩, .int .i64 0, .int .i64 0, .int .i64 0, .int .i64 0, .string ⟨#[]⟩, .int .i64 0] 75); have hra := range_new w2 [.int .i64 (ci : Nat), .int .i64 cf, .int .i64 0, .int .i64 0, .int .i64 0, .int .i64 0, .int .i64 0, .int .i64 0, .int .i64 0, .int .i64 0, .int .i64 0, .slice none 0 0, .int .i64 0, .int .i64 0, .int .i64 0, .string ⟨#[]⟩, .string ⟨#[]⟩, .string ⟨#[]⟩, .int .i64 0, .int .i64 0, .int .i64 0, .int .i64 0, .string ⟨#[]⟩, .int .i64 0] 75)
      | (refine gate_store 75 (.tmp 3) (.tmp 8) rfl ?_; refine wpl_store_new rfl 75 (.tmp 3) (.tmp 8) rfl #[.int .i64 0, .int .i64 0, .int .i64 0, .int .i64 0, .int .i64 0, .int .i64 0, .int .i64 0, .int .i64 0, .int .i64 0, .int .i64 0, .int .i64 0, .slice none 0 0, .int .i64 0, .int .i64 0, .int .i64 0, .string ⟨#[]⟩, .string ⟨#[]⟩, .string ⟨#[]⟩, .int .i64 0, .int .i64 0, .int .i64 0, .int .i64 0, .string ⟨#[]⟩, .int .i64 0] #[.int .i64 (ci : Nat), .int .i64 cf, .int .i64 0, .int .i64 0, .int .i64 0, .int .i64 0, .int .i64 0, .int .i64 0, .int .i64 0, .int .i64 0, .int .i64 0, .slice none 0 0, .int .i64 0, .int .i64 0, .int .i64 0, .string ⟨#[]⟩, .string ⟨#[]⟩, .string ⟨#[]⟩, .int .i64 0, .int .i64 0, .int .i64 0, .int .i64 0, .string ⟨#[]⟩, .int .i64 0] rfl rfl infoAns rfl (by simp [Value.oneCell']) ?_)
      | (refine gate_load 38 (.tmp 13) rfl ?_; refine wpList_load_mid rfl 38 (.tmp 13) rfl w2.heap.size 18 rfl [.int .i64 0, .int .i64 0, .int .i64 0, .int .i64 0, .string ⟨#[]⟩, .int .i64 0] _ ((range_app (xs := [.int .i64 (ci : Nat), .int .i64 cf, .int .i64 0, .int .i64 0, .int .i64 0, .int .i64 0, .int .i64 0, .int .i64 0, .int .i64 0, .int .i64 0, .int .i64 0, .slice none 0 0, .int .i64 0, .int .i64 0, .int .i64 0, .string ⟨#[]⟩, .string ⟨#[]⟩, .string ⟨#[]⟩]) (ys := [.int .i64 0, .int .i64 0, .int .i64 0, .int .i64 0, .string ⟨#[]⟩, .int .i64 0])).1 hra).2 Tryz.underlying38 rfl infoReply ?_)
      | (refine gate_store 50 (.tmp 2) (.tmp 15) rfl ?_; refine wpList_store_mid rfl 50 (.tmp 2) (.tmp 15) rfl w.heap.size 0 #[.int .i64 (ci : Nat), .int .i64 cf, .int .i64 0, .int .i64 0, .int .i64 0, .int .i64 0, .string ⟨#[]⟩, .int .i64 0] rfl rfl hth infoRAns (by simp [Value.oneCell']) ?_; have hra4 := World.rangeAt_setCells_same _ w.heap.size 0 [.int .i64 (ci : Nat), .int .i64 cf, .int .i64 0, .int .i64 0, .int .i64 0, .int .i64 0, .string ⟨#[]⟩, .int .i64 0] hth; have hld := run_loadVar_mid (P := Tryz.prog) _ w.heap.size 0 50 _ _ hra4 Tryz.underlying50 rfl infoRAns; have hB4 := below_setCells (Nat.le_refl _) [.int .i64 (ci : Nat), .int .i64 cf, .int .i64 0, .int .i64 0, .int .i64 0, .int .i64 0, .string ⟨#[]⟩, .int .i64 0] 0 _ (hB2.alloc (Nat.le_of_lt hz2) (.cells #[.int .i64 (ci : Nat), .int .i64 cf, .int .i64 0, .int .i64 0, .int .i64 0, .int .i64 0, .int .i64 0, .int .i64 0, .int .i64 0, .int .i64 0, .int .i64 0, .slice none 0 0, .int .i64 0, .int .i64 0, .int .i64 0, .string ⟨#[]⟩, .string ⟨#[]⟩, .string ⟨#[]⟩, .int .i64 0, .int .i64 0, .int .i64 0, .int .i64 0, .string ⟨#[]⟩, .int .i64 0] 75)); clear hra4 hth hra; generalize (World.setCells _ w.heap.size 0 _) = W4 at hld hB4 ⊢))
    refine bodyPost_ret (v := .agg #[.int .i64 (ci : Nat), .int .i64 cf, .int .i64 0, .int .i64 0, .int .i64 0, .int .i64 0, .string ⟨#[]⟩, .int .i64 0]) ?_ rfl ⟨rfl, hB4⟩
    exact results_cell Tryz.results19 rfl hld
end Go.Proofs.YtafmjckpbcijoaaGreatDoor
