/-
  impl.answerOf at a reply, impl.DecodeReply.
-/
import Derived.Test.YtpoklngcfibaiabDoorDecBodyReply
import Derived.Test.YtpoklngcfibaiabDoorRdReply
import Derived.Test.YtpoklngcfibaiabDoorReply
import Derived.Test.YtpoklngcfibaiabDoorAnsErr
namespace Go.Proofs.YtpoklngcfibaiabDoor
open Go.RowKit
set_option linter.unusedVariables false
set_option linter.unusedSimpArgs false

theorem range_app {w : World} {b o : Nat} {xs ys : List Value} : w.rangeAt b o (xs ++ ys) ↔ w.rangeAt b o xs ∧ w.rangeAt b (o + xs.length) ys := by
  constructor
  · intro h
    refine ⟨fun j v hj => h j v ?_, fun j v hj => ?_⟩
    · rw [List.getElem?_append_left (List.getElem?_eq_some_iff.1 hj).1]; exact hj
    · have := h (xs.length + j) v (by rw [List.getElem?_append_right (by omega)]; simpa using hj)
      rwa [← Nat.add_assoc] at this
  · rintro ⟨h1, h2⟩ j v hj
    rcases Nat.lt_or_ge j xs.length with h | h
    · rw [List.getElem?_append_left h] at hj
      exact h1 j v hj
    · rw [List.getElem?_append_right h] at hj
      have := h2 (j - xs.length) v hj
      rwa [Nat.add_assoc, Nat.add_sub_cancel' h] at this
theorem range_splice {w : World} {b : Nat} (p m m' q : List Value) (h : w.rangeAt b 0 (p ++ (m ++ q))) (hl : m'.length = m.length) (ht : w.there b p.length m'.length) :
    (w.setCells b p.length m').rangeAt b 0 (p ++ (m' ++ q)) := by
  obtain ⟨h1, h2⟩ := range_app.1 h
  obtain ⟨h2, h3⟩ := range_app.1 h2
  rw [Nat.zero_add] at h2 h3
  refine range_app.2 ⟨World.rangeAt_setCells_apart h1 _ _ _ (by omega), range_app.2 ⟨?_, ?_⟩⟩
  · rw [Nat.zero_add]; exact World.rangeAt_setCells_same _ _ _ _ ht
  · rw [Nat.zero_add, hl]; exact World.rangeAt_setCells_apart h3 _ _ _ (by omega)
theorem there_part {w : World} {b n : Nat} (h : w.there b 0 n) (o k : Nat) (hk : o + k ≤ n) : w.there b o k := fun j hj => by
  have := h (o + j) (by omega)
  rwa [Nat.zero_add] at this

theorem infoReply : (Tryd.prog.info? 24).map (·.size) = some 6 := by kernel_rfl
theorem infoReplyBody : (Tryd.prog.info? 61).map (·.size) = some 6 := by kernel_rfl

set_option maxHeartbeats 4000000 in
set_option maxRecDepth 100000 in
theorem answerOf_reply (r : RepR) (w : World) (A : Nat → Addr) (B : Nat) (hs : Sents w A B) :
    Calls Tryd.prog 13 #[.iface 61 (repV r), .nilIface] w fun e w' =>
      e = .returned (.agg #[.int .i64 0, .int .i64 0, .int .i64 0, .int .i64 0, .int .i64 0, .int .i64 0, .int .i64 0, .int .i64 0, .int .i64 0, .int .i64 0, .int .i64 0, .slice none 0 0, .int .i64 0, .int .i64 0, .int .i64 0, .string ⟨#[]⟩, .string ⟨#[]⟩, .string ⟨#[]⟩, .int .i64 (r.cl : Nat), .int .i64 (r.sq : Nat), .int .i64 (r.st : Nat), .int .i64 (r.cd : Nat), .string r.v, .int .i64 (r.ld : Nat)]) ∧ Below w.heap.size w w' := by
  unfold repV
  have t1 := ta_reply_msg
  have t2 := ta_reply_call
  have t3 := ta_reply_reply
  go_enter Tryd.func13, Tryd.ntmps13
  go_wp2_with (first
    | (go_at_call 19; refine (codeOf_nil _ A B (hs.below ((Below.refl _ _).alloc (Nat.le_refl _) _))).mono ?_; rintro e w1 ⟨rfl, rfl⟩)
    | (go_at_call 20; refine (faultOf_nil _).mono ?_; rintro e w2 ⟨rfl, hb⟩; have hz : w.heap.size < w2.heap.size := (by have := hb.size; simp at this; omega); have hB2 : Below w.heap.size w w2 := ((Below.refl _ _).alloc (Nat.le_refl _) _).trans (hb.mono (by simp)); have hth := there_new hb hz (.cells #[.int .i64 0, .int .i64 0, .int .i64 0, .int .i64 0, .int .i64 0, .int .i64 0, .int .i64 0, .int .i64 0, .int .i64 0, .int .i64 0, .int .i64 0, .slice none 0 0, .int .i64 0, .int .i64 0, .int .i64 0, .string ⟨#[]⟩, .string ⟨#[]⟩, .string ⟨#[]⟩, .int .i64 0, .int .i64 0, .int .i64 0, .int .i64 0, .string ⟨#[]⟩, .int .i64 0] 45); have hra := range_new w2 [.int .i64 0, .int .i64 0, .int .i64 0, .int .i64 0, .int .i64 0, .int .i64 0, .int .i64 0, .int .i64 0, .int .i64 0, .int .i64 0, .int .i64 0, .slice none 0 0, .int .i64 0, .int .i64 0, .int .i64 0, .string ⟨#[]⟩, .string ⟨#[]⟩, .string ⟨#[]⟩, .int .i64 0, .int .i64 0, .int .i64 0, .int .i64 0, .string ⟨#[]⟩, .int .i64 0] 45; have htN : (w2.alloc (.cells #[.int .i64 0, .int .i64 0, .int .i64 0, .int .i64 0, .int .i64 0, .int .i64 0, .int .i64 0, .int .i64 0, .int .i64 0, .int .i64 0, .int .i64 0, .slice none 0 0, .int .i64 0, .int .i64 0, .int .i64 0, .string ⟨#[]⟩, .string ⟨#[]⟩, .string ⟨#[]⟩, .int .i64 0, .int .i64 0, .int .i64 0, .int .i64 0, .string ⟨#[]⟩, .int .i64 0] 45)).there w2.heap.size 0 24 := (fun j hj => by rw [Nat.zero_add]; simp [World.cell?_alloc_new, hj]))
    | (refine wpl_store_new rfl 45 (.tmp 5) (.tmp 13) rfl #[.int .i64 0, .int .i64 0, .int .i64 0, .int .i64 0, .int .i64 0, .int .i64 0, .int .i64 0, .int .i64 0, .int .i64 0, .int .i64 0, .int .i64 0, .slice none 0 0, .int .i64 0, .int .i64 0, .int .i64 0, .string ⟨#[]⟩, .string ⟨#[]⟩, .string ⟨#[]⟩, .int .i64 0, .int .i64 0, .int .i64 0, .int .i64 0, .string ⟨#[]⟩, .int .i64 0] #[.int .i64 0, .int .i64 0, .int .i64 0, .int .i64 0, .int .i64 0, .int .i64 0, .int .i64 0, .int .i64 0, .int .i64 0, .int .i64 0, .int .i64 0, .slice none 0 0, .int .i64 0, .int .i64 0, .int .i64 0, .string ⟨#[]⟩, .string ⟨#[]⟩, .string ⟨#[]⟩, .int .i64 0, .int .i64 0, .int .i64 0, .int .i64 0, .string ⟨#[]⟩, .int .i64 0] rfl rfl infoAns rfl (by simp [Value.oneCell']) ?_)
    | (refine wpl_store_new rfl 61 (.tmp 8) (.tmp 27) rfl #[.int .i64 0, .int .i64 0, .int .i64 0, .int .i64 0, .string ⟨#[]⟩, .int .i64 0] #[.int .i64 (r.cl : Nat), .int .i64 (r.sq : Nat), .int .i64 (r.st : Nat), .int .i64 (r.cd : Nat), .string r.v, .int .i64 (r.ld : Nat)] (show Value.pointer (some ⟨w2.heap.size + 1, 0, none⟩) = _ by simp) rfl infoReplyBody rfl (by simp [Value.oneCell']) ?_)
    | (refine wpList_load_mid rfl 61 (.tmp 8) rfl (w2.heap.size + 1) 0 rfl [.int .i64 (r.cl : Nat), .int .i64 (r.sq : Nat), .int .i64 (r.st : Nat), .int .i64 (r.cd : Nat), .string r.v, .int .i64 (r.ld : Nat)] _ (by have h := range_new (w2.alloc (.cells #[.int .i64 0, .int .i64 0, .int .i64 0, .int .i64 0, .int .i64 0, .int .i64 0, .int .i64 0, .int .i64 0, .int .i64 0, .int .i64 0, .int .i64 0, .slice none 0 0, .int .i64 0, .int .i64 0, .int .i64 0, .string ⟨#[]⟩, .string ⟨#[]⟩, .string ⟨#[]⟩, .int .i64 0, .int .i64 0, .int .i64 0, .int .i64 0, .string ⟨#[]⟩, .int .i64 0] 45)) [.int .i64 (r.cl : Nat), .int .i64 (r.sq : Nat), .int .i64 (r.st : Nat), .int .i64 (r.cd : Nat), .string r.v, .int .i64 (r.ld : Nat)] 61; simpa using h) Tryd.underlying61 rfl infoReplyBody ?_)
    | (refine wpList_store_mid rfl 24 (.tmp 29) (.tmp 28) rfl w2.heap.size 18 #[.int .i64 (r.cl : Nat), .int .i64 (r.sq : Nat), .int .i64 (r.st : Nat), .int .i64 (r.cd : Nat), .string r.v, .int .i64 (r.ld : Nat)] rfl rfl (there_part (World.there_alloc htN _) 18 6 (by omega)) infoReply (by simp [Value.oneCell']) ?_; have hsp := range_splice (w := (w2.alloc (.cells #[.int .i64 0, .int .i64 0, .int .i64 0, .int .i64 0, .int .i64 0, .int .i64 0, .int .i64 0, .int .i64 0, .int .i64 0, .int .i64 0, .int .i64 0, .slice none 0 0, .int .i64 0, .int .i64 0, .int .i64 0, .string ⟨#[]⟩, .string ⟨#[]⟩, .string ⟨#[]⟩, .int .i64 0, .int .i64 0, .int .i64 0, .int .i64 0, .string ⟨#[]⟩, .int .i64 0] 45)).alloc (.cells #[.int .i64 (r.cl : Nat), .int .i64 (r.sq : Nat), .int .i64 (r.st : Nat), .int .i64 (r.cd : Nat), .string r.v, .int .i64 (r.ld : Nat)] 61)) (b := w2.heap.size) [.int .i64 0, .int .i64 0, .int .i64 0, .int .i64 0, .int .i64 0, .int .i64 0, .int .i64 0, .int .i64 0, .int .i64 0, .int .i64 0, .int .i64 0, .slice none 0 0, .int .i64 0, .int .i64 0, .int .i64 0, .string ⟨#[]⟩, .string ⟨#[]⟩, .string ⟨#[]⟩] [.int .i64 0, .int .i64 0, .int .i64 0, .int .i64 0, .string ⟨#[]⟩, .int .i64 0] [.int .i64 (r.cl : Nat), .int .i64 (r.sq : Nat), .int .i64 (r.st : Nat), .int .i64 (r.cd : Nat), .string r.v, .int .i64 (r.ld : Nat)] [] (World.rangeAt_alloc hra _) rfl (there_part (World.there_alloc htN _) 18 6 (by omega)); have hth2 := World.there_setCells (World.there_alloc hth (.cells #[.int .i64 (r.cl : Nat), .int .i64 (r.sq : Nat), .int .i64 (r.st : Nat), .int .i64 (r.cd : Nat), .string r.v, .int .i64 (r.ld : Nat)] 61)) w2.heap.size 18 [.int .i64 (r.cl : Nat), .int .i64 (r.sq : Nat), .int .i64 (r.st : Nat), .int .i64 (r.cd : Nat), .string r.v, .int .i64 (r.ld : Nat)]; have hB3 := below_setCells (B := w.heap.size) (Nat.le_of_lt hz) [.int .i64 (r.cl : Nat), .int .i64 (r.sq : Nat), .int .i64 (r.st : Nat), .int .i64 (r.cd : Nat), .string r.v, .int .i64 (r.ld : Nat)] 18 _ ((hB2.alloc (Nat.le_of_lt hz) (.cells #[.int .i64 0, .int .i64 0, .int .i64 0, .int .i64 0, .int .i64 0, .int .i64 0, .int .i64 0, .int .i64 0, .int .i64 0, .int .i64 0, .int .i64 0, .slice none 0 0, .int .i64 0, .int .i64 0, .int .i64 0, .string ⟨#[]⟩, .string ⟨#[]⟩, .string ⟨#[]⟩, .int .i64 0, .int .i64 0, .int .i64 0, .int .i64 0, .string ⟨#[]⟩, .int .i64 0] 45)).alloc (show w.heap.size ≤ _ by simp; omega) (.cells #[.int .i64 (r.cl : Nat), .int .i64 (r.sq : Nat), .int .i64 (r.st : Nat), .int .i64 (r.cd : Nat), .string r.v, .int .i64 (r.ld : Nat)] 61)); clear hth hra htN; generalize (World.setCells _ w2.heap.size 18 _) = W3 at hsp hth2 hB3 ⊢)
    | (refine wpList_load_mid rfl 45 (.tmp 5) rfl w2.heap.size 0 rfl [.int .i64 0, .int .i64 0, .int .i64 0, .int .i64 0, .int .i64 0, .int .i64 0, .int .i64 0, .int .i64 0, .int .i64 0, .int .i64 0, .int .i64 0, .slice none 0 0, .int .i64 0, .int .i64 0, .int .i64 0, .string ⟨#[]⟩, .string ⟨#[]⟩, .string ⟨#[]⟩, .int .i64 (r.cl : Nat), .int .i64 (r.sq : Nat), .int .i64 (r.st : Nat), .int .i64 (r.cd : Nat), .string r.v, .int .i64 (r.ld : Nat)] _ hsp Tryd.underlying45 rfl infoAns ?_)
    | (refine wpList_store_mid rfl 45 (.tmp 4) (.tmp 30) rfl w.heap.size 0 #[.int .i64 0, .int .i64 0, .int .i64 0, .int .i64 0, .int .i64 0, .int .i64 0, .int .i64 0, .int .i64 0, .int .i64 0, .int .i64 0, .int .i64 0, .slice none 0 0, .int .i64 0, .int .i64 0, .int .i64 0, .string ⟨#[]⟩, .string ⟨#[]⟩, .string ⟨#[]⟩, .int .i64 (r.cl : Nat), .int .i64 (r.sq : Nat), .int .i64 (r.st : Nat), .int .i64 (r.cd : Nat), .string r.v, .int .i64 (r.ld : Nat)] rfl rfl hth2 infoAns (by simp [Value.oneCell']) ?_; have hra4 := World.rangeAt_setCells_same _ w.heap.size 0 [.int .i64 0, .int .i64 0, .int .i64 0, .int .i64 0, .int .i64 0, .int .i64 0, .int .i64 0, .int .i64 0, .int .i64 0, .int .i64 0, .int .i64 0, .slice none 0 0, .int .i64 0, .int .i64 0, .int .i64 0, .string ⟨#[]⟩, .string ⟨#[]⟩, .string ⟨#[]⟩, .int .i64 (r.cl : Nat), .int .i64 (r.sq : Nat), .int .i64 (r.st : Nat), .int .i64 (r.cd : Nat), .string r.v, .int .i64 (r.ld : Nat)] hth2; have hld := run_loadVar_mid (P := Tryd.prog) _ w.heap.size 0 45 _ _ hra4 Tryd.underlying45 rfl infoAns; have hB4 := below_setCells (Nat.le_refl _) [.int .i64 0, .int .i64 0, .int .i64 0, .int .i64 0, .int .i64 0, .int .i64 0, .int .i64 0, .int .i64 0, .int .i64 0, .int .i64 0, .int .i64 0, .slice none 0 0, .int .i64 0, .int .i64 0, .int .i64 0, .string ⟨#[]⟩, .string ⟨#[]⟩, .string ⟨#[]⟩, .int .i64 (r.cl : Nat), .int .i64 (r.sq : Nat), .int .i64 (r.st : Nat), .int .i64 (r.cd : Nat), .string r.v, .int .i64 (r.ld : Nat)] 0 _ hB3; clear hra4 hth2 hsp; generalize (World.setCells _ w.heap.size 0 _) = W4 at hld hB4 ⊢))
  refine bodyPost_ret (v := .agg #[.int .i64 0, .int .i64 0, .int .i64 0, .int .i64 0, .int .i64 0, .int .i64 0, .int .i64 0, .int .i64 0, .int .i64 0, .int .i64 0, .int .i64 0, .slice none 0 0, .int .i64 0, .int .i64 0, .int .i64 0, .string ⟨#[]⟩, .string ⟨#[]⟩, .string ⟨#[]⟩, .int .i64 (r.cl : Nat), .int .i64 (r.sq : Nat), .int .i64 (r.st : Nat), .int .i64 (r.cd : Nat), .string r.v, .int .i64 (r.ld : Nat)]) ?_ rfl ⟨rfl, hB4⟩
  exact results_cell Tryd.results13 rfl hld
end Go.Proofs.YtpoklngcfibaiabDoor
