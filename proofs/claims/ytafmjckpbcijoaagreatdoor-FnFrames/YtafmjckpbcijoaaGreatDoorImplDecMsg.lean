/-
  impl.DecodeMsg.
-/
import Derived.Test.YtafmjckpbcijoaaGreatDoorAnsMsg
namespace Go.Proofs.YtafmjckpbcijoaaGreatDoor
open Go.RowKit
set_option linter.unusedVariables false
set_option linter.unusedSimpArgs false

theorem readBody_msg (kd : Int) (h1 : 1 ≤ kd) (h6 : kd ≤ 6) (b : Nat) (w : World) (A : Nat → Addr) (B D : Nat) (st : RSt) (hs : Sents w A B) (h : Rd w b A B D st) :
    Calls Tryz.prog 63 #[.int .i64 kd, .pointer (some ⟨b, 0, none⟩)] w fun e w' => ∃ ev, e = .returned (.iface 63 (msgV kd (rdMsg st) ev)) ∧ OwnE w' w.heap.size ev (rdMsg st).es ∧ Rd w' b A B D (rdMsg st).left ∧ w.grownBy w' (some b) := by
  have n7 : (kd == 7) = false := by simp; omega
  have n8 : (kd == 8) = false := by simp; omega
  go_enter Tryz.func63, Tryz.ntmps63
  go_wp2_with (go_at_call 81; refine (msg_any b kd w A B D st hs h).mono ?_; rintro e w1 ⟨ev, rfl, ho, _, hr, hg⟩)
  go_ret
  exact ⟨ev, rfl, ho, hr, hg⟩

theorem msgBodyR_fault_any (kd : Int) (r : MsgR) (ev : Value) (w : World) (he : Es w ev r.es) (hl : r.es.length ≤ 1048576) :
    Calls Tryz.prog 114 #[msgV kd r ev] w fun e w' => e = .returned (.int .i64 (msgF kd r.fr r.tq r.tm r.li r.lt r.cm r.ok r.hi r.es)) ∧ Below w.heap.size w w' := by
  have HE : Hid (Es w ev r.es) := he
  obtain ⟨_, _, a, c, rfl, _⟩ := he
  unfold msgV
  go_enter Tryz.func114, Tryz.ntmps114
  go_wp2_with (go_at_call 116; refine (implMsgFault_any _ _ _ _ _ _ _ _ _ _ r.es _ (HE.out.below ((Below.refl _ _).alloc (Nat.le_refl _) _)) hl).mono ?_; rintro e w1 ⟨rfl, hb⟩)
  go_ret
  exact ⟨rfl, ((Below.refl _ _).alloc (Nat.le_refl _) _).trans (hb.mono (by simp))⟩

/-- code and fault of a message's frame -/
def msgC (l : List Int) : Nat × Int := decC l 1 6 (rdMsg (some (l.drop 9))).left (msgF (l[8]?.getD 0) (rdMsg (some (l.drop 9))).fr (rdMsg (some (l.drop 9))).tq (rdMsg (some (l.drop 9))).tm (rdMsg (some (l.drop 9))).li (rdMsg (some (l.drop 9))).lt (rdMsg (some (l.drop 9))).cm (rdMsg (some (l.drop 9))).ok (rdMsg (some (l.drop 9))).hi (rdMsg (some (l.drop 9))).es)
/-- what DecodeMsg answers -/
def msgAns (c : Nat × Int) (kd : Int) (r : MsgR) (ev : Value) : Value :=
  if c.1 = 0 then .agg #[.int .i64 0, .int .i64 0, .int .i64 kd, .int .i64 (r.fr : Nat), .int .i64 (r.tq : Nat), .int .i64 (r.tm : Nat), .int .i64 (r.li : Nat), .int .i64 (r.lt : Nat), .int .i64 (r.cm : Nat), .int .i64 (r.ok : Nat), .int .i64 (r.hi : Nat), ev] else .agg #[.int .i64 (c.1 : Nat), .int .i64 c.2, .int .i64 0, .int .i64 0, .int .i64 0, .int .i64 0, .int .i64 0, .int .i64 0, .int .i64 0, .int .i64 0, .int .i64 0, ev]
def msgEs (c : Nat × Int) (r : MsgR) : List Ent := if c.1 = 0 then r.es else []

theorem setCells_far (q : Nat) : ∀ (vs : List Value) (o : Nat) (w : World) (k : Nat), k ≠ q → (w.setCells q o vs).heap[k]? = w.heap[k]?
  | [], _, _, _, _ => rfl
  | v :: vs, o, w, k, h => (setCells_far q vs (o + 1) _ k h).trans (Below.heap_setCell _ _ _ _ h)
theorem heap_alloc_lt (w : World) (o : Obj) (k : Nat) (h : k < w.heap.size) : (w.alloc o).heap[k]? = w.heap[k]? := by
  show (w.heap.push o)[k]? = _
  rw [Array.getElem?_push, if_neg (by omega)]

theorem infoMAns : (Tryz.prog.info? 43).map (·.size) = some 12 := by kernel_rfl

theorem rdMsg_len (s : RSt) : (rdMsg s).es.length ≤ 32 := rdEnts_len _

theorem decodeMsg_body (a : Option Addr) (len c : Nat) (l : List Int) (w : World) (A : Nat → Addr) (B : Nat) (hs : Sents w A B) (hv : Bs w (.slice a len c) l) (hc : len ≤ c) :
    Calls Tryz.prog 39 #[.slice a len c, .int .i64 1, .int .i64 6] w fun e w' =>
      ((msgC l).1 = 0 → ∃ ea en ec, e = .returned (.tuple #[.iface 63 (msgV (l[8]?.getD 0) (rdMsg (some (l.drop 9))) (.slice ea en ec)), .nilIface]) ∧ OwnE w' w.heap.size (.slice ea en ec) (rdMsg (some (l.drop 9))).es) ∧
      ((msgC l).1 ≠ 0 → e = .returned (.tuple #[.nilIface, refV (A (msgC l).1) (msgC l).2])) ∧ Below w.heap.size w w' := by
  refine (decodeBody_msg a len c l 1 6 w A B hs hv hc (rdMsg (some (l.drop 9))).left (msgF (l[8]?.getD 0) (rdMsg (some (l.drop 9))).fr (rdMsg (some (l.drop 9))).tq (rdMsg (some (l.drop 9))).tm (rdMsg (some (l.drop 9))).li (rdMsg (some (l.drop 9))).lt (rdMsg (some (l.drop 9))).cm (rdMsg (some (l.drop 9))).ok (rdMsg (some (l.drop 9))).hi (rdMsg (some (l.drop 9))).es)
    (fun b w X => ∃ ev B', b < B' ∧ X = msgV (l[8]?.getD 0) (rdMsg (some (l.drop 9))) ev ∧ OwnE w B' ev (rdMsg (some (l.drop 9))).es) ?_ ?_ ?_).mono ?_
  · rintro b w w' X ⟨ev, B', hB', rfl, ho⟩ hg
    exact ⟨ev, B', hB', rfl, ho.grown hg hB'⟩
  · intro b w D hs hr hin
    have e8 := (inB_iff _ _ _).1 hin
    have h1 := hr.2.1
    have h2 := hr.2.2.1
    exact (readBody_msg _ e8.1 e8.2 b w A B D _ hs hr).mono fun e w' ⟨ev, h1, ho, h2, h3⟩ => ⟨_, h1, ⟨ev, w.heap.size, by omega, rfl, ho⟩, h2, h3⟩
  · rintro b w X ⟨ev, B', hB', rfl, ho⟩
    have hl := rdMsg_len (some (l.drop 9))
    exact msgBodyR_fault_any _ _ _ w (ho.es (by unfold maxLen; omega)) (by omega)
  · rintro e w' ⟨h0, h1, hb⟩
    refine ⟨fun h => ?_, h1, hb⟩
    obtain ⟨b, X, hbb, ⟨ev, B', hB', rfl, ho⟩, rfl⟩ := h0 h
    obtain ⟨ea, ec, rfl⟩ := ho.shape
    exact ⟨ea, _, ec, rfl, ho.le (by omega)⟩

set_option maxHeartbeats 4000000 in
set_option maxRecDepth 100000 in
theorem implDecMsg_any (a : Option Addr) (len c : Nat) (l : List Int) (w : World) (A : Nat → Addr) (B : Nat) (hs : Sents w A B) (hv : Bs w (.slice a len c) l) (hc : len ≤ c) :
    Calls Tryz.prog 16 #[.slice a len c] w fun e w' => ∃ ev, e = .returned (msgAns (msgC l) (l[8]?.getD 0) (rdMsg (some (l.drop 9))) ev) ∧ OwnE w' w.heap.size ev (msgEs (msgC l) (rdMsg (some (l.drop 9)))) ∧ Below w.heap.size w w' := by
  have HD : Hid (∀ w', Below w.heap.size w w' → Calls Tryz.prog 39 #[.slice a len c, .int .i64 1, .int .i64 6] w' fun e w'' =>
      ((msgC l).1 = 0 → ∃ ea en ec, e = .returned (.tuple #[.iface 63 (msgV (l[8]?.getD 0) (rdMsg (some (l.drop 9))) (.slice ea en ec)), .nilIface]) ∧ OwnE w'' w'.heap.size (.slice ea en ec) (rdMsg (some (l.drop 9))).es) ∧
      ((msgC l).1 ≠ 0 → e = .returned (.tuple #[.nilIface, refV (A (msgC l).1) (msgC l).2])) ∧ Below w'.heap.size w' w'') :=
    fun w' hb => decodeMsg_body a len c l w' A B (hs.below hb) (hv.below hb) hc
  have h6 := decC_le l 1 6 (rdMsg (some (l.drop 9))).left (msgF (l[8]?.getD 0) (rdMsg (some (l.drop 9))).fr (rdMsg (some (l.drop 9))).tq (rdMsg (some (l.drop 9))).tm (rdMsg (some (l.drop 9))).li (rdMsg (some (l.drop 9))).lt (rdMsg (some (l.drop 9))).cm (rdMsg (some (l.drop 9))).ok (rdMsg (some (l.drop 9))).hi (rdMsg (some (l.drop 9))).es)
  change (msgC l).1 ≤ 6 at h6
  clear hv
  unfold msgAns msgEs
  generalize (rdMsg (some (l.drop 9))) = r at *
  generalize (l[8]?.getD 0) = kd at *
  generalize msgC l = C at *
  by_cases h0 : C.1 = 0
  · simp only [if_pos h0]
    have HD' : Hid (∀ w', Below w.heap.size w w' → Calls Tryz.prog 39 #[.slice a len c, .int .i64 1, .int .i64 6] w' fun e w'' =>
      (∃ ea en ec, e = .returned (.tuple #[.iface 63 (msgV kd r (.slice ea en ec)), .nilIface]) ∧ OwnE w'' w'.heap.size (.slice ea en ec) r.es) ∧ Below w'.heap.size w' w'') :=
      fun w' hb => (HD.out w' hb).mono fun e w'' ⟨h1, _, h3⟩ => ⟨h1 h0, h3⟩
    clear HD
    have HD := HD'
    clear HD'
    go_enter Tryz.func16, Tryz.ntmps16
    go_wp2_with (first
      | (go_at_call 39; refine (HD.out _ (Below.alloc (Below.refl _ _) (Nat.le_refl _) _)).mono ?_; rintro e w1 ⟨⟨ea, en, ec, rfl, ho⟩, hb1⟩; have hB1 : Below w.heap.size w w1 := ((Below.refl _ _).alloc (Nat.le_refl _) _).trans (hb1.mono (by simp)); have hz1 : w.heap.size < w1.heap.size := (by have := hb1.size; simp at this; omega))
      | (go_at_call 38; refine (answerOf_msg kd r ea en ec _ A B (hs.below hB1)).mono ?_; rintro e w2 ⟨rfl, hb2⟩; have hz2 : w.heap.size < w2.heap.size := Nat.lt_of_lt_of_le hz1 hb2.size; have hB2 := hB1.trans (hb2.mono (Nat.le_of_lt hz1)); have hth := there_new (hb1.trans (hb2.mono hb1.size)) hz2 (.cells #[.int .i64 0, .int .i64 0, .int .i64 kd, .int .i64 (r.fr : Nat), .int .i64 (r.tq : Nat), .int .i64 (r.tm : Nat), .int .i64 (r.li : Nat), .int .i64 (r.lt : Nat), .int .i64 (r.cm : Nat), .int .i64 (r.ok : Nat), .int .i64 (r.hi : Nat), .slice ea en ec, .int .i64 0, .int .i64 0, .int .i64 0, .string ⟨#[]⟩, .string ⟨#[]⟩, .string ⟨#[]⟩, .int .i64 0, .int .i64 0, .int .i64 0, .int .i64 0, .string ⟨#[]⟩, .int .i64 0] 75); have hra := range_new w2 [.int .i64 0, .int .i64 0, .int .i64 kd, .int .i64 (r.fr : Nat), .int .i64 (r.tq : Nat), .int .i64 (r.tm : Nat), .int .i64 (r.li : Nat), .int .i64 (r.lt : Nat), .int .i64 (r.cm : Nat), .int .i64 (r.ok : Nat), .int .i64 (r.hi : Nat), .slice ea en ec, .int .i64 0, .int .i64 0, .int .i64 0, .string ⟨#[]⟩, .string ⟨#[]⟩, .string ⟨#[]⟩, .int .i64 0, .int .i64 0, .int .i64 0, .int .i64 0, .string ⟨#[]⟩, .int .i64 0] 75)
      | (refine gate_store 75 (.tmp 3) (.tmp 8) rfl ?_; refine wpl_store_new rfl 75 (.tmp 3) (.tmp 8) rfl #[.int .i64 0, .int .i64 0, .int .i64 0, .int .i64 0, .int .i64 0, .int .i64 0, .int .i64 0, .int .i64 0, .int .i64 0, .int .i64 0, .int .i64 0, .slice none 0 0, .int .i64 0, .int .i64 0, .int .i64 0, .string ⟨#[]⟩, .string ⟨#[]⟩, .string ⟨#[]⟩, .int .i64 0, .int .i64 0, .int .i64 0, .int .i64 0, .string ⟨#[]⟩, .int .i64 0] #[.int .i64 0, .int .i64 0, .int .i64 kd, .int .i64 (r.fr : Nat), .int .i64 (r.tq : Nat), .int .i64 (r.tm : Nat), .int .i64 (r.li : Nat), .int .i64 (r.lt : Nat), .int .i64 (r.cm : Nat), .int .i64 (r.ok : Nat), .int .i64 (r.hi : Nat), .slice ea en ec, .int .i64 0, .int .i64 0, .int .i64 0, .string ⟨#[]⟩, .string ⟨#[]⟩, .string ⟨#[]⟩, .int .i64 0, .int .i64 0, .int .i64 0, .int .i64 0, .string ⟨#[]⟩, .int .i64 0] rfl rfl infoAns rfl (by simp [Value.oneCell']) ?_)
      | (refine gate_load 27 (.tmp 13) rfl ?_; refine wpList_load_mid rfl 27 (.tmp 13) rfl w2.heap.size 2 rfl [.int .i64 kd, .int .i64 (r.fr : Nat), .int .i64 (r.tq : Nat), .int .i64 (r.tm : Nat), .int .i64 (r.li : Nat), .int .i64 (r.lt : Nat), .int .i64 (r.cm : Nat), .int .i64 (r.ok : Nat), .int .i64 (r.hi : Nat), .slice ea en ec] _ ((range_app (xs := [.int .i64 kd, .int .i64 (r.fr : Nat), .int .i64 (r.tq : Nat), .int .i64 (r.tm : Nat), .int .i64 (r.li : Nat), .int .i64 (r.lt : Nat), .int .i64 (r.cm : Nat), .int .i64 (r.ok : Nat), .int .i64 (r.hi : Nat), .slice ea en ec]) (ys := [.int .i64 0, .int .i64 0, .int .i64 0, .string ⟨#[]⟩, .string ⟨#[]⟩, .string ⟨#[]⟩, .int .i64 0, .int .i64 0, .int .i64 0, .int .i64 0, .string ⟨#[]⟩, .int .i64 0])).1 ((range_app (xs := [.int .i64 0, .int .i64 0]) (ys := [.int .i64 kd, .int .i64 (r.fr : Nat), .int .i64 (r.tq : Nat), .int .i64 (r.tm : Nat), .int .i64 (r.li : Nat), .int .i64 (r.lt : Nat), .int .i64 (r.cm : Nat), .int .i64 (r.ok : Nat), .int .i64 (r.hi : Nat), .slice ea en ec, .int .i64 0, .int .i64 0, .int .i64 0, .string ⟨#[]⟩, .string ⟨#[]⟩, .string ⟨#[]⟩, .int .i64 0, .int .i64 0, .int .i64 0, .int .i64 0, .string ⟨#[]⟩, .int .i64 0])).1 hra).2).1 Tryz.underlying27 rfl infoMsg ?_)
      | (refine gate_store 43 (.tmp 2) (.tmp 15) rfl ?_; refine wpList_store_mid rfl 43 (.tmp 2) (.tmp 15) rfl w.heap.size 0 #[.int .i64 0, .int .i64 0, .int .i64 kd, .int .i64 (r.fr : Nat), .int .i64 (r.tq : Nat), .int .i64 (r.tm : Nat), .int .i64 (r.li : Nat), .int .i64 (r.lt : Nat), .int .i64 (r.cm : Nat), .int .i64 (r.ok : Nat), .int .i64 (r.hi : Nat), .slice ea en ec] rfl rfl hth infoMAns (by simp [Value.oneCell']) ?_; have hra4 := World.rangeAt_setCells_same _ w.heap.size 0 [.int .i64 0, .int .i64 0, .int .i64 kd, .int .i64 (r.fr : Nat), .int .i64 (r.tq : Nat), .int .i64 (r.tm : Nat), .int .i64 (r.li : Nat), .int .i64 (r.lt : Nat), .int .i64 (r.cm : Nat), .int .i64 (r.ok : Nat), .int .i64 (r.hi : Nat), .slice ea en ec] hth; have hld := run_loadVar_mid (P := Tryz.prog) _ w.heap.size 0 43 _ _ hra4 Tryz.underlying43 rfl infoMAns; have hB4 := below_setCells (Nat.le_refl _) [.int .i64 0, .int .i64 0, .int .i64 kd, .int .i64 (r.fr : Nat), .int .i64 (r.tq : Nat), .int .i64 (r.tm : Nat), .int .i64 (r.li : Nat), .int .i64 (r.lt : Nat), .int .i64 (r.cm : Nat), .int .i64 (r.ok : Nat), .int .i64 (r.hi : Nat), .slice ea en ec] 0 _ (hB2.alloc (Nat.le_of_lt hz2) (.cells #[.int .i64 0, .int .i64 0, .int .i64 kd, .int .i64 (r.fr : Nat), .int .i64 (r.tq : Nat), .int .i64 (r.tm : Nat), .int .i64 (r.li : Nat), .int .i64 (r.lt : Nat), .int .i64 (r.cm : Nat), .int .i64 (r.ok : Nat), .int .i64 (r.hi : Nat), .slice ea en ec, .int .i64 0, .int .i64 0, .int .i64 0, .string ⟨#[]⟩, .string ⟨#[]⟩, .string ⟨#[]⟩, .int .i64 0, .int .i64 0, .int .i64 0, .int .i64 0, .string ⟨#[]⟩, .int .i64 0] 75)); have hB5' : ∀ k, w.heap.size + 1 ≤ k → k < w1.heap.size → (World.setCells (w2.alloc (.cells #[.int .i64 0, .int .i64 0, .int .i64 kd, .int .i64 (r.fr : Nat), .int .i64 (r.tq : Nat), .int .i64 (r.tm : Nat), .int .i64 (r.li : Nat), .int .i64 (r.lt : Nat), .int .i64 (r.cm : Nat), .int .i64 (r.ok : Nat), .int .i64 (r.hi : Nat), .slice ea en ec, .int .i64 0, .int .i64 0, .int .i64 0, .string ⟨#[]⟩, .string ⟨#[]⟩, .string ⟨#[]⟩, .int .i64 0, .int .i64 0, .int .i64 0, .int .i64 0, .string ⟨#[]⟩, .int .i64 0] 75)) w.heap.size 0 [.int .i64 0, .int .i64 0, .int .i64 kd, .int .i64 (r.fr : Nat), .int .i64 (r.tq : Nat), .int .i64 (r.tm : Nat), .int .i64 (r.li : Nat), .int .i64 (r.lt : Nat), .int .i64 (r.cm : Nat), .int .i64 (r.ok : Nat), .int .i64 (r.hi : Nat), .slice ea en ec]).heap[k]? = w1.heap[k]? := (fun k h1 h2 => (setCells_far w.heap.size _ 0 _ k (by omega)).trans ((heap_alloc_lt _ _ k (by have := hb2.size; omega)).trans (hb2.block k h2))); clear hra4 hth hra; generalize (World.setCells _ w.heap.size 0 _) = W4 at hld hB4 hB5' ⊢))
    have hB9 : ∀ k, (Value.slice ea en ec).ownBlock = some k → W4.heap[k]? = w1.heap[k]? := fun k hk => hB5' k (by have := (ho.2.lt k hk).1; simp at this; exact this) (ho.2.lt k hk).2
    refine bodyPost_ret (v := .agg #[.int .i64 0, .int .i64 0, .int .i64 kd, .int .i64 (r.fr : Nat), .int .i64 (r.tq : Nat), .int .i64 (r.tm : Nat), .int .i64 (r.li : Nat), .int .i64 (r.lt : Nat), .int .i64 (r.cm : Nat), .int .i64 (r.ok : Nat), .int .i64 (r.hi : Nat), .slice ea en ec]) ?_ rfl ⟨_, rfl, OwnE.le (ho.block (fun k hk => hB9 k hk)) (by simp), hB4⟩
    exact results_cell Tryz.results16 rfl hld
  · simp only [if_neg h0]
    obtain ⟨ci, cf⟩ := C
    simp only at HD h6 h0 ⊢
    have HD' : Hid (∀ w', Below w.heap.size w w' → Calls Tryz.prog 39 #[.slice a len c, .int .i64 1, .int .i64 6] w' fun e w'' =>
      e = .returned (.tuple #[.nilIface, refV (A ci) cf]) ∧ Below w'.heap.size w' w'') :=
      fun w' hb => (HD.out w' hb).mono fun e w'' ⟨_, h2, h3⟩ => ⟨h2 h0, h3⟩
    clear HD
    have HD := HD'
    clear HD'
    go_enter Tryz.func16, Tryz.ntmps16
    go_wp2_with (first
      | (go_at_call 39; refine (HD.out _ (Below.alloc (Below.refl _ _) (Nat.le_refl _) _)).mono ?_; rintro e w1 ⟨rfl, hb1⟩; have hB1 : Below w.heap.size w w1 := ((Below.refl _ _).alloc (Nat.le_refl _) _).trans (hb1.mono (by simp)); have hz1 : w.heap.size < w1.heap.size := (by have := hb1.size; simp at this; omega))
      | (go_at_call 38; refine (answerOf_err ci cf _ A B (hs.below hB1) (by omega) h6).mono ?_; rintro e w2 ⟨rfl, hb2⟩; have hz2 : w.heap.size < w2.heap.size := Nat.lt_of_lt_of_le hz1 hb2.size; have hB2 := hB1.trans (hb2.mono (Nat.le_of_lt hz1)); have hth := there_new (hb1.trans (hb2.mono hb1.size)) hz2 (.cells #[.int .i64 (ci : Nat), .int .i64 cf, .int .i64 0, .int .i64 0, .int .i64 0, .int .i64 0, .int .i64 0, .int .i64 0, .int .i64 0, .int .i64 0, .int .i64 0, .slice none 0 0, .int .i64 0, .int .i64 0, .int .i64 0, .string ⟨#[]⟩, .string ⟨#[]⟩, .string ⟨#[]⟩, .int .i64 0, .int .i64 0, .int .i64 0, .int .i64 0, .string ⟨#[]⟩, .int .i64 0] 75); have hra := range_new w2 [.int .i64 (ci : Nat), .int .i64 cf, .int .i64 0, .int .i64 0, .int .i64 0, .int .i64 0, .int .i64 0, .int .i64 0, .int .i64 0, .int .i64 0, .int .i64 0, .slice none 0 0, .int .i64 0, .int .i64 0, .int .i64 0, .string ⟨#[]⟩, .string ⟨#[]⟩, .string ⟨#[]⟩, .int .i64 0, .int .i64 0, .int .i64 0, .int .i64 0, .string ⟨#[]⟩, .int .i64 0] 75)
      | (refine gate_store 75 (.tmp 3) (.tmp 8) rfl ?_; refine wpl_store_new rfl 75 (.tmp 3) (.tmp 8) rfl #[.int .i64 0, .int .i64 0, .int .i64 0, .int .i64 0, .int .i64 0, .int .i64 0, .int .i64 0, .int .i64 0, .int .i64 0, .int .i64 0, .int .i64 0, .slice none 0 0, .int .i64 0, .int .i64 0, .int .i64 0, .string ⟨#[]⟩, .string ⟨#[]⟩, .string ⟨#[]⟩, .int .i64 0, .int .i64 0, .int .i64 0, .int .i64 0, .string ⟨#[]⟩, .int .i64 0] #[.int .i64 (ci : Nat), .int .i64 cf, .int .i64 0, .int .i64 0, .int .i64 0, .int .i64 0, .int .i64 0, .int .i64 0, .int .i64 0, .int .i64 0, .int .i64 0, .slice none 0 0, .int .i64 0, .int .i64 0, .int .i64 0, .string ⟨#[]⟩, .string ⟨#[]⟩, .string ⟨#[]⟩, .int .i64 0, .int .i64 0, .int .i64 0, .int .i64 0, .string ⟨#[]⟩, .int .i64 0] rfl rfl infoAns rfl (by simp [Value.oneCell']) ?_)
      | (refine gate_load 27 (.tmp 13) rfl ?_; refine wpList_load_mid rfl 27 (.tmp 13) rfl w2.heap.size 2 rfl [.int .i64 0, .int .i64 0, .int .i64 0, .int .i64 0, .int .i64 0, .int .i64 0, .int .i64 0, .int .i64 0, .int .i64 0, .slice none 0 0] _ ((range_app (xs := [.int .i64 0, .int .i64 0, .int .i64 0, .int .i64 0, .int .i64 0, .int .i64 0, .int .i64 0, .int .i64 0, .int .i64 0, .slice none 0 0]) (ys := [.int .i64 0, .int .i64 0, .int .i64 0, .string ⟨#[]⟩, .string ⟨#[]⟩, .string ⟨#[]⟩, .int .i64 0, .int .i64 0, .int .i64 0, .int .i64 0, .string ⟨#[]⟩, .int .i64 0])).1 ((range_app (xs := [.int .i64 (ci : Nat), .int .i64 cf]) (ys := [.int .i64 0, .int .i64 0, .int .i64 0, .int .i64 0, .int .i64 0, .int .i64 0, .int .i64 0, .int .i64 0, .int .i64 0, .slice none 0 0, .int .i64 0, .int .i64 0, .int .i64 0, .string ⟨#[]⟩, .string ⟨#[]⟩, .string ⟨#[]⟩, .int .i64 0, .int .i64 0, .int .i64 0, .int .i64 0, .string ⟨#[]⟩, .int .i64 0])).1 hra).2).1 Tryz.underlying27 rfl infoMsg ?_)
      | (refine gate_store 43 (.tmp 2) (.tmp 15) rfl ?_; refine wpList_store_mid rfl 43 (.tmp 2) (.tmp 15) rfl w.heap.size 0 #[.int .i64 (ci : Nat), .int .i64 cf, .int .i64 0, .int .i64 0, .int .i64 0, .int .i64 0, .int .i64 0, .int .i64 0, .int .i64 0, .int .i64 0, .int .i64 0, .slice none 0 0] rfl rfl hth infoMAns (by simp [Value.oneCell']) ?_; have hra4 := World.rangeAt_setCells_same _ w.heap.size 0 [.int .i64 (ci : Nat), .int .i64 cf, .int .i64 0, .int .i64 0, .int .i64 0, .int .i64 0, .int .i64 0, .int .i64 0, .int .i64 0, .int .i64 0, .int .i64 0, .slice none 0 0] hth; have hld := run_loadVar_mid (P := Tryz.prog) _ w.heap.size 0 43 _ _ hra4 Tryz.underlying43 rfl infoMAns; have hB4 := below_setCells (Nat.le_refl _) [.int .i64 (ci : Nat), .int .i64 cf, .int .i64 0, .int .i64 0, .int .i64 0, .int .i64 0, .int .i64 0, .int .i64 0, .int .i64 0, .int .i64 0, .int .i64 0, .slice none 0 0] 0 _ (hB2.alloc (Nat.le_of_lt hz2) (.cells #[.int .i64 (ci : Nat), .int .i64 cf, .int .i64 0, .int .i64 0, .int .i64 0, .int .i64 0, .int .i64 0, .int .i64 0, .int .i64 0, .int .i64 0, .int .i64 0, .slice none 0 0, .int .i64 0, .int .i64 0, .int .i64 0, .string ⟨#[]⟩, .string ⟨#[]⟩, .string ⟨#[]⟩, .int .i64 0, .int .i64 0, .int .i64 0, .int .i64 0, .string ⟨#[]⟩, .int .i64 0] 75)); have hB5' : ∀ k, w.heap.size + 1 ≤ k → k < w1.heap.size → (World.setCells (w2.alloc (.cells #[.int .i64 (ci : Nat), .int .i64 cf, .int .i64 0, .int .i64 0, .int .i64 0, .int .i64 0, .int .i64 0, .int .i64 0, .int .i64 0, .int .i64 0, .int .i64 0, .slice none 0 0, .int .i64 0, .int .i64 0, .int .i64 0, .string ⟨#[]⟩, .string ⟨#[]⟩, .string ⟨#[]⟩, .int .i64 0, .int .i64 0, .int .i64 0, .int .i64 0, .string ⟨#[]⟩, .int .i64 0] 75)) w.heap.size 0 [.int .i64 (ci : Nat), .int .i64 cf, .int .i64 0, .int .i64 0, .int .i64 0, .int .i64 0, .int .i64 0, .int .i64 0, .int .i64 0, .int .i64 0, .int .i64 0, .slice none 0 0]).heap[k]? = w1.heap[k]? := (fun k h1 h2 => (setCells_far w.heap.size _ 0 _ k (by omega)).trans ((heap_alloc_lt _ _ k (by have := hb2.size; omega)).trans (hb2.block k h2))); clear hra4 hth hra; generalize (World.setCells _ w.heap.size 0 _) = W4 at hld hB4 hB5' ⊢))
    refine bodyPost_ret (v := .agg #[.int .i64 (ci : Nat), .int .i64 cf, .int .i64 0, .int .i64 0, .int .i64 0, .int .i64 0, .int .i64 0, .int .i64 0, .int .i64 0, .int .i64 0, .int .i64 0, .slice none 0 0]) ?_ rfl ⟨_, rfl, OwnE.nil _ _, hB4⟩
    exact results_cell Tryz.results16 rfl hld
end Go.Proofs.YtafmjckpbcijoaaGreatDoor
