/-
  A plan's answer as a law takes it: eq, mark, held.
-/
import Derived.Test.YtjhkfjmgdkcipadRecsOwn
import Derived.Test.YtjhkfjmgdkcipadRecEqL
import Derived.Test.YtjhkfjmgdkcipadHeldR
namespace Go.Proofs.Ytjhkfjmgdkcipad
open Go.RowKit
set_option linter.unusedVariables false

/-- records of one's own in the span [lo, hi) -/
structure RecsR (lo hi : Nat) (w : World) (v : Value) (l : List Rec) : Prop where
  own : OwnR w lo v l
  lt : ∀ k, v.ownBlock = some k → lo ≤ k ∧ k < hi
theorem RecsR.of {w : World} {lo : Nat} {v : Value} {l : List Rec} (h : OwnR w lo v l) : RecsR lo w.heap.size w v l := ⟨h, fun k e => h.lt k e⟩
theorem RecsR.keep {w w' : World} {lo hi : Nat} {v : Value} {l : List Rec} (h : RecsR lo hi w v l) (hk : ∀ k, lo ≤ k → k < hi → w'.heap[k]? = w.heap[k]?) : RecsR lo hi w' v l :=
  ⟨h.own.keep fun k e => hk k (h.lt k e).1 (h.lt k e).2, h.lt⟩
theorem RecsR.wide {w : World} {lo hi lo' hi' : Nat} {v : Value} {l : List Rec} (h : RecsR lo hi w v l) (h1 : lo' ≤ lo) (h2 : hi ≤ hi') : RecsR lo' hi' w v l := by
  refine ⟨⟨h.own.1, ?_⟩, fun k e => by have := h.lt k e; omega⟩
  rcases h.own.2 with h' | ⟨g, cap, cur, hv, hg, r⟩
  · exact .inl h'
  · exact .inr ⟨g, cap, cur, hv, Nat.le_trans h1 hg, r⟩
/-- marked records in the span [lo, hi) -/
structure RecsM (lo hi : Nat) (w : World) (a : Option Addr) (n : Nat) : Prop where
  at_ : 0 < n → ∃ q, a = some ⟨q, 0, none⟩ ∧ lo ≤ q ∧ q < hi ∧ q < w.heap.size ∧ MkG mkRec 11 w q n 1 n 0
theorem RecsM.keep {w w' : World} {lo hi : Nat} {a : Option Addr} {n : Nat} (h : RecsM lo hi w a n) (hk : ∀ k, lo ≤ k → k < hi → w'.heap[k]? = w.heap[k]?) : RecsM lo hi w' a n :=
  ⟨fun h0 => by
    obtain ⟨q, e, h1, h2, h3, h4⟩ := h.at_ h0
    have hb := hk q h1 h2
    refine ⟨q, e, h1, h2, ?_, h4.keep hb⟩
    rcases Nat.lt_or_ge q w'.heap.size with h' | h'
    · exact h'
    · rw [Array.getElem?_eq_none h', Array.getElem?_eq_getElem h3] at hb
      cases hb⟩
theorem OwnR.thereR {w : World} {B : Nat} {v : Value} {l : List Rec} (h : OwnR w B v l) (hl : 0 < l.length) : ∃ g cap, v = .slice (some ⟨g, 0, none⟩) l.length cap ∧ w.there g 0 (l.length * 11) ∧ g < w.heap.size := by
  obtain ⟨g, cap, rfl⟩ := h.shape' hl
  refine ⟨g, cap, rfl, fun j hj => ?_, (h.lt g rfl).2⟩
  rw [Nat.zero_add]
  refine ⟨?_, h.frozenAt j⟩
  have hx := h.cellAt j hj
  rw [hx]
  rw [List.getElem?_eq_getElem (by rw [recCells_len]; exact hj)]
  rfl

theorem markRecordS_zero (a : Option Addr) (cap k0 : Nat) (w : World) :
    Calls Try.prog 58 #[.slice a 0 cap, .int .i64 k0] w fun r w' => r = .returned (.int .i64 k0) ∧ w' = w := by
  go_enter Try.func58, Try.ntmps58
  go_wp2
  refine wp_loop_rounds 1 ?_
  rw [rounds_succ]
  go_wp2
  go_ret
  exact ⟨rfl, rfl⟩

theorem markRecordS_own (v : Value) (l : List Rec) (w : World) {lo hi : Nat} (hv : RecsR lo hi w v l) (hl : l.length ≤ 1048576) :
    Calls Try.prog 58 #[v, .int .i64 1] w fun r w' => r = .returned (.int .i64 ((1 + 11 * l.length : Nat) : Int)) ∧ (∃ a cap, v = .slice a l.length cap ∧ RecsM lo hi w' a l.length) ∧ Turned lo hi w w' := by
  by_cases h0 : 0 < l.length
  · obtain ⟨g, cap, rfl, ht, hg⟩ := hv.own.thereR h0
    have hb := hv.lt g rfl
    refine (markRecordS_is 1 (by omega) g l.length cap w ht hg hl).mono ?_
    rintro r w' ⟨rfl, hm, hgm⟩
    exact ⟨rfl, ⟨_, _, rfl, ⟨fun _ => ⟨g, rfl, hb.1, hb.2, Nat.lt_of_lt_of_le hg hgm.size, hm⟩⟩⟩, .grown hgm hb.1 hb.2⟩
  · obtain ⟨a, cap, rfl⟩ := hv.own.shape
    have e : l.length = 0 := by omega
    rw [e]
    refine (markRecordS_zero a cap 1 w).mono ?_
    rintro r w' ⟨rfl, rfl⟩
    exact ⟨rfl, ⟨_, _, rfl, ⟨fun h => by omega⟩⟩, .of_below lo hi (Below.refl _ _)⟩

set_option maxHeartbeats 1000000 in
set_option maxRecDepth 100000 in
theorem eqPlanAnswer_u (k : Int) (a a' : Option Addr) (n n' cap cap' : Nat) (l : List Rec) (w : World) {lo hi lo' hi' : Nat} (hv : RecsR lo hi w (.slice a n cap) l) (hu : RecsR lo' hi' w (.slice a' n' cap') l) (hl : l.length ≤ maxLen) :
    Calls Try.prog 17 #[.agg #[.int .i64 k, .slice a n cap], .agg #[.int .i64 k, .slice a' n' cap']] w fun e w' => e = .returned (.bool true) ∧ Below w.heap.size w w' := by
  have HT : Hid (∀ w', Below w.heap.size w w' → Calls Try.prog 57 #[.slice a n cap, .slice a' n' cap'] w' fun e w'' => e = .returned (.bool true) ∧ Below w'.heap.size w' w'') := fun w' hb => eqRecordS_same _ _ l w' ((hv.own.sl hl).below hb) ((hu.own.sl hl).below hb)
  have hb0 : Hid (Below w.heap.size w ((w.alloc (.cells #[.int .i64 k, .slice a n cap] 46)).alloc (.cells #[.int .i64 k, .slice a' n' cap'] 46))) := ((Below.refl _ _).alloc (Nat.le_refl _) _).alloc (by simp) _
  clear hv hu
  go_enter Try.func17, Try.ntmps17
  go_wp2_with (go_at_call 57; refine (HT.out _ hb0.out).mono ?_; rintro e w1 ⟨rfl, hb1⟩)
  go_ret
  exact ⟨rfl, hb0.out.trans (hb1.mono (by simp; omega))⟩

set_option maxHeartbeats 1000000 in
set_option maxRecDepth 100000 in
theorem markPlanAnswer_u (k : Int) (a : Option Addr) (cap : Nat) (l : List Rec) (w : World) {lo hi : Nat} (hv : RecsR lo hi w (.slice a l.length cap) l) (hhi : hi ≤ w.heap.size) (hl : l.length ≤ 1048576) :
    Calls Try.prog 20 #[.agg #[.int .i64 k, .slice a l.length cap], .int .i64 1] w fun e w' => e = .returned (.int .i64 ((1 + 11 * l.length : Nat) : Int)) ∧ RecsM lo hi w' a l.length ∧ Turned lo hi w w' := by
  have HT : Hid (∀ w', Below w.heap.size w w' → Calls Try.prog 58 #[.slice a l.length cap, .int .i64 1] w' fun e w'' => e = .returned (.int .i64 ((1 + 11 * l.length : Nat) : Int)) ∧ RecsM lo hi w'' a l.length ∧ Turned lo hi w' w'') := fun w' hb =>
    (markRecordS_own _ l w' (hv.keep fun k _ h2 => hb.block k (by omega)) hl).mono fun e w'' ⟨h1, ⟨a', cap', h2, h3⟩, h4⟩ => by
      injection h2 with e1 e2 e3
      subst e1
      exact ⟨h1, h3, h4⟩
  have hb0 : Hid (Below w.heap.size w (w.alloc (.cells #[.int .i64 k, .slice a l.length cap] 46))) := (Below.refl _ _).alloc (Nat.le_refl _) _
  clear hv
  go_enter Try.func20, Try.ntmps20
  go_wp2_with (go_at_call 58; refine (HT.out _ hb0.out).mono ?_; rintro e w1 ⟨rfl, ho1, hg1⟩)
  go_ret
  exact ⟨rfl, ho1, (Turned.of_below lo hi hb0.out).trans hg1⟩

set_option maxHeartbeats 1000000 in
set_option maxRecDepth 100000 in
theorem heldPlanAnswer_u (k : Int) (a : Option Addr) (cap n : Nat) (w : World) {lo hi : Nat} (hv : RecsM lo hi w a n) (hn : n ≤ 1048576) :
    Calls Try.prog 21 #[.agg #[.int .i64 k, .slice a n cap], .int .i64 1] w fun e w' => e = .returned (.int .i64 ((1 + 11 * n : Nat) : Int)) ∧ Below w.heap.size w w' := by
  have HT : Hid (∀ w', Below w.heap.size w w' → Calls Try.prog 59 #[.slice a n cap, .int .i64 1] w' fun e w'' => e = .returned (.int .i64 ((1 + 11 * n : Nat) : Int)) ∧ Below w'.heap.size w' w'') := fun w' hb =>
    heldRecordS_is a n cap w' (by omega) fun h0 => by
      obtain ⟨q, e, h1, h2, h3, h4⟩ := hv.at_ h0
      exact ⟨q, e, Nat.lt_of_lt_of_le h3 hb.size, fun i hi' s v hs => (hb.cell (p := ⟨q, i * 11 + s, none⟩) h3).trans (h4.old i hi' s v hs)⟩
  have hb0 : Hid (Below w.heap.size w (w.alloc (.cells #[.int .i64 k, .slice a n cap] 46))) := (Below.refl _ _).alloc (Nat.le_refl _) _
  clear hv
  go_enter Try.func21, Try.ntmps21
  go_wp2_with (go_at_call 59; refine (HT.out _ hb0.out).mono ?_; rintro e w1 ⟨rfl, hb1⟩)
  go_ret
  exact ⟨rfl, hb0.out.trans (hb1.mono (by simp))⟩
end Go.Proofs.Ytjhkfjmgdkcipad
