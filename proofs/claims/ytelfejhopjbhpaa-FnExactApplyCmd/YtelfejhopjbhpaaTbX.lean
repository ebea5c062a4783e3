/-
  A table whose rows' spans are named.
-/
import Derived.Test.YtelfejhopjbhpaaTbU
namespace Go.Proofs.Ytelfejhopjbhpaa
open Go.RowKit Go.Maps
set_option linter.unusedVariables false
set_option linter.unusedSimpArgs false

/-- of the blocks that were there, only those of two spans have turned -/
structure Turned2 (l1 h1 l2 h2 : Nat) (w w' : World) : Prop where
  os : w'.os = w.os
  tape : w'.tape = w.tape
  output : w'.output = w.output
  size : w.heap.size ≤ w'.heap.size
  block : ∀ k, k < w.heap.size → (k < l1 ∨ h1 ≤ k) → (k < l2 ∨ h2 ≤ k) → w'.heap[k]? = w.heap[k]?
theorem Turned2.below {l1 h1 l2 h2 B : Nat} {w w' : World} (h : Turned2 l1 h1 l2 h2 w w') (h1' : B ≤ l1) (h2' : B ≤ l2) (hs : B ≤ w.heap.size) : Below B w w' := ⟨h.os, h.tape, h.output, h.size, fun k hk => h.block k (by omega) (by omega) (by omega)⟩
structure TabX (l1 h1 l2 h2 : Nat) (w : World) (v u : Value) (ps : List Pr) (ss : List Se) : Prop where
  prs : RowR prC 2 l1 h1 w v ps
  ses : RowR seC 4 l2 h2 w u ss
  d : h1 ≤ l2 ∨ h2 ≤ l1
theorem TabX.keep {l1 h1 l2 h2 : Nat} {w w' : World} {v u : Value} {ps : List Pr} {ss : List Se} (h : TabX l1 h1 l2 h2 w v u ps ss) (hk : ∀ k, (l1 ≤ k ∧ k < h1) ∨ (l2 ≤ k ∧ k < h2) → w'.heap[k]? = w.heap[k]?) : TabX l1 h1 l2 h2 w' v u ps ss :=
  ⟨h.prs.keep fun k a b => hk k (.inl ⟨a, b⟩), h.ses.keep fun k a b => hk k (.inr ⟨a, b⟩), h.d⟩
theorem TabX.r {l1 h1 l2 h2 lo hi : Nat} {w : World} {v u : Value} {ps : List Pr} {ss : List Se} (h : TabX l1 h1 l2 h2 w v u ps ss) (g1 : lo ≤ l1) (g2 : l1 ≤ h1) (g3 : h1 ≤ hi) (g4 : lo ≤ l2) (g5 : l2 ≤ h2) (g6 : h2 ≤ hi) : TabR lo hi w v u ps ss := ⟨l1, h1, l2, h2, g1, g2, g3, g4, g5, g6, h.d, h.prs, h.ses⟩
theorem OwnG.ne_blk {α : Type} {cs : α → List Value} {m : Nat} {T : TypeId} {w : World} {B : Nat} {v : Value} {l : List α} {b : Nat} {C : Array Value} {t : TypeId} (h : OwnG cs m T w B v l) (hb : Blk w b C t) (ht : t ≠ T) : v.ownBlock ≠ some b := by
  rcases h.2 with ⟨rfl, _⟩ | ⟨g, cap, cur, rfl, _, hh, _⟩
  · intro e; cases e
  · intro e
    injection e with e
    subst e
    rw [show w.heap[g]? = _ from hb] at hh
    injection hh with hh
    injection hh with _ h2 _
    exact ht h2
theorem TabO.below {w w' : World} {B : Nat} {v u : Value} {ps : List Pr} {ss : List Se} (h : TabO w B v u ps ss) (hb : Below w.heap.size w w') : TabO w' B v u ps ss := ⟨h.prs.below hb, h.ses.below hb, h.apart⟩
theorem TabO.le {w : World} {B B' : Nat} {v u : Value} {ps : List Pr} {ss : List Se} (h : TabO w B v u ps ss) (hb : B' ≤ B) : TabO w B' v u ps ss := ⟨h.prs.le hb, h.ses.le hb, h.apart⟩
theorem TabO.row {w : World} {B p : Nat} {v u : Value} {ps : List Pr} {ss : List Se} (h : TabO w B v u ps ss) {C : Array Value} (hb : Blk w p C 37) (C' : Array Value) : TabO (w.setRow p C') B v u ps ss :=
  ⟨h.prs.block fun k e => setRow_other _ _ _ _ (fun e' => h.prs.ne_blk hb (by decide) (by rw [e, e'])), h.ses.block fun k e => setRow_other _ _ _ _ (fun e' => h.ses.ne_blk hb (by decide) (by rw [e, e'])), h.apart⟩
/-- its rows, each in a span of its own that leaves block p out -/
theorem TabO.x {w : World} {B p : Nat} {v u : Value} {ps : List Pr} {ss : List Se} (h : TabO w B v u ps ss) (hn : ps.length ≤ maxLen) (hm : ss.length ≤ maxLen) (hB : B ≤ w.heap.size) {C : Array Value} (hb : Blk w p C 37) :
    ∃ l1 h1 l2 h2, (B ≤ l1 ∧ l1 ≤ h1 ∧ h1 ≤ w.heap.size) ∧ (B ≤ l2 ∧ l2 ≤ h2 ∧ h2 ≤ w.heap.size) ∧ ((p < l1 ∨ h1 ≤ p) ∧ (p < l2 ∨ h2 ≤ p)) ∧ TabX l1 h1 l2 h2 w v u ps ss := by
  have n1 := h.prs.ne_blk hb (by decide)
  have n2 := h.ses.ne_blk hb (by decide)
  obtain ⟨l1, h1, g1, g2, g3, g4, hP⟩ := h.prs.r prLaw hn hB
  obtain ⟨l2, h2, g5, g6, g7, g8, hS⟩ := h.ses.r seLaw hm hB
  have q1 : p < l1 ∨ h1 ≤ p := by
    rcases Nat.lt_or_ge p l1 with a | a
    · exact .inl a
    · rcases Nat.lt_or_ge p h1 with b | b
      · exact absurd (g4 p a b) n1
      · exact .inr b
  have q2 : p < l2 ∨ h2 ≤ p := by
    rcases Nat.lt_or_ge p l2 with a | a
    · exact .inl a
    · rcases Nat.lt_or_ge p h2 with b | b
      · exact absurd (g8 p a b) n2
      · exact .inr b
  by_cases e1 : l1 = h1
  · subst e1
    refine ⟨B, B, l2, h2, ⟨Nat.le_refl _, Nat.le_refl _, hB⟩, ⟨g5, g6, g7⟩, ⟨by omega, q2⟩, ⟨hP.len, hP.sh, fun h0 => ?_⟩, hS, .inl g5⟩
    obtain ⟨q, cap, e, u1, u2, _⟩ := hP.row h0
    omega
  by_cases e2 : l2 = h2
  · subst e2
    refine ⟨l1, h1, B, B, ⟨g1, g2, g3⟩, ⟨Nat.le_refl _, Nat.le_refl _, hB⟩, ⟨q1, by omega⟩, hP, ⟨hS.len, hS.sh, fun h0 => ?_⟩, .inr g1⟩
    obtain ⟨q, cap, e, u1, u2, _⟩ := hS.row h0
    omega
  have d1 := g4 l1 (Nat.le_refl _) (by omega)
  have d2 := g8 l2 (Nat.le_refl _) (by omega)
  have d3 := g4 (h1 - 1) (by omega) (by omega)
  have d4 := g8 (h2 - 1) (by omega) (by omega)
  have e3 : l1 = h1 - 1 := by rw [d1] at d3; injection d3
  have e4 : l2 = h2 - 1 := by rw [d2] at d4; injection d4
  have e5 : l1 ≠ l2 := fun e => h.apart l2 d2 (by rw [← e]; exact d1)
  exact ⟨l1, h1, l2, h2, ⟨g1, g2, g3⟩, ⟨g5, g6, g7⟩, ⟨q1, q2⟩, hP, hS, by omega⟩

set_option maxHeartbeats 2000000 in
set_option maxRecDepth 100000 in
theorem markTable_x (va : Option Addr) (vc : Nat) (ua : Option Addr) (uc : Nat) (ps : List Pr) (ss : List Se) (w : World) {l1 h1 l2 h2 : Nat} (h : TabX l1 h1 l2 h2 w (.slice va ps.length vc) (.slice ua ss.length uc) ps ss) (g3 : h1 ≤ w.heap.size) (g6 : h2 ≤ w.heap.size) (hn : ps.length ≤ 1048576) (hm : ss.length ≤ 1048576) :
    Calls Try.prog 16 #[.agg #[.slice va ps.length vc, .slice ua ss.length uc], .int .i64 1] w fun e w' => e = .returned (.int .i64 ((1 + 2 * ps.length + 4 * ss.length : Nat) : Int)) ∧ TabX l1 h1 l2 h2 w' (.slice va ps.length vc) (.slice ua ss.length uc) (mkPrs 1 ps.length) (mkSes (1 + 2 * ps.length) ss.length) ∧ Turned2 l1 h1 l2 h2 w w' := by
  obtain ⟨hP, hS, g7⟩ := h
  have HP : Hid (∀ w', Below w.heap.size w w' → Calls Try.prog 42 #[.slice va ps.length vc, .int .i64 1] w' fun r w'' => r = .returned (.int .i64 ((1 + 2 * ps.length : Nat) : Int)) ∧ RowR prC 2 l1 h1 w'' (.slice va ps.length vc) (mkPrs 1 ps.length) ∧ Turned l1 h1 w' w'') := fun w' hb => markPairS_u _ ps 1 1 rfl w' (hP.keep fun k a b => hb.block k (by omega)) hn (by omega)
  have HS : Hid (∀ w' w'', Below w.heap.size w w' → Turned l1 h1 w' w'' → ∀ z : Int, z = ((1 + 2 * ps.length : Nat) : Int) → Calls Try.prog 43 #[.slice ua ss.length uc, .int .i64 z] w'' fun r w3 => r = .returned (.int .i64 ((1 + 2 * ps.length + 4 * ss.length : Nat) : Int)) ∧ RowR seC 4 l2 h2 w3 (.slice ua ss.length uc) (mkSes (1 + 2 * ps.length) ss.length) ∧ Turned l2 h2 w'' w3) := fun w' w'' hb ht z hz => by
    have := hb.size
    exact markSessionS_u _ ss z (1 + 2 * ps.length) hz w'' ((hS.keep fun k a b => hb.block k (by omega)).far ht (by omega) (by omega)) hm (by omega)
  have HF : Hid (∀ w' w'' w3, Below w.heap.size w w' → RowR prC 2 l1 h1 w'' (.slice va ps.length vc) (mkPrs 1 ps.length) → Turned l1 h1 w' w'' → RowR seC 4 l2 h2 w3 (.slice ua ss.length uc) (mkSes (1 + 2 * ps.length) ss.length) → Turned l2 h2 w'' w3 → TabX l1 h1 l2 h2 w3 (.slice va ps.length vc) (.slice ua ss.length uc) (mkPrs 1 ps.length) (mkSes (1 + 2 * ps.length) ss.length) ∧ Turned2 l1 h1 l2 h2 w w3) := fun w' w'' w3 hb hP' t1 hS' t2 => by
    have z1 := hb.size
    have z2 := t1.size
    exact ⟨⟨hP'.far t2 (by omega) (by omega), hS', g7⟩, t2.os.trans (t1.os.trans hb.os), t2.tape.trans (t1.tape.trans hb.tape), t2.output.trans (t1.output.trans hb.output), Nat.le_trans z1 (Nat.le_trans z2 t2.size), fun k hk a b => by rw [t2.block k (by omega) (by omega), t1.block k (by omega) (by omega), hb.block k hk]⟩
  clear hP hS
  have hb0 : Hid (Below w.heap.size w (w.alloc (.cells #[.slice va ps.length vc, .slice ua ss.length uc] 29))) := (Below.refl _ _).alloc (Nat.le_refl _) _
  go_enter Try.func16, Try.ntmps16
  go_wp2_with (first
    | (go_at_call 42; refine (HP.out _ hb0.out).mono ?_; rintro e w1 ⟨rfl, hr1, ht1⟩; have HR1 : Hid (RowR prC 2 l1 h1 w1 (.slice va ps.length vc) (mkPrs 1 ps.length)) := hr1; have HT1 : Hid (Turned l1 h1 _ w1) := ht1; have x1 : w1.cell? ⟨w.heap.size, 1, none⟩ = some (.slice ua ss.length uc) := (ht1.cell (b := w.heap.size) (o := 1) (by simp) (Or.inr g3)).trans (by simp [go_sem]); clear hr1 ht1)
    | (go_at_call 43; refine (HS.out _ _ hb0.out HT1.out _ (by omega)).mono ?_; rintro e w2 ⟨rfl, hr2, ht2⟩; have HH : Hid (_ ∧ _) := HF.out _ _ _ hb0.out HR1.out HT1.out hr2 ht2; clear hr2 ht2))
  go_ret
  exact ⟨rfl, HH.out.1, HH.out.2⟩
set_option maxHeartbeats 2000000 in
set_option maxRecDepth 100000 in
theorem markApplyAnswer_x (cd rs : Int) (tv : ByteArray) (va : Option Addr) (vc : Nat) (ua : Option Addr) (uc : Nat) (ps : List Pr) (ss : List Se) (w : World) {l1 h1 l2 h2 : Nat} (h : TabX l1 h1 l2 h2 w (.slice va ps.length vc) (.slice ua ss.length uc) ps ss) (g3 : h1 ≤ w.heap.size) (g6 : h2 ≤ w.heap.size) (hn : ps.length ≤ 1048576) (hm : ss.length ≤ 1048576) :
    Calls Try.prog 24 #[.agg #[.int .i64 cd, .int .i64 rs, .string tv, .slice va ps.length vc, .slice ua ss.length uc], .int .i64 1] w fun e w' => e = .returned (.int .i64 ((1 + 2 * ps.length + 4 * ss.length : Nat) : Int)) ∧ TabX l1 h1 l2 h2 w' (.slice va ps.length vc) (.slice ua ss.length uc) (mkPrs 1 ps.length) (mkSes (1 + 2 * ps.length) ss.length) ∧ Turned2 l1 h1 l2 h2 w w' := by
  have HT : Hid (∀ w', Below w.heap.size w w' → Calls Try.prog 16 #[.agg #[.slice va ps.length vc, .slice ua ss.length uc], .int .i64 1] w' fun e w'' => e = .returned (.int .i64 ((1 + 2 * ps.length + 4 * ss.length : Nat) : Int)) ∧ TabX l1 h1 l2 h2 w'' (.slice va ps.length vc) (.slice ua ss.length uc) (mkPrs 1 ps.length) (mkSes (1 + 2 * ps.length) ss.length) ∧ Turned2 l1 h1 l2 h2 w w'') := fun w' hb => (markTable_x _ _ _ _ ps ss w' (h.keep fun k a => hb.block k (by omega)) (Nat.le_trans g3 hb.size) (Nat.le_trans g6 hb.size) hn hm).mono fun e w'' hh => ⟨hh.1, hh.2.1, hh.2.2.os.trans hb.os, hh.2.2.tape.trans hb.tape, hh.2.2.output.trans hb.output, Nat.le_trans hb.size hh.2.2.size, fun k hk a b => by rw [hh.2.2.block k (Nat.lt_of_lt_of_le hk hb.size) a b, hb.block k hk]⟩
  clear h
  have hb0 : Hid (Below w.heap.size w (w.alloc (.cells #[.int .i64 cd, .int .i64 rs, .string tv, .slice va ps.length vc, .slice ua ss.length uc] 37))) := (Below.refl _ _).alloc (Nat.le_refl _) _
  go_enter Try.func24, Try.ntmps24
  go_wp2_with (go_at_call 16; refine (HT.out _ hb0.out).mono ?_; rintro e w1 ⟨rfl, hr1, ht1⟩; have HR : Hid (_ ∧ _) := And.intro hr1 ht1; clear hr1 ht1)
  go_ret
  exact ⟨rfl, HR.out.1, HR.out.2⟩
theorem applyA_small (ps : List Pr) (ss : List Se) (cl sq op : Int) (k v o : ByteArray) : (applyA ps ss cl sq op k v o).2.2.2.1.length ≤ 1048576 ∧ (applyA ps ss cl sq op k v o).2.2.2.2.length ≤ 1048576 := by
  by_cases h : PsOk ps ∧ SsOk ss
  · rw [applyA_yes h]
    have h1 := apply_ok h.1 h.2 cl sq op k v o
    exact ⟨Nat.le_trans h1.1.len (by omega), Nat.le_trans h1.2.len (by omega)⟩
  · rw [applyA_no h]
    simp
end Go.Proofs.Ytelfejhopjbhpaa
