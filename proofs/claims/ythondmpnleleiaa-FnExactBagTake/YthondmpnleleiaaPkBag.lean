/-
  Bags: laws.toBag, eqBag, markBag, heldBag; the answer of a put.
-/
import Derived.Test.YthondmpnleleiaaPkMk
import Derived.Test.YthondmpnleleiaaPkEq
import Derived.Test.YthondmpnleleiaaIntsM
import Derived.Test.YthondmpnleleiaaOwnInts
namespace Go.Proofs.Ythondmpnleleiaa
open Go.RowKit
set_option linter.unusedVariables false
set_option linter.unusedSimpArgs false

theorem OwnI.keep {w w' : World} {B : Nat} {v : Value} {l : List Int} (h : OwnI w B v l) (hk : ∀ k, B ≤ k → k < w.heap.size → w'.heap[k]? = w.heap[k]?) : OwnI w' B v l :=
  h.block fun k e => hk k (World.ownsRow.lt h k e).1 (World.ownsRow.lt h k e).2
/-- ints of one's own in the span [lo, hi) -/
structure IntsR (lo hi : Nat) (w : World) (v : Value) (l : List Int) : Prop where
  len : l.length ≤ maxLen
  sh : ∃ a cap, v = .slice a l.length cap
  row : 0 < l.length → ∃ q cap, v = .slice (some ⟨q, 0, none⟩) l.length cap ∧ lo ≤ q ∧ q < hi ∧ q < w.heap.size ∧ w.there q 0 l.length ∧ ∀ j (h : j < l.length), w.cell? ⟨q, j, none⟩ = some (.int .i64 l[j])
theorem IntsR.keep {w w' : World} {lo hi : Nat} {v : Value} {l : List Int} (h : IntsR lo hi w v l) (hk : ∀ k, lo ≤ k → k < hi → w'.heap[k]? = w.heap[k]?) : IntsR lo hi w' v l := by
  refine ⟨h.len, h.sh, fun h0 => ?_⟩
  obtain ⟨q, cap, e, h1, h2, h3, h4, h5⟩ := h.row h0
  have hb := hk q h1 h2
  exact ⟨q, cap, e, h1, h2, lt_keepP hb h3, there_block' h4 hb, fun j hj => (World.cell?_of_block (w := w) hb).trans (h5 j hj)⟩
theorem IntsR.wide {w : World} {lo hi lo' hi' : Nat} {v : Value} {l : List Int} (h : IntsR lo hi w v l) (h1 : lo' ≤ lo) (h2 : hi ≤ hi') : IntsR lo' hi' w v l := by
  refine ⟨h.len, h.sh, fun h0 => ?_⟩
  obtain ⟨q, cap, e, g1, g2, r⟩ := h.row h0
  exact ⟨q, cap, e, by omega, by omega, r⟩
theorem IntsR.ix {w : World} {lo hi : Nat} {v : Value} {l : List Int} (h : IntsR lo hi w v l) : Ix w v l := by
  refine ⟨h.len, ?_⟩
  obtain ⟨a, cap, e⟩ := h.sh
  refine ⟨a, cap, e, fun i hi => ?_⟩
  obtain ⟨q, cap', e', g1, g2, g3, g4, g5⟩ := h.row (by omega)
  rw [e] at e'
  injection e' with e1 _ _
  exact ⟨q, 0, e1, fun j hj => by rw [Nat.zero_add]; exact g5 j hj⟩
theorem IntsN.r {w : World} {lo hi q : Nat} {l : List Int} (h : IntsN lo hi w q l) : IntsR lo hi w (.slice (some ⟨q, 0, none⟩) l.length l.length) l := by
  refine ⟨h.ix.1, ⟨_, _, rfl⟩, fun h0 => ⟨q, _, rfl, h.lo, h.hi, h.in_, h.room, fun j hj => ?_⟩⟩
  obtain ⟨_, a, cap, e, hc⟩ := h.ix
  injection e with e1 _ _
  obtain ⟨b, off, e2, h2⟩ := hc j hj
  rw [← e1] at e2
  injection e2 with e2
  injection e2 with e3 e4
  subst e3 e4
  have := h2 j hj
  rwa [Nat.zero_add] at this
theorem OwnI.r {w : World} {B : Nat} {v : Value} {l : List Int} (h : OwnI w B v l) (hl : l.length ≤ maxLen) : IntsR B w.heap.size w v l := by
  refine ⟨hl, h.shape, fun h0 => ?_⟩
  obtain ⟨g, cap, rfl⟩ := h.shape' h0
  have hlt := World.ownsRow.lt h g rfl
  refine ⟨g, cap, rfl, hlt.1, hlt.2, hlt.2, fun j hj => ?_, fun j hj => ?_⟩
  · rw [Nat.zero_add]
    refine ⟨?_, World.ownsRow.frozenAt h j⟩
    rw [h.cell j hj]; rfl
  · rw [h.cell j hj, List.getElem?_eq_getElem hj]; rfl
theorem IntsR.block {w : World} {lo hi : Nat} {v : Value} {l : List Int} (h : IntsR lo hi w v l) (h0 : 0 < l.length) : ∀ k, v.ownBlock = some k → lo ≤ k ∧ k < hi := fun k e => by
  obtain ⟨q, cap, rfl, h1, h2, _⟩ := h.row h0
  injection e with e
  subst e
  exact ⟨h1, h2⟩

/-- a bag of one's own in the span [lo, hi) -/
structure BagR (lo hi : Nat) (w : World) (v u : Value) (l : List Pk) (ws : List Int) : Prop where
  pks : PksR lo hi w v l
  ints : IntsR lo hi w u ws
  far : 0 < ws.length → ∀ k, u.ownBlock = some k → ¬ pkBlocks v l k
theorem BagR.keep {w w' : World} {lo hi : Nat} {v u : Value} {l : List Pk} {ws : List Int} (h : BagR lo hi w v u l ws) (hk : ∀ k, lo ≤ k → k < hi → w'.heap[k]? = w.heap[k]?) : BagR lo hi w' v u l ws := ⟨h.pks.keep hk, h.ints.keep hk, h.far⟩
theorem BagR.wide {w : World} {lo hi lo' hi' : Nat} {v u : Value} {l : List Pk} {ws : List Int} (h : BagR lo hi w v u l ws) (h1 : lo' ≤ lo) (h2 : hi ≤ hi') : BagR lo' hi' w v u l ws := ⟨h.pks.wide h1 h2, h.ints.wide h1 h2, h.far⟩
theorem BagR.of {w : World} {lo mid hi : Nat} {v u : Value} {l : List Pk} {ws : List Int} (h : PksR lo mid w v l) (h' : IntsR mid hi w u ws) (h1 : lo ≤ mid) (h2 : mid ≤ hi) : BagR lo hi w v u l ws :=
  ⟨h.wide (Nat.le_refl _) h2, h'.wide h1 (Nat.le_refl _), fun h0 k e hk => by have := h'.block h0 k e; have := h.blocks k hk; omega⟩
theorem BagR.of' {w : World} {lo mid hi : Nat} {v u : Value} {l : List Pk} {ws : List Int} (h : PksR mid hi w v l) (h' : IntsR lo mid w u ws) (h1 : lo ≤ mid) (h2 : mid ≤ hi) : BagR lo hi w v u l ws :=
  ⟨h.wide h1 (Nat.le_refl _), h'.wide (Nat.le_refl _) h2, fun h0 k e hk => by have := h'.block h0 k e; have := h.blocks k hk; omega⟩

theorem BagR.nil (lo hi : Nat) (w : World) : BagR lo hi w (.slice none 0 0) (.slice none 0 0) [] [] :=
  ⟨⟨by simp, ⟨_, _, rfl⟩, fun h => absurd h (by simp), by simp, .nil⟩, ⟨by simp, ⟨_, _, rfl⟩, fun h => absurd h (by simp)⟩, fun h => absurd h (by simp)⟩
/-- a bag of one's own, off its parts -/
theorem BagR.own {w : World} {B : Nat} {v u : Value} {L : List Pk} {ws : List Int} (hO : OwnP w B v L) (hI : OwnI w B u ws) (hd : ∀ k, u.ownBlock = some k → v.ownBlock ≠ some k ∧ ∀ p ∈ L, p.2.ownBlock ≠ some k) (hL : L.length ≤ maxLen) (hw : ws.length ≤ maxLen) : BagR B w.heap.size w v u L ws :=
  ⟨hO.r hL, hI.r hw, fun _ k e hk => by
    rcases hk with ⟨_, e'⟩ | ⟨p, hp, e'⟩
    · exact (hd k e).1 e'
    · exact (hd k e).2 p hp e'⟩

set_option maxHeartbeats 4000000 in
set_option maxRecDepth 100000 in
theorem toBag_u (n : Int) (a : Option Addr) (cap : Nat) (a2 : Option Addr) (cap2 : Nat) (l : List Pk) (ws : List Int) (w : World) (hv : Pks w (.slice a l.length cap) l) (hu : Ix w (.slice a2 ws.length cap2) ws) (hl : l.length + bulk (cont l) ≤ 1048576) (hw : ws.length ≤ 1048576) :
    Calls Try.prog 9 #[.agg #[.int .i64 n, .slice a l.length cap, .slice a2 ws.length cap2]] w fun e w' => ∃ q L q', e = .returned (.agg #[.int .i64 n, .slice (some ⟨q, 0, none⟩) l.length l.length, .slice (some ⟨q', 0, none⟩) ws.length ws.length]) ∧ cont L = cont l ∧
      BagR w.heap.size w'.heap.size w' (.slice (some ⟨q, 0, none⟩) l.length l.length) (.slice (some ⟨q', 0, none⟩) ws.length ws.length) L ws ∧ Below w.heap.size w w' := by
  have HP : Hid (∀ w', Below w.heap.size w w' → Calls Try.prog 36 #[.slice a l.length cap] w' fun r w'' => ∃ q L, r = .returned (.slice (some ⟨q, 0, none⟩) l.length l.length) ∧ cont L = cont l ∧ PksR w'.heap.size w''.heap.size w'' (.slice (some ⟨q, 0, none⟩) l.length l.length) L ∧ Below w'.heap.size w' w'') := fun w' hb => toPacketS_u _ l w' (hv.below hb) (by omega) (fun p hp => by
    have : p.1 ∈ cont l := List.mem_map_of_mem hp
    have := bulk_mem this
    omega)
  have HI : Hid (∀ w', Below w.heap.size w w' → Calls Try.prog 37 #[.slice a2 ws.length cap2] w' fun x w'' => ∃ q, x = .returned (.slice (some ⟨q, 0, none⟩) ws.length ws.length) ∧ IntsN w'.heap.size w''.heap.size w'' q ws ∧ Below w'.heap.size w' w'') := fun w' hb => toIntS_u _ ws w' (hu.below hb) hw
  clear hv hu
  have hb0 : Hid (Below w.heap.size w (((w.alloc (.cells #[.int .i64 n, .slice a l.length cap, .slice a2 ws.length cap2] 25)).alloc (.cells #[.int .i64 0, .slice none 0 0, .slice none 0 0] 29)).alloc (.cells #[.int .i64 n, .slice none 0 0, .slice none 0 0] 29))) := (((Below.refl _ _).alloc (Nat.le_refl _) _).alloc (by simp) _).alloc (by simp; omega) _
  go_enter Try.func9, Try.ntmps9
  go_wp2_with (first
    | (go_at_call 36; refine (HP.out _ hb0.out).mono ?_; rintro e w1 ⟨q, L, rfl, hcL, hp1, hb1⟩; have HP1 : Hid (PksR _ w1.heap.size w1 (.slice (some ⟨q, 0, none⟩) l.length l.length) L) := hp1; clear hp1; have HB1 : Hid (Below w.heap.size w w1) := hb0.out.trans (hb1.mono (by simp; omega)); have hz1 := hb1.size; obtain ⟨hcc, hff⟩ := bcell hb1; clear hb1; simp at hz1; have z1 : ∀ o, w1.frozen? ⟨w.heap.size + 1, o, none⟩ = false := fun o => (hff _ o (by simp)).trans (by simp [go_sem]); have z2 : ∀ o, w1.frozen? ⟨w.heap.size + 1 + 1, o, none⟩ = false := fun o => (hff _ o (by simp)).trans (by simp [go_sem]); have r0 : w1.cell? ⟨w.heap.size + 1, 0, none⟩ = some (.int .i64 0) := (hcc _ 0 (by simp [World.setCell] <;> omega)).trans (by simp [go_sem, *]); have r1 : w1.cell? ⟨w.heap.size + 1, 1, none⟩ = some (.slice none 0 0) := (hcc _ 1 (by simp [World.setCell] <;> omega)).trans (by simp [go_sem, *]); have r2 : w1.cell? ⟨w.heap.size + 1, 2, none⟩ = some (.slice none 0 0) := (hcc _ 2 (by simp [World.setCell] <;> omega)).trans (by simp [go_sem, *]); have q0 : w1.cell? ⟨w.heap.size + 1 + 1, 0, none⟩ = some (.int .i64 n) := (hcc _ 0 (by simp [World.setCell] <;> omega)).trans (by simp [go_sem, *]); have q1 : w1.cell? ⟨w.heap.size + 1 + 1, 1, none⟩ = some (.slice none 0 0) := (hcc _ 1 (by simp [World.setCell] <;> omega)).trans (by simp [go_sem, *]); have q2 : w1.cell? ⟨w.heap.size + 1 + 1, 2, none⟩ = some (.slice none 0 0) := (hcc _ 2 (by simp [World.setCell] <;> omega)).trans (by simp [go_sem, *]); have p0 : w1.cell? ⟨w.heap.size, 0, none⟩ = some (.int .i64 n) := (hcc _ 0 (by simp [World.setCell] <;> omega)).trans (by simp [go_sem, *]); have p1 : w1.cell? ⟨w.heap.size, 1, none⟩ = some (.slice a l.length cap) := (hcc _ 1 (by simp [World.setCell] <;> omega)).trans (by simp [go_sem, *]); have p2 : w1.cell? ⟨w.heap.size, 2, none⟩ = some (.slice a2 ws.length cap2) := (hcc _ 2 (by simp [World.setCell] <;> omega)).trans (by simp [go_sem, *]))
    | (go_at_call 37; refine (HI.out _ (HB1.out.setCell (show w.heap.size ≤ w.heap.size + 1 + 1 by omega) _)).mono ?_; rintro e w2 ⟨q', rfl, hi2, hb2⟩; have HI2 : Hid (IntsN _ w2.heap.size w2 q' ws) := hi2; clear hi2; have HB2 : Hid (Below (w1.setCell ⟨w.heap.size + 1 + 1, 1, none⟩ (.slice (some ⟨q, 0, none⟩) l.length l.length)).heap.size (w1.setCell ⟨w.heap.size + 1 + 1, 1, none⟩ (.slice (some ⟨q, 0, none⟩) l.length l.length)) w2) := hb2; have hz2 := hb2.size; obtain ⟨hcc2, hff2⟩ := bcell hb2; clear hb2; simp [World.setCell] at hz2; have z1' : ∀ o, w2.frozen? ⟨w.heap.size + 1, o, none⟩ = false := fun o => (hff2 _ o (by simp [World.setCell] <;> omega)).trans (by rw [World.frozen?_setCell]; exact z1 o); have z2' : ∀ o, w2.frozen? ⟨w.heap.size + 1 + 1, o, none⟩ = false := fun o => (hff2 _ o (by simp [World.setCell] <;> omega)).trans (by rw [World.frozen?_setCell]; exact z2 o); have r0' : w2.cell? ⟨w.heap.size + 1, 0, none⟩ = some (.int .i64 0) := (hcc2 _ 0 (by simp [World.setCell] <;> omega)).trans (by simp [go_sem, *]); have r1' : w2.cell? ⟨w.heap.size + 1, 1, none⟩ = some (.slice none 0 0) := (hcc2 _ 1 (by simp [World.setCell] <;> omega)).trans (by simp [go_sem, *]); have r2' : w2.cell? ⟨w.heap.size + 1, 2, none⟩ = some (.slice none 0 0) := (hcc2 _ 2 (by simp [World.setCell] <;> omega)).trans (by simp [go_sem, *]); have q0' : w2.cell? ⟨w.heap.size + 1 + 1, 0, none⟩ = some (.int .i64 n) := (hcc2 _ 0 (by simp [World.setCell] <;> omega)).trans (by simp [go_sem, *]); have q1' : w2.cell? ⟨w.heap.size + 1 + 1, 1, none⟩ = some (.slice (some ⟨q, 0, none⟩) l.length l.length) := (hcc2 _ 1 (by simp [World.setCell] <;> omega)).trans (by simp [go_sem, *]); have q2' : w2.cell? ⟨w.heap.size + 1 + 1, 2, none⟩ = some (.slice none 0 0) := (hcc2 _ 2 (by simp [World.setCell] <;> omega)).trans (by simp [go_sem, *]); have p0' : w2.cell? ⟨w.heap.size, 0, none⟩ = some (.int .i64 n) := (hcc2 _ 0 (by simp [World.setCell] <;> omega)).trans (by simp [go_sem, *]); have p1' : w2.cell? ⟨w.heap.size, 1, none⟩ = some (.slice a l.length cap) := (hcc2 _ 1 (by simp [World.setCell] <;> omega)).trans (by simp [go_sem, *]); have p2' : w2.cell? ⟨w.heap.size, 2, none⟩ = some (.slice a2 ws.length cap2) := (hcc2 _ 2 (by simp [World.setCell] <;> omega)).trans (by simp [go_sem, *]); clear hcc hff z1 z2 r0 r1 r2 q0 q1 q2 p0 p1 p2))
  refine bodyPost_ret (v := .agg #[.int .i64 n, .slice (some ⟨q, 0, none⟩) l.length l.length, .slice (some ⟨q', 0, none⟩) ws.length ws.length]) (by simp [results, Try.results9, go_sem, r0', r1', r2']) rfl ⟨q, L, q', rfl, hcL, ?_, ?_⟩
  · have hsz : (w1.setCell ⟨w.heap.size + 1 + 1, 1, none⟩ (.slice (some ⟨q, 0, none⟩) l.length l.length)).heap.size = w1.heap.size := by simp [World.setCell]
    have hp := HP1.out
    have hi := HI2.out
    rw [hsz] at hi
    have hb2 := HB2.out
    rw [hsz] at hb2
    simp only [World.size_alloc] at hp
    have k1 : ∀ k, w.heap.size + 3 ≤ k → k < w1.heap.size → w2.heap[k]? = w1.heap[k]? := fun k hk hk2 => (hb2.block k hk2).trans (Below.heap_setCell _ _ _ _ (by simp only []; omega))
    have k2 : ∀ (u : World) (b o : Nat) (x : Value) (k : Nat), w.heap.size + 3 ≤ k → b < w.heap.size + 3 → (u.setCell ⟨b, o, none⟩ x).heap[k]? = u.heap[k]? := fun u b o x k hk hb => Below.heap_setCell _ _ _ _ (by simp only []; omega)
    have hR : BagR (w.heap.size + 3) w2.heap.size w2 (.slice (some ⟨q, 0, none⟩) l.length l.length) (.slice (some ⟨q', 0, none⟩) ws.length ws.length) L ws := BagR.of (hp.keep fun k h1 h2 => k1 k (by omega) h2) hi.r (by omega) (by omega)
    refine ((hR.keep (w' := _) fun k h1 h2 => ?_).wide (by omega) (by simp [World.setCell]))
    rw [k2 _ _ _ _ k h1 (by omega), k2 _ _ _ _ k h1 (by omega), k2 _ _ _ _ k h1 (by omega), k2 _ _ _ _ k h1 (by omega)]
  · have hb2 := HB2.out
    refine (((((HB1.out.setCell (show w.heap.size ≤ w.heap.size + 1 + 1 by omega) _).trans (hb2.mono (by simp [World.setCell]; omega))).setCell (show w.heap.size ≤ w.heap.size + 1 + 1 by omega) _).setCell (Nat.le_succ _) _).setCell (Nat.le_succ _) _).setCell (Nat.le_succ _) _
end Go.Proofs.Ythondmpnleleiaa
