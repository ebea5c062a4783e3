/-
  A draw under way: the source, and the blocks of the draw's own.
-/
import Derived.Test.YtfcmffdljfljkaaDrawB
namespace Go.Proofs.Ytfcmffdljfljkaa
open Go.RowKit
set_option linter.unusedVariables false
set_option linter.unusedSimpArgs false

/-- since w0 nothing has turned but the source's block g and new blocks; the blocks F, all new, hold what is told of them -/
structure Dr (w0 w : World) (g : Nat) (v : Value) (l : List Int) (k : Nat) (F : List (Nat × Array Value × TypeId)) : Prop where
  grown : w0.grownBy w (some g)
  src : Src w g v l k
  gl : g < w0.heap.size
  bs0 : Bs w0 v l
  blks : ∀ (i : Nat) x, F[i]? = some x → w0.heap.size ≤ x.1 ∧ Blk w x.1 x.2.1 x.2.2 ∧ NoU8 x.2.1
  dis : ∀ (i j : Nat) x y, F[i]? = some x → F[j]? = some y → x.1 = y.1 → i = j

section
variable {w0 w w' : World} {g k k' : Nat} {v : Value} {l : List Int} {F : List (Nat × Array Value × TypeId)}

theorem cell_lt' {w : World} {b o : Nat} {u : Value} (h : w.cell? ⟨b, o, none⟩ = some u) : b < w.heap.size := cell_lt h
theorem Dr.start (h : Src w g v l k) : Dr w w g v l k [] :=
  ⟨⟨rfl, rfl, rfl, Nat.le_refl _, fun _ _ _ => rfl⟩, h, h.lt, h.2.2.1, fun i x e => (by simp at e), fun i j x y e => (by simp at e)⟩
theorem Dr.blk (h : Dr w0 w g v l k F) (i : Nat) {b : Nat} {C : Array Value} {t : TypeId} (hi : F[i]? = some (b, C, t)) : Blk w b C t := (h.blks i _ hi).2.1
theorem Dr.ge (h : Dr w0 w g v l k F) (i : Nat) {b : Nat} {C : Array Value} {t : TypeId} (hi : F[i]? = some (b, C, t)) : w0.heap.size ≤ b := (h.blks i _ hi).1
theorem Dr.lt (h : Dr w0 w g v l k F) (i : Nat) {b : Nat} {C : Array Value} {t : TypeId} (hi : F[i]? = some (b, C, t)) : b < w.heap.size := (h.blk i hi).lt
theorem Dr.ne (h : Dr w0 w g v l k F) (i : Nat) {b : Nat} {C : Array Value} {t : TypeId} (hi : F[i]? = some (b, C, t)) : b ≠ g := by
  have h1 := h.ge i hi
  have h2 := h.gl
  omega
theorem Dr.size (h : Dr w0 w g v l k F) : w0.heap.size ≤ w.heap.size := h.grown.size
/-- a call that draws on -/
theorem Dr.call (h : Dr w0 w g v l k F) (hs : Src w' g v l k') (hg : w.grownBy w' (some g)) : Dr w0 w' g v l k' F :=
  ⟨grownBy_trans h.grown hg, hs, h.gl, h.bs0, fun i x e => ⟨(h.blks i x e).1, ((h.blks i x e).2.1).grown hg (by have h1 := (h.blks i x e).1; have h2 := h.gl; omega), (h.blks i x e).2.2⟩, h.dis⟩
/-- .. that only makes memory -/
theorem Dr.below (h : Dr w0 w g v l k F) (hb : Below w.heap.size w w') : Dr w0 w' g v l k F :=
  h.call (h.src.below hb) ⟨hb.os, hb.tape, hb.output, hb.size, fun k hk _ => hb.block k hk⟩
theorem Dr.other (h : Dr w0 w g v l k F) (o : Obj) : Dr w0 (w.alloc o) g v l k F := h.below ((Below.refl _ _).alloc (Nat.le_refl _) _)
theorem Dr.drew (h : Dr w0 w g v l k F) : Dr w0 w.drew g v l k F := h.below (Below.refl _ _).drew
theorem Dr.drewN (h : Dr w0 w g v l k F) (n : Nat) : Dr w0 (w.drewN n) g v l k F := h.below ⟨rfl, rfl, rfl, Nat.le_refl _, fun _ _ => rfl⟩
theorem Dr.new (h : Dr w0 w g v l k F) (C : Array Value) (t : TypeId) (hn : NoU8 C) : Dr w0 (w.alloc (.cells C t)) g v l k (F ++ [(w.heap.size, C, t)]) := by
  have h' := h.other (.cells C t)
  refine ⟨h'.grown, h'.src, h'.gl, h.bs0, fun i x e => ?_, fun i j x y ei ej e => ?_⟩
  · rcases Nat.lt_or_ge i F.length with hi | hi
    · rw [List.getElem?_append_left hi] at e; exact h'.blks i x e
    · rw [List.getElem?_append_right hi] at e
      rcases Nat.eq_zero_or_pos (i - F.length) with hz | hz
      · rw [hz] at e; simp at e; subst e; exact ⟨h.size, Blk.new _ _ _, hn⟩
      · rw [List.getElem?_eq_none (by simp; omega)] at e; cases e
  · have key : ∀ (i : Nat) x, (F ++ [(w.heap.size, C, t)])[i]? = some x → (i < F.length ∧ F[i]? = some x ∧ x.1 < w.heap.size) ∨ (i = F.length ∧ x.1 = w.heap.size) := fun i x e => by
      rcases Nat.lt_or_ge i F.length with hi | hi
      · rw [List.getElem?_append_left hi] at e; exact .inl ⟨hi, e, ((h.blks i x e).2.1).lt⟩
      · rw [List.getElem?_append_right hi] at e
        rcases Nat.eq_zero_or_pos (i - F.length) with hz | hz
        · rw [hz] at e; simp at e; subst e; exact .inr ⟨by omega, rfl⟩
        · rw [List.getElem?_eq_none (by simp; omega)] at e; cases e
    rcases key i x ei with ⟨a1, a2, a3⟩ | ⟨a1, a2⟩ <;> rcases key j y ej with ⟨b1, b2, b3⟩ | ⟨b1, b2⟩
    · exact h.dis i j x y a2 b2 e
    · omega
    · omega
    · omega
theorem Dr.set (h : Dr w0 w g v l k F) (i : Nat) {b : Nat} {C : Array Value} {t : TypeId} (hi : F[i]? = some (b, C, t)) (j : Nat) (hj : j < C.size) (y : Value) (hy : isU8 y = false) :
    Dr w0 (w.setCell ⟨b, j, none⟩ y) g v l k (F.set i (b, C.setIfInBounds j y, t)) := by
  have hil : i < F.length := (List.getElem?_eq_some_iff.1 hi).1
  refine ⟨grownBy_set_new h.grown (h.ge i hi) _ _, h.src.setB (h.blk i hi) (h.ne i hi) j hj (h.blks i _ hi).2.2 y, h.gl, h.bs0, fun n x e => ?_, fun n m x y' en em e => ?_⟩
  · rw [List.getElem?_set] at e
    by_cases hn : i = n
    · subst hn
      simp [hil] at e
      subst e
      refine ⟨h.ge i hi, (h.blk i hi).set j y, fun q m e => ?_⟩
      rw [Array.getElem?_setIfInBounds] at e
      split at e
      · (try split at e)
        · injection e with e; subst e; simp [isU8] at hy
      · exact (h.blks i _ hi).2.2 q m e
    · rw [if_neg hn] at e
      exact ⟨(h.blks n x e).1, ((h.blks n x e).2.1).set_other _ (fun e' => hn (h.dis i n _ _ hi e e'.symm)), (h.blks n x e).2.2⟩
  · have key : ∀ (n : Nat) (x : Nat × Array Value × TypeId), (F.set i (b, C.setIfInBounds j y, t))[n]? = some x → ∃ z : Nat × Array Value × TypeId, F[n]? = some z ∧ z.1 = x.1 := fun n x e => by
      rw [List.getElem?_set] at e
      by_cases hn : i = n
      · subst hn
        simp [hil] at e
        subst e
        exact ⟨_, hi, rfl⟩
      · rw [if_neg hn] at e
        exact ⟨_, e, rfl⟩
    obtain ⟨z1, a1, a2⟩ := key n x en
    obtain ⟨z2, b1, b2⟩ := key m y' em
    exact h.dis n m z1 z2 a1 b1 (by rw [a2, b2, e])
theorem Dr.row (h : Dr w0 w g v l k F) (i : Nat) {b : Nat} {C : Array Value} {t : TypeId} (hi : F[i]? = some (b, C, t)) (C' : Array Value) (hn' : NoU8 C') :
    Dr w0 (w.setRow b C') g v l k (F.set i (b, C', t)) := by
  have hil : i < F.length := (List.getElem?_eq_some_iff.1 hi).1
  refine ⟨grownBy_row_new h.grown (h.blk i hi) (h.ge i hi) _, h.src.row (h.blk i hi) (h.ne i hi) (h.blks i _ hi).2.2 C', h.gl, h.bs0, fun n x e => ?_, fun n m x y' en em e => ?_⟩
  · rw [List.getElem?_set] at e
    by_cases hn : i = n
    · subst hn
      simp [hil] at e
      subst e
      exact ⟨h.ge i hi, (h.blk i hi).row C', hn'⟩
    · rw [if_neg hn] at e
      exact ⟨(h.blks n x e).1, ((h.blks n x e).2.1).row_other _ (fun e' => hn (h.dis i n _ _ hi e e'.symm)), (h.blks n x e).2.2⟩
  · have key : ∀ (n : Nat) (x : Nat × Array Value × TypeId), (F.set i (b, C', t))[n]? = some x → ∃ z : Nat × Array Value × TypeId, F[n]? = some z ∧ z.1 = x.1 := fun n x e => by
      rw [List.getElem?_set] at e
      by_cases hn : i = n
      · subst hn
        simp [hil] at e
        subst e
        exact ⟨_, hi, rfl⟩
      · rw [if_neg hn] at e
        exact ⟨_, e, rfl⟩
    obtain ⟨z1, a1, a2⟩ := key n x en
    obtain ⟨z2, b1, b2⟩ := key m y' em
    exact h.dis n m z1 z2 a1 b1 (by rw [a2, b2, e])
theorem src_belowB {B : Nat} (h : Src w g v l k) (h0 : Bs w0 v l) (hw : w0.heap.size ≤ B) (hg : g < B) (hb : Below B w w') : Src w' g v l k := by
  obtain ⟨h1, h2, ⟨hl, h8, a, cap, rfl, hc⟩, h4, h5⟩ := h
  obtain ⟨_, _, a', cap', e, hc0⟩ := h0
  injection e with e1 e2 e3
  subst e1 e3
  refine ⟨Nat.lt_of_lt_of_le h1 hb.size, fun i => by rw [hb.frozen (p := ⟨g, i, none⟩) hg]; exact h2 i, ⟨hl, h8, a, cap, rfl, fun i hi => ?_⟩, (hb.cell (p := ⟨g, 0, none⟩) hg).trans h4, (hb.cell (p := ⟨g, 1, none⟩) hg).trans h5⟩
  obtain ⟨b, off, rfl, hj⟩ := hc i hi
  obtain ⟨b', off', e', hj'⟩ := hc0 i hi
  injection e' with e'
  injection e' with e1' e2'
  subst e1' e2'
  exact ⟨b, off, rfl, fun m hm => (hb.cell (p := ⟨b, off + m, none⟩) (Nat.lt_of_lt_of_le (cell_lt (hj' m hm)) hw)).trans (hj m hm)⟩
/-- something written in blocks from B on, which lie behind all that is told of -/
theorem Dr.belowB (h : Dr w0 w g v l k F) {B : Nat} (hb : Below B w w') (hB : w0.heap.size ≤ B) (hF : ∀ x ∈ F, x.1 < B) : Dr w0 w' g v l k F :=
  ⟨⟨hb.os.trans h.grown.os, hb.tape.trans h.grown.tape, hb.output.trans h.grown.output, Nat.le_trans h.grown.size hb.size, fun q hq hne => (hb.block q (by omega)).trans (h.grown.block q hq hne)⟩,
   src_belowB h.src h.bs0 hB (Nat.lt_of_lt_of_le h.gl hB) hb, h.gl, h.bs0, fun i x e => ⟨(h.blks i x e).1, ((h.blks i x e).2.1).below hb (hF x (List.mem_of_getElem? e)), (h.blks i x e).2.2⟩, h.dis⟩
/-- .. or in a row of one's own that is none of the blocks told of -/
theorem Dr.grew (h : Dr w0 w g v l k F) {u u' : Value} (hg : Grew w u w' u') (hB : ∀ q, u.ownBlock = some q → w0.heap.size ≤ q) (hF : ∀ x ∈ F, u.ownBlock ≠ some x.1) : Dr w0 w' g v l k F := by
  have hb : Below w0.heap.size w w' := (Below.refl _ _).grown hg.g h.size hB
  refine ⟨⟨hb.os.trans h.grown.os, hb.tape.trans h.grown.tape, hb.output.trans h.grown.output, Nat.le_trans h.grown.size hb.size, fun q hq hne => (hb.block q hq).trans (h.grown.block q hq hne)⟩,
   src_belowB h.src h.bs0 (Nat.le_refl _) h.gl hb, h.gl, h.bs0, fun i x e => ⟨(h.blks i x e).1, ((h.blks i x e).2.1).keep (hg.block ((h.blks i x e).2.1).lt (hF x (List.mem_of_getElem? e))), (h.blks i x e).2.2⟩, h.dis⟩
/-- blocks of other types are other blocks -/
theorem ownsRow.neBlk {w : World} {base e size n b : Nat} {v : Value} {xs : List Value} {C : Array Value} {t : TypeId} (h : w.ownsRow base e size v n xs) (hb : Blk w b C t) (hne : e ≠ t) : v.ownBlock ≠ some b := fun hv => by
  rcases h.2 with ⟨e1, _⟩ | ⟨q, cap, cur, e1, _, hh, _⟩
  · subst e1; cases hv
  · subst e1
    injection hv with hv
    have hv' : q = b := hv
    subst hv'
    have hb' : w.heap[q]? = some (.cells C t (0, 0)) := hb
    rw [hb'] at hh
    injection hh with hh
    injection hh with _ hh _
    exact hne hh.symm
theorem ownsRow.neRow {w : World} {base e size n base' e' size' n' : Nat} {v u : Value} {xs ys : List Value} (h : w.ownsRow base e size v n xs) (h' : w.ownsRow base' e' size' u n' ys) (hne : e ≠ e') : ∀ q, v.ownBlock = some q → u.ownBlock ≠ some q := fun q hv hu => by
  rcases h.2 with ⟨e1, _⟩ | ⟨q1, cap, cur, e1, _, hh, _⟩
  · subst e1; cases hv
  · rcases h'.2 with ⟨e2, _⟩ | ⟨q2, cap2, cur2, e2, _, hh2, _⟩
    · subst e2; cases hu
    · subst e1 e2
      injection hv with hv
      injection hu with hu
      have hv' : q1 = q := hv
      have hu' : q2 = q := hu
      subst hv' hu'
      rw [hh] at hh2
      injection hh2 with hh2
      injection hh2 with _ hh2 _
      exact hne hh2
theorem Dr.nilF (h : Dr w0 w g v l k F) : Dr w0 w g v l k [] := ⟨h.grown, h.src, h.gl, h.bs0, fun i x e => (by simp at e), fun i j x y e => (by simp at e)⟩
theorem Dr.one {x : Nat × Array Value × TypeId} (h : Dr w0 w g v l k (x :: F)) : Dr w0 w g v l k [x] :=
  ⟨h.grown, h.src, h.gl, h.bs0, fun i y e => (by cases i with | zero => exact h.blks 0 y e | succ i => simp at e), fun i j a b ei ej e => (by cases i with | succ i => simp at ei | zero => cases j with | succ j => simp at ej | zero => rfl)⟩
/-- a pick at this state -/
theorem Dr.pick (h : Dr w0 w g v l k F) (n : Nat) (hL : l.length ≤ 1048576) (hk : k ≤ 900000000) (hn : 0 < n) (hN : n ≤ 4294967296) :
    Calls Try.prog 71 #[.pointer (some ⟨g, 0, none⟩), .int .i64 n] w fun e w' => e = .returned (.int .i64 (pickV l k n : Nat)) ∧ Dr w0 w' g v l (k + pickK n) F :=
  (l1pick_any g w v l k n hL hk hn hN h.src).mono fun e w' ⟨h1, h2, h3⟩ => ⟨h1, h.call h2 h3⟩
end
end Go.Proofs.Ytfcmffdljfljkaa
