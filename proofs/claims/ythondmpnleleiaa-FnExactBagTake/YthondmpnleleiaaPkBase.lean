/-
  Packets: what a slice of packets holds; packets in memory of one's own, the bytes of each in a block of its own; append to them.
-/
import Derived.Test.YthondmpnleleiaaLawBase
import Derived.Test.YthondmpnleleiaaRowBase
namespace Go.Proofs.Ythondmpnleleiaa
open Go.RowKit
set_option linter.unusedVariables false
set_option linter.unusedSimpArgs false

/-- a packet -/
structure Pkt where
  id : Int
  fr : Int
  to : Int
  bs : List Int
/-- a packet and the slice value of its bytes -/
abbrev Pk := Pkt × Value

def pkC (p : Pk) : List Value := [.int .i64 p.1.id, .int .i64 p.1.fr, .int .i64 p.1.to, p.2]
def pksC : List Pk → List Value
  | [] => []
  | p :: l => pkC p ++ pksC l
theorem pksC_app (l k : List Pk) : pksC (l ++ k) = pksC l ++ pksC k := by
  induction l with
  | nil => rfl
  | cons e l ih => rw [List.cons_append, pksC, ih, pksC, List.append_assoc]
theorem pksC_len (l : List Pk) : (pksC l).length = l.length * 4 := by
  induction l with
  | nil => rfl
  | cons e l ih => rw [pksC, List.length_append, ih, List.length_cons]; simp [pkC]; omega
theorem pksC_get (l : List Pk) : ∀ (j : Nat) (h : j < l.length) (i : Nat), i < 4 → (pksC l)[j * 4 + i]? = (pkC l[j])[i]? := by
  induction l with
  | nil => intro j h; simp at h
  | cons e l ih =>
    intro j h i hi
    have h4 : (pkC e).length = 4 := rfl
    cases j with
    | zero => rw [pksC, List.getElem?_append_left (by rw [h4]; omega)]; simp
    | succ j =>
      rw [pksC, List.getElem?_append_right (by rw [h4]; omega), h4, show (j + 1) * 4 + i - 4 = j * 4 + i by omega, ih j (by simpa using h) i hi]
      simp

/-- the four cells of a packet -/
def PkAt (w : World) (b off : Nat) (p : Pk) : Prop :=
  w.cell? ⟨b, off, none⟩ = some (.int .i64 p.1.id) ∧ w.cell? ⟨b, off + 1, none⟩ = some (.int .i64 p.1.fr) ∧ w.cell? ⟨b, off + 2, none⟩ = some (.int .i64 p.1.to) ∧ w.cell? ⟨b, off + 3, none⟩ = some p.2
theorem PkAt.below {w w' : World} {b off : Nat} {p : Pk} (h : PkAt w b off p) (hb : Below w.heap.size w w') : PkAt w' b off p := by
  obtain ⟨h0, h1, h2, h3⟩ := h
  have hl := cell_lt h0
  exact ⟨(hb.cell hl).trans h0, (hb.cell hl).trans h1, (hb.cell hl).trans h2, (hb.cell hl).trans h3⟩
theorem PkAt.block {w w' : World} {b off : Nat} {p : Pk} (h : PkAt w b off p) (hb : w'.heap[b]? = w.heap[b]?) : PkAt w' b off p := by
  obtain ⟨h0, h1, h2, h3⟩ := h
  have c : ∀ o, w'.cell? ⟨b, o, none⟩ = w.cell? ⟨b, o, none⟩ := fun o => World.cell?_of_block (w := w) hb
  exact ⟨(c _).trans h0, (c _).trans h1, (c _).trans h2, (c _).trans h3⟩

/-- the slice value v holds the packets l -/
def Pks (w : World) (v : Value) (l : List Pk) : Prop :=
  l.length ≤ maxLen ∧ (∀ p ∈ l, Bs w p.2 p.1.bs) ∧
  ∃ a cap, v = .slice a l.length cap ∧ ∀ i, i < l.length → ∃ b off, a = some ⟨b, off, none⟩ ∧ ∀ j (h : j < l.length), PkAt w b (off + j * 4) l[j]
theorem Pks.below {w w' : World} {v : Value} {l : List Pk} (h : Pks w v l) (hb : Below w.heap.size w w') : Pks w' v l := by
  obtain ⟨hl, hf, a, cap, rfl, hc⟩ := h
  refine ⟨hl, fun p hp => (hf p hp).below hb, a, cap, rfl, fun i hi => ?_⟩
  obtain ⟨b, off, rfl, hj⟩ := hc i hi
  exact ⟨b, off, rfl, fun j hj' => (hj j hj').below hb⟩

/-- no block of two -/
def Far (x y : Value) : Prop := ∀ k, x.ownBlock = some k → y.ownBlock ≠ some k

theorem lt_keepP {w w' : World} {q : Nat} (hb : w'.heap[q]? = w.heap[q]?) (h : q < w.heap.size) : q < w'.heap.size := by
  rcases Nat.lt_or_ge q w'.heap.size with h' | h'
  · exact h'
  · rw [Array.getElem?_eq_none h', Array.getElem?_eq_getElem h] at hb
    cases hb

/-- packets of one's own in the span [lo, hi), their bytes each in a block of its own -/
structure PksR (lo hi : Nat) (w : World) (v : Value) (l : List Pk) : Prop where
  len : l.length ≤ maxLen
  sh : ∃ a cap, v = .slice a l.length cap
  row : 0 < l.length → ∃ q cap, v = .slice (some ⟨q, 0, none⟩) l.length cap ∧ lo ≤ q ∧ q < hi ∧ q < w.heap.size ∧ w.there q 0 (l.length * 4) ∧ (∀ j (h : j < l.length), PkAt w q (j * 4) l[j]) ∧ ∀ p ∈ l, p.2.ownBlock ≠ some q
  bytes : ∀ p ∈ l, BytesN lo hi w p.2 p.1.bs ∧ p.1.bs.length ≤ maxLen
  apart : l.Pairwise fun x y => Far x.2 y.2
theorem PksR.keep {w w' : World} {lo hi : Nat} {v : Value} {l : List Pk} (h : PksR lo hi w v l) (hk : ∀ k, lo ≤ k → k < hi → w'.heap[k]? = w.heap[k]?) : PksR lo hi w' v l := by
  refine ⟨h.len, h.sh, fun h0 => ?_, fun p hp => ⟨(h.bytes p hp).1.keep hk, (h.bytes p hp).2⟩, h.apart⟩
  obtain ⟨q, cap, e, h1, h2, h3, h4, h5, h6⟩ := h.row h0
  have hb := hk q h1 h2
  exact ⟨q, cap, e, h1, h2, lt_keepP hb h3, there_block' h4 hb, fun j hj => (h5 j hj).block hb, h6⟩
theorem PksR.wide {w : World} {lo hi lo' hi' : Nat} {v : Value} {l : List Pk} (h : PksR lo hi w v l) (h1 : lo' ≤ lo) (h2 : hi ≤ hi') : PksR lo' hi' w v l := by
  refine ⟨h.len, h.sh, fun h0 => ?_, fun p hp => ⟨(h.bytes p hp).1.wide h1 h2, (h.bytes p hp).2⟩, h.apart⟩
  obtain ⟨q, cap, e, g1, g2, r⟩ := h.row h0
  exact ⟨q, cap, e, by omega, by omega, r⟩
theorem PksR.pks {w : World} {lo hi : Nat} {v : Value} {l : List Pk} (h : PksR lo hi w v l) : Pks w v l := by
  refine ⟨h.len, fun p hp => (h.bytes p hp).1.bs (h.bytes p hp).2, ?_⟩
  obtain ⟨a, cap, e⟩ := h.sh
  refine ⟨a, cap, e, fun i hi => ?_⟩
  obtain ⟨q, cap', e', g1, g2, g3, g4, g5, _⟩ := h.row (by omega)
  rw [e] at e'
  injection e' with e1 _ _
  exact ⟨q, 0, e1, fun j hj => by rw [Nat.zero_add]; exact g5 j hj⟩

/-- packets of one's own from block B on, to be appended to -/
structure OwnP (w : World) (B : Nat) (v : Value) (l : List Pk) : Prop where
  row : w.ownsRow B 48 4 v l.length (pksC l)
  bytes : ∀ p ∈ l, Own w B p.2 p.1.bs ∧ p.1.bs.length ≤ maxLen
  off : ∀ p ∈ l, Far p.2 v
  apart : l.Pairwise fun x y => Far x.2 y.2
theorem OwnP.nil (w : World) (B : Nat) : OwnP w B (.slice none 0 0) [] := ⟨World.ownsRow_nil w B _ 4, by simp, by simp, .nil⟩
theorem OwnP.shape {w : World} {B : Nat} {v : Value} {l : List Pk} (h : OwnP w B v l) : ∃ a cap, v = .slice a l.length cap := by
  rcases h.row.2 with ⟨rfl, h0⟩ | ⟨g, cap, cur, rfl, _⟩
  · exact ⟨none, 0, by rw [h0]⟩
  · exact ⟨_, _, rfl⟩
theorem OwnP.shape' {w : World} {B : Nat} {v : Value} {l : List Pk} (h : OwnP w B v l) (hl : 0 < l.length) : ∃ g cap, v = .slice (some ⟨g, 0, none⟩) l.length cap := by
  rcases h.row.2 with ⟨rfl, h0⟩ | ⟨g, cap, cur, rfl, _⟩
  · omega
  · exact ⟨_, _, rfl⟩
theorem OwnP.keep {w w' : World} {B : Nat} {v : Value} {l : List Pk} (h : OwnP w B v l) (hk : ∀ k, B ≤ k → k < w.heap.size → w'.heap[k]? = w.heap[k]?) : OwnP w' B v l := by
  refine ⟨⟨h.row.1, ?_⟩, fun p hp => ⟨(h.bytes p hp).1.block fun k e => ?_, (h.bytes p hp).2⟩, h.off, h.apart⟩
  · rcases h.row.2 with h' | ⟨g, cap, cur, hv, hg, hh, r⟩
    · exact .inl h'
    · exact .inr ⟨g, cap, cur, hv, hg, (hk g hg (heap_lt hh)).trans hh, r⟩
  · have := (h.bytes p hp).1.2.lt k e
    exact hk k this.1 this.2
theorem OwnP.below {w w' : World} {B : Nat} {v : Value} {l : List Pk} (h : OwnP w B v l) (hb : Below w.heap.size w w') : OwnP w' B v l := h.keep fun k _ hk => hb.block k hk
theorem OwnP.le {w : World} {B B' : Nat} {v : Value} {l : List Pk} (h : OwnP w B v l) (hb : B' ≤ B) : OwnP w B' v l := by
  refine ⟨⟨h.row.1, ?_⟩, fun p hp => ⟨(h.bytes p hp).1.le hb, (h.bytes p hp).2⟩, h.off, h.apart⟩
  rcases h.row.2 with h' | ⟨g, cap, cur, hv, hg, r⟩
  · exact .inl h'
  · exact .inr ⟨g, cap, cur, hv, Nat.le_trans hb hg, r⟩
theorem OwnP.at_ {w : World} {B g cap : Nat} {l : List Pk} (h : OwnP w B (.slice (some ⟨g, 0, none⟩) l.length cap) l) (j : Nat) (hj : j < l.length) : PkAt w g (j * 4) l[j] := by
  have c : ∀ i, i < 4 → w.cell? ⟨g, j * 4 + i, none⟩ = (pkC l[j])[i]? := fun i hi => by
    rw [World.ownsRow.cellAt h.row (j * 4 + i) (by omega)]
    exact pksC_get l j hj i hi
  exact ⟨c 0 (by omega), c 1 (by omega), c 2 (by omega), c 3 (by omega)⟩
theorem OwnP.there {w : World} {B g cap : Nat} {l : List Pk} (h : OwnP w B (.slice (some ⟨g, 0, none⟩) l.length cap) l) : w.there g 0 (l.length * 4) := fun j hj => by
  rw [Nat.zero_add]
  refine ⟨?_, World.ownsRow.frozenAt h.row j⟩
  rw [World.ownsRow.cellAt h.row j (by omega), List.getElem?_eq_getElem (by rw [pksC_len]; exact hj)]; rfl
theorem OwnP.r {w : World} {B : Nat} {v : Value} {l : List Pk} (h : OwnP w B v l) (hl : l.length ≤ maxLen) : PksR B w.heap.size w v l := by
  refine ⟨hl, h.shape, fun h0 => ?_, fun p hp => ⟨.of (h.bytes p hp).1, (h.bytes p hp).2⟩, h.apart⟩
  obtain ⟨g, cap, rfl⟩ := h.shape' h0
  have hlt := World.ownsRow.lt h.row g rfl
  exact ⟨g, cap, rfl, hlt.1, hlt.2, hlt.2, h.there, fun j hj => h.at_ j hj, fun p hp e => h.off p hp g e rfl⟩

theorem infoPk : (Try.prog.info? 48).map (fun i => (i.zero, i.size, i.bytes)) = some (some (.agg #[.int .i64 0, .int .i64 0, .int .i64 0, .slice none 0 0]), 4, 48) := by kernel_rfl

theorem growP {B : Nat} {w w' : World} {v v' : Value} {l : List Pk} (h : Grew w v w' v') (hown : OwnP w B v l) (hB : B ≤ w.heap.size) : Below B w w' :=
  (Below.refl _ _).grown h.g hB (fun k hk => (World.ownsRow.lt hown.row k hk).1)

set_option maxRecDepth 100000 in
theorem wpl_appendP {w : World} {ops : Array Oper} {rest : List Oper} {o : Oper} {a : Act} {Q : Exit → Act → World → Prop} (hgd : o.guard = none) (s x : Operand)
    (ho : o.op = .call { callee := .builtin .append, args := #[s, x], argTypes := #[27, 27] })
    {B N : Nat} {v : Value} {l : List Pk} (p : Pk) (hown : OwnP w B v l) (hs : a.eval s = v) (b c : Nat) (hu : PkAt w b 0 p) (hx : a.eval x = .slice (some ⟨b, 0, none⟩) 1 c)
    (hp : Own w N p.2 p.1.bs) (hpl : p.1.bs.length ≤ maxLen) (hBN : B ≤ N) (hN : (∀ k, v.ownBlock = some k → k < N) ∧ ∀ p' ∈ l, ∀ k, p'.2.ownBlock = some k → k < N) (hone : p.2.oneCell' = true)
    (hlen : l.length ≤ 1100000) (hB : B ≤ w.heap.size)
    (h : ∀ v' w', OwnP w' B v' (l ++ [p]) → Grew w v w' v' → wpList Try.prog ops Q rest (a.put o.dst v') w') : wpList Try.prog ops Q (o :: rest) a w := by
  obtain ⟨i0, hi, hz0, hz1, hz2⟩ := info_parts infoPk
  obtain ⟨u0, u1, u2, u3⟩ := hu
  refine wpList_append_own_at w hgd s x 27 ho B 48 i0 _ 4 48 Try.underlying27 hi hz0 hz1 hz2 rfl (by decide) v l.length _ hs hown.row ⟨b, 0, none⟩ 1 c (pkC p) hx rfl ?_ ?_ (by unfold maxLen; omega) (by omega) hB ?_
  · intro j u hj
    rw [cell_add, Nat.zero_add]
    have hj7 : j < 4 := (List.getElem?_eq_some_iff.1 hj).1
    rcases (show j = 0 ∨ j = 1 ∨ j = 2 ∨ j = 3 by omega) with rfl | rfl | rfl | rfl
    · exact u0.trans hj
    · exact u1.trans hj
    · exact u2.trans hj
    · exact u3.trans hj
  · intro u hu
    simp only [pkC, List.mem_cons, List.not_mem_nil, or_false] at hu
    rcases hu with rfl | rfl | rfl | rfl
    · rfl
    · rfl
    · rfl
    · exact hone
  · intro v' w' h2 h3 _ h5
    have hg : Grew w v w' v' := ⟨h3, h5.imp id fun e => ⟨_, e, Nat.le_refl _⟩⟩
    have hpv : Far p.2 v := fun k e1 e2 => by
      have h1 := (hp.2.lt k e1).1
      have h2 := hN.1 k e2
      omega
    have keepB : ∀ (u : Value) (bs : List Int), Own w B u bs → Far u v → Own w' B u bs ∧ Far u v' := fun u bs hb hf => by
      refine ⟨hb.block fun k e => hg.block (hb.2.lt k e).2 (hf k e), fun k e => hg.far (hb.2.lt k e).2 (hf k e)⟩
    refine h v' w' ⟨by rw [pksC_app]; simpa [pksC] using h2, fun y hy => ?_, fun y hy => ?_, ?_⟩ hg
    · rcases List.mem_append.1 hy with hy | hy
      · exact ⟨(keepB _ _ (hown.bytes y hy).1 (hown.off y hy)).1, (hown.bytes y hy).2⟩
      · rw [List.mem_singleton.1 hy]; exact ⟨(keepB _ _ (hp.le hBN) hpv).1, hpl⟩
    · rcases List.mem_append.1 hy with hy | hy
      · exact (keepB _ _ (hown.bytes y hy).1 (hown.off y hy)).2
      · rw [List.mem_singleton.1 hy]; exact (keepB _ _ (hp.le hBN) hpv).2
    · refine List.pairwise_append.2 ⟨hown.apart, List.pairwise_singleton _ _, fun x hx y hy k e1 e2 => ?_⟩
      rw [List.mem_singleton.1 hy] at e2
      have h1 := hN.2 x hx k e1
      have h2 := (hp.2.lt k e2).1
      omega
/-- all its blocks lie below the heap's end -/
theorem OwnP.lts {w : World} {B : Nat} {v : Value} {l : List Pk} (h : OwnP w B v l) : (∀ k, v.ownBlock = some k → k < w.heap.size) ∧ ∀ p' ∈ l, ∀ k, p'.2.ownBlock = some k → k < w.heap.size :=
  ⟨fun k e => (World.ownsRow.lt h.row k e).2, fun p hp k e => ((h.bytes p hp).1.2.lt k e).2⟩
end Go.Proofs.Ythondmpnleleiaa
