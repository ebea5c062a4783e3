/-
  The invariant of spec.DrawCalls' loop.
-/
import Derived.Test.YtclphmakokpnnaaCevOwn
import Derived.Test.YtclphmakokpnnaaDrawE
namespace Go.Proofs.Ytclphmakokpnnaa
open Go.RowKit
set_option linter.unusedVariables false
set_option linter.unusedSimpArgs false

/-- the event that is drawn for the client c at place k -/
def evOf (l : List Int) (k : Nat) (c : Cli) : Cev :=
  ⟨1 + (pickV l k 3 : Nat), cmdCl l (k + 1), cmdSq l (k + 1), cmdOp l (k + 1), cmdKy l (k + 1), cmdVl l (k + 1), cmdOl l (k + 1), c.id,
   if pickV l (repK l (cmdK l (k + 1))) 4 = 0 then max 1 (c.sq - 1 + 2 * (pickV l (repK l (cmdK l (k + 1)) + 1) 2 : Nat)) else max 1 c.sq,
   repSt l (cmdK l (k + 1)), repCd l (cmdK l (k + 1)), repVl l (cmdK l (k + 1)), repLd l (cmdK l (k + 1))⟩
def evK (l : List Int) (k : Nat) : Nat := if pickV l (repK l (cmdK l (k + 1))) 4 = 0 then repK l (cmdK l (k + 1)) + 1 + 1 else repK l (cmdK l (k + 1)) + 1
theorem evK_le (l : List Int) (k : Nat) : k < evK l k ∧ evK l k ≤ k + 30 := by
  have h1 := cmdK_le l (k + 1)
  have h2 := repK_le l (cmdK l (k + 1))
  unfold evK
  split <;> omega
theorem evOf_ok (l : List Int) (k : Nat) (c : Cli) : (evOf l k c).ok c := by
  have h1 := cmd_facts l (k + 1)
  have h2 := rep_facts l (cmdK l (k + 1))
  have h3 := pickV_lt l k 3 (by omega)
  refine ⟨?_, h1.2.2.2.2.2.2.2.1, h1.2.2.2.2.2.2.2.2.1, h1.2.2.2.2.2.2.2.2.2.1, ?_, rfl, ?_⟩
  · show (1 + (pickV l k 3 : Nat) : Int) = 1 ∨ (1 + (pickV l k 3 : Nat) : Int) = 2 ∨ (1 + (pickV l k 3 : Nat) : Int) = 3
    omega
  · show (repVl l (cmdK l (k + 1))).size ≤ 64
    omega
  · rcases h2 with ⟨a, b, c, d, e⟩ | ⟨a, b, c, d, e⟩
    · exact .inl ⟨a, b, c, e⟩
    · exact .inr ⟨a, b, c, d, e⟩
/-- the client and the source's place behind j events -/
def stOf (l : List Int) (k : Nat) (c : Cli) : Nat → Nat × Cli
  | 0 => (k, c)
  | j + 1 => (evK l (stOf l k c j).1, nextC (stOf l k c j).2 (evOf l (stOf l k c j).1 (stOf l k c j).2))
def evAt (l : List Int) (k : Nat) (c : Cli) (j : Nat) : Cev := evOf l (stOf l k c j).1 (stOf l k c j).2
def evsOf (l : List Int) (k : Nat) (c : Cli) (j : Nat) : List Cev := (List.range j).map (evAt l k c)
theorem evsOf_len (l : List Int) (k : Nat) (c : Cli) (j : Nat) : (evsOf l k c j).length = j := by simp [evsOf]
theorem evsOf_succ (l : List Int) (k : Nat) (c : Cli) (j : Nat) : evsOf l k c (j + 1) = evsOf l k c j ++ [evAt l k c j] := by simp [evsOf, List.range_succ]
theorem evsOf_get (l : List Int) (k : Nat) (c : Cli) (n j : Nat) (h : j < (evsOf l k c n).length) : (evsOf l k c n)[j] = evAt l k c j := by simp [evsOf]
theorem st_ok (l : List Int) (k : Nat) (c : Cli) (hc : c.ok) : ∀ j, (stOf l k c j).2.ok ∧ (stOf l k c j).1 ≤ k + 30 * j
  | 0 => ⟨hc, by simp [stOf]⟩
  | j + 1 => by
    have ih := st_ok l k c hc j
    obtain ⟨cd, sd, dn, _, h⟩ := step_ok _ _ ih.1 (evOf_ok l (stOf l k c j).1 (stOf l k c j).2)
    have := evK_le l (stOf l k c j).1
    exact ⟨h.ok, by show evK l (stOf l k c j).1 ≤ _; omega⟩

/-- the invariant: the result's block, the source, the client, the first client, the events -/
structure DInv (w : World) (g q : Nat) (v : Value) (l : List Int) (c0 c : Cli) (k : Nat) (ev : Value) (E : List Cev) (wr : World) : Prop where
  own : OwnV wr (q + 2) ev E
  bc : Blk wr q #[.int .i64 c.id, .int .i64 c.sv, .int .i64 c.rt, .int .i64 c.sq, .int .i64 c.bs, .int .i64 c.tg, .int .i64 c.wt, .int .i64 c.ccl, .int .i64 c.csq, .int .i64 c.cop, .string c.ck, .string c.cv, .string c.co] 35
  bf : Blk wr (q + 1) #[.int .i64 c0.id, .int .i64 c0.sv, .int .i64 c0.rt, .int .i64 c0.sq, .int .i64 c0.bs, .int .i64 c0.tg, .int .i64 c0.wt, .int .i64 c0.ccl, .int .i64 c0.csq, .int .i64 c0.cop, .string c0.ck, .string c0.cv, .string c0.co] 35
  br : Blk wr w.heap.size #[.int .i64 0, .int .i64 0, .int .i64 0, .int .i64 0, .int .i64 0, .int .i64 0, .int .i64 0, .int .i64 0, .int .i64 0, .int .i64 0, .string ⟨#[]⟩, .string ⟨#[]⟩, .string ⟨#[]⟩] 35
  src : Src wr g v l k
  bel : Below w.heap.size w wr
  gw : w.heap.size < g
  gq : g < q
  lt : q + 2 ≤ wr.heap.size
  bs : Bs w v l

theorem DInv.grown {w : World} {g q : Nat} {v : Value} {l : List Int} {c0 c : Cli} {k k' : Nat} {ev : Value} {E : List Cev} {wr wr' : World} (h : DInv w g q v l c0 c k ev E wr) (hg : wr.grownBy wr' (some g)) (hs : Src wr' g v l k') : DInv w g q v l c0 c k' ev E wr' := by
  have h1 := h.gw
  have h2 := h.gq
  have h3 := h.lt
  have h4 := hg.size
  exact ⟨h.own.grown hg (by omega), h.bc.grown hg (by omega), h.bf.grown hg (by omega), h.br.grown hg (by omega), hs, h.bel.grown hg (by omega) (fun k e => by injection e with e; omega), h1, h2, by omega, h.bs⟩
theorem DInv.below {w : World} {g q : Nat} {v : Value} {l : List Int} {c0 c : Cli} {k : Nat} {ev : Value} {E : List Cev} {wr wr' : World} (h : DInv w g q v l c0 c k ev E wr) (hb : Below wr.heap.size wr wr') : DInv w g q v l c0 c k ev E wr' := by
  have h1 := h.gw
  have h2 := h.gq
  have h3 := h.lt
  have h4 := hb.size
  exact ⟨h.own.below hb, h.bc.below hb h.bc.lt, h.bf.below hb h.bf.lt, h.br.below hb h.br.lt, h.src.below hb, h.bel.trans (hb.mono (by omega)), h1, h2, by omega, h.bs⟩
theorem DInv.alloc {w : World} {g q : Nat} {v : Value} {l : List Int} {c0 c : Cli} {k : Nat} {ev : Value} {E : List Cev} {wr : World} (h : DInv w g q v l c0 c k ev E wr) (o : Obj) : DInv w g q v l c0 c k ev E (wr.alloc o) := h.below ((Below.refl _ _).alloc (Nat.le_refl _) _)
theorem DInv.far {w : World} {g q : Nat} {v : Value} {l : List Int} {c0 c : Cli} {k : Nat} {ev : Value} {E : List Cev} {wr : World} (h : DInv w g q v l c0 c k ev E wr) {b : Nat} (hb : b < q + 2) : ev.ownBlock ≠ some b := fun e => by
  have := (h.own.2.lt b e).1
  omega
theorem Src.move {w1 w2 : World} {g : Nat} {v : Value} {l : List Int} {k : Nat} (h : Src w1 g v l k) (hb : w2.heap[g]? = w1.heap[g]?) (hB : Bs w2 v l) : Src w2 g v l k := by
  obtain ⟨h1, h2, _, h4, h5⟩ := h
  have hlt : g < w2.heap.size := by
    rcases Nat.lt_or_ge g w2.heap.size with h' | h'
    · exact h'
    · rw [Array.getElem?_eq_none h', Array.getElem?_eq_getElem h1] at hb
      cases hb
  refine ⟨hlt, fun i => ?_, hB, (World.cell?_of_block (w := w1) hb).trans h4, (World.cell?_of_block (w := w1) hb).trans h5⟩
  have := h2 i
  simp only [World.frozen?, hb] at this ⊢
  exact this
/-- behind an append to the events -/
theorem DInv.app {w : World} {g q : Nat} {v : Value} {l : List Int} {c0 c : Cli} {k : Nat} {ev : Value} {E : List Cev} {wr wr' : World} {ev' : Value} {E' : List Cev} (h : DInv w g q v l c0 c k ev E wr) (ho : OwnV wr' (q + 2) ev' E') (hg : Grew wr ev wr' ev') : DInv w g q v l c0 c k ev' E' wr' := by
  have h1 := h.gw
  have h2 := h.gq
  have h3 := h.lt
  have h4 := hg.g.size
  have hk : ∀ b, b < q + 2 → wr'.heap[b]? = wr.heap[b]? := fun b hb => hg.block (by omega) (h.far hb)
  have hbel : Below w.heap.size w wr' := h.bel.trans ⟨hg.g.os, hg.g.tape, hg.g.output, h4, fun b hb => hk b (by omega)⟩
  exact ⟨ho, h.bc.keep (hk _ (by omega)), h.bf.keep (hk _ (by omega)), h.br.keep (hk _ (by omega)), h.src.move (hk _ (by omega)) (h.bs.below hbel), hbel, h1, h2, by omega, h.bs⟩
/-- behind the client's store -/
theorem DInv.put {w : World} {g q : Nat} {v : Value} {l : List Int} {c0 c : Cli} {k : Nat} {ev : Value} {E : List Cev} {wr : World} {c' : Cli} (h : DInv w g q v l c0 c k ev E wr) : DInv w g q v l c0 c' k ev E (wr.setRow q #[.int .i64 c'.id, .int .i64 c'.sv, .int .i64 c'.rt, .int .i64 c'.sq, .int .i64 c'.bs, .int .i64 c'.tg, .int .i64 c'.wt, .int .i64 c'.ccl, .int .i64 c'.csq, .int .i64 c'.cop, .string c'.ck, .string c'.cv, .string c'.co]) := by
  have h1 := h.gw
  have h2 := h.gq
  have h3 := h.lt
  have hk : ∀ b, b ≠ q → (wr.setRow q #[.int .i64 c'.id, .int .i64 c'.sv, .int .i64 c'.rt, .int .i64 c'.sq, .int .i64 c'.bs, .int .i64 c'.tg, .int .i64 c'.wt, .int .i64 c'.ccl, .int .i64 c'.csq, .int .i64 c'.cop, .string c'.ck, .string c'.cv, .string c'.co]).heap[b]? = wr.heap[b]? := fun b hb => setRow_other wr q b _ hb
  have hbel : Below w.heap.size w (wr.setRow q #[.int .i64 c'.id, .int .i64 c'.sv, .int .i64 c'.rt, .int .i64 c'.sq, .int .i64 c'.bs, .int .i64 c'.tg, .int .i64 c'.wt, .int .i64 c'.ccl, .int .i64 c'.csq, .int .i64 c'.cop, .string c'.ck, .string c'.cv, .string c'.co]) := below_row h.bel (by omega) _
  exact ⟨h.own.block fun b e => hk b (by have := (h.own.2.lt b e).1; omega), h.bc.row _, h.bf.keep (hk _ (by omega)), h.br.keep (hk _ (by omega)), h.src.move (hk _ (by omega)) (h.bs.below hbel), hbel, h1, h2, by simpa [World.setRow] using h3, h.bs⟩
/-- .. and the event's block -/
structure DInvE (w : World) (g q b : Nat) (v : Value) (l : List Int) (c0 c : Cli) (k : Nat) (ev : Value) (E : List Cev) (C : Array Value) (wr : World) : Prop where
  inv : DInv w g q v l c0 c k ev E wr
  be : Blk wr b C 45
  bq : q + 2 ≤ b
  far : ev.ownBlock ≠ some b
theorem DInvE.new {w : World} {g q : Nat} {v : Value} {l : List Int} {c0 c : Cli} {k : Nat} {ev : Value} {E : List Cev} {wr : World} (h : DInv w g q v l c0 c k ev E wr) (C : Array Value) : DInvE w g q wr.heap.size v l c0 c k ev E C (wr.alloc (.cells C 45)) :=
  ⟨h.alloc _, Blk.new _ _ _, h.lt, fun e => by have := (h.own.2.lt _ e).2; omega⟩
theorem DInvE.drew {w : World} {g q b : Nat} {v : Value} {l : List Int} {c0 c : Cli} {k : Nat} {ev : Value} {E : List Cev} {C : Array Value} {wr : World} (h : DInvE w g q b v l c0 c k ev E C wr) : DInvE w g q b v l c0 c k ev E C wr.drew :=
  ⟨h.inv.below ((Below.refl _ _).drew), h.be.drew, h.bq, h.far⟩
theorem DInvE.grown {w : World} {g q : Nat} {v : Value} {l : List Int} {c0 c : Cli} {k : Nat} {ev : Value} {E : List Cev} {wr wr' : World} {b k' : Nat} {C : Array Value} (h : DInvE w g q b v l c0 c k ev E C wr) (hg : wr.grownBy wr' (some g)) (hs : Src wr' g v l k') : DInvE w g q b v l c0 c k' ev E C wr' :=
  ⟨h.inv.grown hg hs, h.be.grown hg (by have := h.bq; have := h.inv.gq; omega), h.bq, h.far⟩
theorem DInvE.set {w : World} {g q b : Nat} {v : Value} {l : List Int} {c0 c : Cli} {k : Nat} {ev : Value} {E : List Cev} {C : Array Value} {wr : World} (h : DInvE w g q b v l c0 c k ev E C wr) (j : Nat) (x : Value) : DInvE w g q b v l c0 c k ev E (C.setIfInBounds j x) (wr.setCell ⟨b, j, none⟩ x) := by
  have h1 := h.inv.gw
  have h2 := h.inv.gq
  have h3 := h.inv.lt
  have h5 := h.bq
  have hk : ∀ i, i ≠ b → (wr.setCell ⟨b, j, none⟩ x).heap[i]? = wr.heap[i]? := fun i hi => Below.heap_setCell _ _ _ _ hi
  have hbel : Below w.heap.size w (wr.setCell ⟨b, j, none⟩ x) := h.inv.bel.setCell (show w.heap.size ≤ b by omega) _
  exact ⟨⟨h.inv.own.block fun i e => hk i (fun e' => h.far (e' ▸ e)), h.inv.bc.keep (hk _ (by omega)), h.inv.bf.keep (hk _ (by omega)), h.inv.br.keep (hk _ (by omega)), h.inv.src.move (hk _ (by omega)) (h.inv.bs.below hbel), hbel, h1, h2, by simpa [World.setCell] using h3, h.inv.bs⟩, h.be.set j x, h5, h.far⟩
end Go.Proofs.Ytclphmakokpnnaa
